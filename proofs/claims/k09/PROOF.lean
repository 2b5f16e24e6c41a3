import PyProof.Rows.All
import Wide.All
import OpenK.AllK
import Wide.FinOn
import PyProof.ReprRoads
import PyProof.EqAt
import PyProof.EqKinds
import PyProof.TupleCall
import HandS.ForMost
import HandS.Wide
import PyProof.NeKinds
import PyProof.FactsAll.dict_1
import HandS.IsInst
import PySem.Challenge.RW_oncepost_k09_whole_runs_and_their_footpr
import HandS.Defaults
import PyProof.ReprBulk
import HandS.TupAny
import HandS.Conv
import KE.KSortTupG
import KE.LtSeq
import KE.KDictPairs
import HandS.DictComp
import HandS.SetFor
import HandS.Strs
import HandS.SetKeys
import PyProof.Rows.TmSorted
import PyProof.Rows.StrMeet
import HandS.ExcInit
import HandS.ExcOwn
import HandS.WordsExc
import KE.KDictZip
import HandS.Zip
import HandS.Deep
import HandS.Style
import KE.RegKTryMore
set_option Elab.async false
set_option linter.all false
set_option maxRecDepth 100000
/-! Promises of defs where no repr runs around (A.guards = some []); repr of data; the law's end by such a promise. -/
namespace RG
open PySem PySem.Spec PyProof.Rows L2
/-- a def's promise, to be used where nothing of repr runs around -/
structure FnG (P : Program) (w : World) (K : PySem.W.Frag) (mg : Str → Option Value) (base : Heap) (CX : CXT) (n : Nat) (fn : Addr) (data : FuncData) (pars : List Str) (sp : Sp) : Prop where
  count : ∀ ys G Want Err, sp ys G Want Err → ys.length = pars.length
  go : ∀ (B : Around) (up : List Env) (st : Shared) (G : Hp) (given : Args) (ws : List Value) (ys : List V) (Want : VK) (Err : XK),
    B.guards = some [] → Room n B → Env0 P w K mg base B up st G → BindsTo st data given (pars.zip ws) → Vals ys ws → sp ys G Want Err →
      codeAny (model P w) B (.call (.ref fn) given) (CR CX up P w G st Want Err) st
section
variable {P : Program} {w : World} {K : PySem.W.Frag} {mg : Str → Option Value} {base : Heap} {CX : CXT} {n m : Nat} {fn : Addr} {data : FuncData} {pars : List Str} {sp : Sp}
theorem FnG.of (F : FnOk P w K mg base CX n fn data pars sp) : FnG P w K mg base CX n fn data pars sp :=
  ⟨F.len, fun B up st G given ws ys Want Err _ => F.run B up st G given ws ys Want Err⟩
theorem FnG.mono (F : FnG P w K mg base CX n fn data pars sp) (h : n ≤ m) : FnG P w K mg base CX m fn data pars sp :=
  ⟨F.count, fun B up st G given ws ys Want Err hg hr => F.go B up st G given ws ys Want Err hg (hr.mono h)⟩
/-- the rule for a def of the text: its body, run where nothing of repr is around -/
theorem okG {x qual : Str} {text : Stmt} {N : List Str} (F : Fun K x qual text fn data) (S : FnScope N pars (defScope text)) (count : ∀ ys G Want Err, sp ys G Want Err → ys.length = pars.length)
    (body : ∀ (cd : Value) (B : Around) (up : List Env) (st : Shared) (G : Hp) (ys : List V) (Want : VK) (Err : XK),
      (B.deeper (envOfC qual (defScope text) st.heap.objs.size fn cd)).guards = some [] → Room n (B.deeper (envOfC qual (defScope text) st.heap.objs.size fn cd)) → sp ys G Want Err →
      ∃ t, PSs (cxOf CX P w K mg base N qual (defScope text) fn cd B up st G Err).nox (defBody text) t ∧ t { nx := fun _ G' => Want .non G', rt := Want } (start N ys) G) :
    FnG P w K mg base CX (n + 1) fn data pars sp := by
  obtain ⟨oc, od, kV, doc, pm, an, cd, ct, osl, rfl, at_, hcd⟩ := F.ex
  constructor
  · exact count
  intro B up st G given ws ys Want Err hg hr e0 hb rel told
  have inK : K.In st.heap := e0.mod.kin.keeps (fun b o e => And.left (e0.bs b o e))
  have lim : st.heap.NoLimit := e0.mod.nolimit.keeps (fun b o e => And.left (e0.bs b o e))
  have kinds : ∀ y ∈ pars.zip ws, (defScope text).names.lookup y.1 = some .local ∨ ((defScope text).names.lookup y.1 = some .cell ∧ ((cellsFrom (st.heap.objs.size + 1) (defScope text).names []).lookup y.1).isSome = true) := by
    intro ⟨name, val⟩ hy
    refine (S.par name (List.of_mem_zip hy).1).imp id fun q => ?_
    exact ⟨q, PySem.W.cellsFrom_some _ _ _ (.inl q)⟩
  apply codeAny_call_function hr.depth (inK _ _ at_) rfl S.co S.gen rfl (PySem.W.codeRec_of inK hcd)
  apply hb
  refine wpAny_newFunctionEnv_cells S.kind kinds fun env same s1 inside => ?_
  cases same
  refine ⟨lim.keeps inside.toInCall.keep, codeAny_func ?_⟩
  obtain ⟨t, derived, reading⟩ := body cd B up st G ys Want Err hg (hr.deeper _) told
  have I0 := inv_start (CX := CX) (E := Err) (w := w) (P := P) S hr.hd e0 (count _ _ _ _ told) rel inside
  have back : ∀ {σ1 : L2.St} {G1 : Hp} {y : V} {u : Value} {st1 : Shared}, Inv (cxOf CX P w K mg base N qual (defScope text) fn cd B up st G Err) [] σ1 G1 st1 → RelV y u → Want y G1 → CE up P w G st Want u st1 := by
    intro σ1 G1 y u st1 J ry q
    exact ⟨y, G1, J.os, J.bare, J.base, J.hok, ry, q⟩
  refine wpAny_mono (derived.nox.run [] s1 (start N ys) G _ I0 reading) (fun flow st1 told1 => ?_) (fun _ _ z => z)
  match flow, told1 with
  | .ret u, ⟨y, σ1, G1, J, ry, q⟩ => exact back J ry q
  | .next, ⟨σ1, G1, J, q⟩ => exact back (y := V.non) (u := Value.none) J rfl q
  | .brk, ⟨_, _, _, q⟩ => exact q.elim
  | .cont, ⟨_, _, _, q⟩ => exact q.elim
end
section
variable {X : Cx} {CX : CXT} {n : Nat} {fn : Addr} {data : FuncData} {pars : List Str} {sp : Sp} {dvs : List V} {ds : List Value} {Err : XK}
theorem runG {pins : List (Addr × Obj)} {σ : L2.St} {G : Hp} {st : Shared} {Want : VK} {ws : List Value} {ys : List V} (F : FnG X.prog X.w X.K X.mg X.base CX n fn data pars sp) (hg : X.A.guards = some []) (hr : Room n X.A) (hb : Binds X.K data pars ds) (hd : Vals dvs ds)
    (hx : Passes CX X Err) (I : Inv X pins σ G st) (rel : Vals ys ws) (told : sp (ys ++ dvs) G Want Err) : wpAny (model X.prog X.w) X.A (call (.ref fn) ws) (EP X pins σ Want) X.xe st := by
  have both : Vals (ys ++ dvs) (ws ++ ds) := rel.append hd
  have size : (ws ++ ds).length = pars.length := (Vals.length both).symm.trans (F.count _ _ _ _ told)
  apply wpAny_call
  apply codeAny_mono (F.go X.A X.stack st G ⟨ws, []⟩ (ws ++ ds) (ys ++ dvs) Want Err hg hr I.env0 (hb st ws I.kIn size) both told)
  intro res st1 hq
  match res, hq with
  | .ok (.ret u), hq => exact I.after hq
  | .error e, hq => exact hx pins σ G st e st1 I hq
  | .ok .next, hq => exact hq.elim
  | .ok .brk, hq => exact hq.elim
  | .ok .cont, hq => exact hq.elim
/-- f(..), f by such a promise -/
theorem pe_callg {x : Str} {p pos : Pos} {e : Expr} {es : List Expr} {t : TA} (F : FnG X.prog X.w X.K X.mg X.base CX n fn data pars sp) (gd : X.A.guards = some []) (hr : Room n X.A) (hg : Gl X x) (hm : X.mg x = some (.ref fn)) (hk : PySem.W.keepIn X.K (.ref fn) = true)
    (hb : Binds X.K data pars ds) (hd : Vals dvs ds) (hx : Passes CX X Err) (ha : PA X (e :: es) t) (hdb : (x == ("__debug__" : Str)) = false := by decide)
    (he : starEach (e :: es) X.env = (false, eval e X.env) :: starEach es X.env := by rfl) (hpl : (backTo pos (starEach es X.env)).any (·.1) = false := by rfl) :
    PE X (.Call (.Name x p) (e :: es) [] pos) (tCall sp dvs Err t) := by
  constructor
  intro pins st σ G Want I told
  refine wpAny_Call_Name_kw (ld_glob I hg hm (PySem.W.callWith_K (h₀ := X.base) I.ok.mod.kin hk ?_ he hpl) hdb)
  refine thn (ha.run pos pins st σ G _ I told) fun ws st1 behind => ?_
  obtain ⟨ys, G1, I1, rel, q⟩ := behind
  exact ⟨I1.kIn, runG F gd hr hb hd hx I1 rel q⟩
end
end RG
namespace RG
open PySem PySem.Spec PyProof.Rows L2
section
variable {P : Program} {w : World} {K : PySem.W.Frag} {mg mb : Str → Option Value} {CX : CXT} {n : Nat} {fn script : Addr} {data : FuncData} {x : Str} {sp : Sp} {st : Shared} {items : List Value} {ns : List Int}
/-- only the script is tracked -/
def scriptAt (a : Addr) (items : List Value) (ns : List Int) : Hp := fun b => if b = a then some (.frz { cls := .type "list", data := .seq items.toArray } (.lst (ns.map V.int))) else none
theorem scriptAt_same {a : Addr} {items : List Value} {ns : List Int} : scriptAt a items ns a = some (.frz { cls := .type "list", data := .seq items.toArray } (.lst (ns.map V.int))) := if_pos rfl
theorem scriptAt_ne {a b : Addr} {items : List Value} {ns : List Int} (h : b ≠ a) : scriptAt a items ns b = none := if_neg h
/-- the law's call, from a heap in which nothing but the script may be tracked -/
theorem lawG_at (G : Hp) (inK : K.In st.heap) (glob : st.heap.Ns mainGlobals mg) (blt : st.heap.Ns builtinsNs mb) (are : ∀ y : Str, y ≠ "__name__" → mb y = bootBuiltins y) (lim : st.heap.NoLimit) (nogen : st.gens = #[])
    (there : st.heap.get? script = some { cls := .type "list", data := .seq items.toArray }) (room : Room n callerA)
    (F : ∀ base : Heap, K.In base → base.Ns mainGlobals mg → FnG P w K mg base CX n fn data [x] sp) (binds : ∀ (s : Shared) (u : Value), BindsTo s data ⟨[u], []⟩ [(x, u)])
    (told : sp [.ref script] G (fun v _ => v = .bl true) fun _ _ _ => False) (quiet : ∀ e s', CX [] G st (fun _ _ _ => False) e s' → False)
    (only : Only G) (held : HOk P w G st.heap) (one : ∀ b, G b ≠ none → b = script) (apart : G script ≠ none → K.lookup script = none) :
    codeAny (model P w) callerA (.call (.ref fn) ⟨[.ref script], []⟩) (fun r s' => r = .ok (.ret (.bool true)) ∧ OldK st.heap s'.heap ∧ s'.os = st.os ∧ AllBare s'.gens) st := by
  have free_of : ∀ {b : Addr}, b ≠ script → G b = none := by
    intro b hb
    apply Classical.byContradiction
    intro q
    exact hb (one b q)
  have dict_free : ∀ {b : Addr} {o : Obj} {es : Array DictEntry} {ep : Nat}, st.heap.get? b = some o → o.data = .dict es ep → G b = none := by
    intro b o es ep e d
    apply free_of
    intro z
    subst z
    rw [there] at e
    injection e with e
    subst e
    exact nomatch d
  have ns_in : ∀ {b : Addr} {m : Str → Option Value}, st.heap.Ns b m → (hidT st.heap G).Ns b m := by
    intro b m h
    obtain ⟨o, es, ep, e, d, more⟩ := h
    exact ⟨o, es, ep, hidT_get e (dict_free e d), d, more⟩
  have inB : K.In (hidT st.heap G) := by
    intro b o e
    refine hidT_get (inK b o e) ?_
    by_cases hb : b = script
    · subst hb
      apply Classical.byContradiction
      intro q
      rw [apart q] at e
      exact nomatch e
    · exact free_of hb
  have ground : Mod K mg (hidT st.heap G) := by
    obtain ⟨mc, l1, l2⟩ := lim
    exact ⟨inB, ns_in glob, ⟨mb, ns_in blt, are⟩, ⟨mc, ns_in l1, l2⟩⟩
  have e0 : Env0 P w K mg (hidT st.heap G) callerA [] st G :=
    ⟨rfl, ground, fun b o => of_hidT, Nat.le_of_eq (hidT_size _ _), True.intro, fun b z => (List.not_mem_nil z).elim, held, .of_eq nogen⟩
  apply codeAny_mono ((F _ inB (ns_in glob)).go callerA [] st G ⟨[.ref script], []⟩ [.ref script] [.ref script] _ _ rfl room e0 (binds st (.ref script)) (.cons rfl .nil) told)
  intro r s' h
  match r, h with
  | .error e, h => exact (quiet e s' h).elim
  | .ok .next, h => exact h.elim
  | .ok .brk, h => exact h.elim
  | .ok .cont, h => exact h.elim
  | .ok (.ret u), ⟨v, G', sameOs, bare, un, held', rv, yes⟩ =>
    subst yes
    cases (show u = Value.bool true from rv)
    refine ⟨rfl, OldK.of_keep ?_, sameOs, bare⟩
    intro b o e
    rcases only b with q | ⟨ob, xs, q⟩
    · exact un.keep b o e q List.not_mem_nil List.not_mem_nil
    · have h1 := (held b _ q).1
      have h2 := (held' b _ (un.frzs b ob _ q)).1
      rw [h2]
      exact h1.symm.trans e
theorem lawG (inK : K.In st.heap) (glob : st.heap.Ns mainGlobals mg) (blt : st.heap.Ns builtinsNs mb) (are : ∀ y : Str, y ≠ "__name__" → mb y = bootBuiltins y) (lim : st.heap.NoLimit) (nogen : st.gens = #[])
    (there : st.heap.get? script = some { cls := .type "list", data := .seq items.toArray }) (wholes : IntsAre items ns) (line : ns.length ≤ sizeLine) (room : Room n callerA)
    (F : ∀ base : Heap, K.In base → base.Ns mainGlobals mg → FnG P w K mg base CX n fn data [x] sp) (binds : ∀ (s : Shared) (u : Value), BindsTo s data ⟨[u], []⟩ [(x, u)])
    (told : ∀ G : Hp, Only G → SqL K G script (ns.map V.int) → sp [.ref script] G (fun v _ => v = .bl true) fun _ _ _ => False) (quiet : ∀ G e s', CX [] G st (fun _ _ _ => False) e s' → False) :
    codeAny (model P w) callerA (.call (.ref fn) ⟨[.ref script], []⟩) (fun r s' => r = .ok (.ret (.bool true)) ∧ OldK st.heap s'.heap ∧ s'.os = st.os ∧ AllBare s'.gens) st := by
  have rel := vals_ints wholes
  cases own : K.lookup script with
  | none =>
    have only : Only (scriptAt script items ns) := by
      intro b
      by_cases hb : b = script
      · rw [hb]
        exact .inr ⟨_, _, scriptAt_same⟩
      · exact .inl (scriptAt_ne hb)
    refine lawG_at _ inK glob blt are lim nogen there room F binds (told _ only (.inl (.inr ⟨_, scriptAt_same⟩))) (quiet _) only ?_ ?_ (fun _ => own)
    · intro b u z
      by_cases hb : b = script
      · rw [hb, scriptAt_same] at z
        cases z
        rw [hb]
        exact ⟨there, by rw [List.length_map]; exact line, items, _, rel, there⟩
      · exact nomatch (scriptAt_ne hb).symm.trans z
    · intro b z
      apply Classical.byContradiction
      intro hb
      exact z (scriptAt_ne hb)
  | some o =>
    cases (inK script o own).symm.trans there
    have only : Only (fun _ => none) := fun _ => .inl rfl
    refine lawG_at _ inK glob blt are lim nogen there room F binds (told _ only (.inr ?_)) (quiet _) only (fun _ _ z => nomatch z) (fun _ z => (z rfl).elim) (fun z => (z rfl).elim)
    have size := wholes.length
    exact ⟨_, items.toArray, _, own, rfl, rfl, rfl, by rw [List.size_toArray, size]; exact line, by simpa using rel⟩
end
/-- the goal that the head leaves, from the law's promise -/
theorem walkG {l : PySem.W.OpenLaw} {most n : Nat} {q : Program} {loose : List Str} {XP : (Str → Option Value) → Heap → Prop} {YP : World → Heap → Prop} {d : DefRec} {K : Params → PySem.W.Frag} {CX : CXT} {sp : PySem.W.Frag → Sp} {x : Str}
    (hm : l.most = some most) (hl : most ≤ sizeLine) (hdf : d.params.defaults = []) (room : Room n callerA) (hY : ∀ (w : World) (h : Heap), YP w h → (K w.params).In h)
    (F : ∀ (w : World) (mg : Str → Option Value) (fn : Addr) (h : Heap), (K w.params).In h → h.Ns mainGlobals mg → mg d.name = some (.ref fn) →
      ∃ data : FuncData, (∀ (s : Shared) (u : Value), BindsTo s data ⟨[u], []⟩ [(x, u)]) ∧ ∀ base : Heap, (K w.params).In base → base.Ns mainGlobals mg → FnG l.prog w (K w.params) mg base CX n fn data [x] (sp (K w.params)))
    (told : ∀ (K : PySem.W.Frag) (G : Hp) (a : Addr) (ns : List Int), ns.length ≤ most → Only G → SqL K G a (ns.map V.int) → sp K [.ref a] G (fun v _ => v = .bl true) fun _ _ _ => False)
    (quiet : ∀ (G : Hp) (s : Shared) (e : Value) (s' : Shared), CX [] G s (fun _ _ _ => False) e s' → False) : PySem.W.WalkO q loose XP YP l.row.toRowW d [] (fun f vs => PySem.call f vs) := by
  apply Att.attach_call hm hdf
  intro w s₀ st mg mb fn o pm cd doc a items ns ground more _ _ _ named there wholes short nogen
  obtain ⟨data, binds, ok⟩ := F w mg fn _ (hY w _ more) ground.T.g named
  exact lawG (hY w _ more) ground.T.g ground.T.b ground.T.builtins ground.T.nolimit nogen there wholes (Nat.le_trans short hl) room ok binds (fun G => told _ G a ns short) (fun G e s' => quiet G st e s')
end RG
namespace RG
open PySem PySem.Spec PyProof.Rows L2
/-! ### repr of data -/
def keyD : Key → PyData
  | .inl i => .int i
  | .inr x => .str x
mutual
/-- v is data, as repr reads it -/
inductive Rp (K : PySem.W.Frag) (G : Hp) : V → PyData → Prop
  | non : Rp K G .non .none
  | bl (b : Bool) : Rp K G (.bl b) (.bool b)
  | int (i : Int) : Rp K G (.int i) (.int i)
  | str (x : Str) : Rp K G (.str x) (.str x)
  | lst {a : Addr} {xs : List V} {ds : List PyData} : SqL K G a xs → RpAll K G xs ds → a ≠ sysModules → Rp K G (.ref a) (.list ds)
  | tup {a : Addr} {xs : List V} {ds : List PyData} : SqT K G a xs → RpAll K G xs ds → Rp K G (.ref a) (.tuple ds)
  | dic {a : Addr} {kvs : List (Key × V)} {ps : List (PyData × PyData)} : G a = some (.dK kvs) → ps.map (·.1) = kvs.map (fun p => keyD p.1) → RpAll K G (kvs.map (·.2)) (ps.map (·.2)) → Rp K G (.ref a) (.dict ps)
inductive RpAll (K : PySem.W.Frag) (G : Hp) : List V → List PyData → Prop
  | nil : RpAll K G [] []
  | cons {v : V} {vs : List V} {d : PyData} {ds : List PyData} : Rp K G v d → RpAll K G vs ds → RpAll K G (v :: vs) (d :: ds)
end
section
variable {X : Cx} {pins : List (Addr × Obj)} {σ : L2.St} {G : Hp} {st : Shared}
theorem key_reads {h : Heap} {k : Key} {u : Value} (q : keyIs k u = true) : Reads h u (keyD k) [] := by
  rcases keyIs_shape q with ⟨i, t, rfl, rfl⟩ | ⟨x, t, rfl, rfl⟩
  · exact .int i t
  · exact .str x t
theorem keys_read {P : Program} {w : World} {h : Heap} : ∀ {es : List DictEntry} {kvs : List (Key × V)} {vs : List (Key × Value)}, KV kvs vs → Pairs (mixKind P w) es vs → ReadsAll h (es.map (·.key)) (kvs.map fun p => keyD p.1) []
  | [], _, _, r, .nil => by
    cases r
    exact .nil
  | e :: es, _, _, r, .cons hk _ more => by
    cases r with
    | cons r0 r1 =>
      rename_i kv kvs'
      have q := keys_read (h := h) r1 more
      have q0 : Reads h e.key (keyD kv.1) [] := by
        rw [r0.1]
        exact key_reads hk
      exact ReadsAll.cons q0 q
theorem vals_read {P : Program} {w : World} : ∀ {es : List DictEntry} {kvs : List (Key × V)} {vs : List (Key × Value)}, KV kvs vs → Pairs (mixKind P w) es vs → Vals (kvs.map (·.2)) (es.map (·.val))
  | [], _, _, r, .nil => by
    cases r
    exact .nil
  | e :: es, _, _, r, .cons _ hv more => by
    cases r with
    | cons r0 r1 =>
      refine .cons ?_ (vals_read r1 more)
      show L2.RelV _ e.val
      rw [hv]
      exact r0.2
mutual
theorem Rp.reads (I : Inv X pins σ G st) : ∀ (d : PyData) (v : V) (u : Value), Rp X.K G v d → RelV v u → ∃ as, Reads st.heap u d as ∧ sysModules ∉ as
  | .none, _, _, h, r => by
    cases h
    cases r
    exact ⟨_, .none, List.not_mem_nil⟩
  | .bool b, _, _, h, r => by
    cases h
    cases r
    exact ⟨_, .bool b, List.not_mem_nil⟩
  | .int i, _, _, h, r => by
    cases h
    obtain ⟨t, rfl⟩ := r
    exact ⟨_, .int i t, List.not_mem_nil⟩
  | .str x, _, _, h, r => by
    cases h
    obtain ⟨t, rfl⟩ := r
    exact ⟨_, .str x t, List.not_mem_nil⟩
  | .list ds, _, _, h, r => by
    cases h with
    | lst hs ha hn =>
      cases r
      obtain ⟨its, rv, ⟨o, n, ho, hc, _, hd⟩, _⟩ := I.list hs
      obtain ⟨as, q, out⟩ := Rp.readsAll I ds _ its ha rv
      refine ⟨_, .list ho hc hd q, fun m => ?_⟩
      rcases List.mem_cons.mp m with e | m
      · exact hn e.symm
      · exact out m
  | .tuple ds, _, _, h, r => by
    cases h with
    | tup hs ha =>
      cases r
      obtain ⟨its, rv, ⟨o, ho, hc, n, hd⟩, _⟩ := I.tuple hs
      obtain ⟨as, q, out⟩ := Rp.readsAll I ds _ its ha rv
      exact ⟨_, .tuple ho hc hd q, out⟩
  | .dict ps, _, _, h, r => by
    cases h with
    | dic hs hk ha =>
      rename_i a kvs
      cases r
      obtain ⟨_, low, vs, rel, o, es, ep, ho, hc, hd, _, prs, _⟩ := dk_of I.hok hs
      obtain ⟨bs, q, out⟩ := Rp.readsVals I ps _ _ ha (vals_read rel prs)
      have q1 := keys_read (h := st.heap) rel prs
      rw [← hk] at q1
      refine ⟨_, .dict ho hc.1 hd q1 q, fun m => ?_⟩
      have m' : sysModules = a ∨ sysModules ∈ bs := by simpa using m
      rcases m' with e | m'
      · rw [e] at low
        simp at low
      · exact out m'
theorem Rp.readsAll (I : Inv X pins σ G st) : ∀ (ds : List PyData) (vs : List V) (us : List Value), RpAll X.K G vs ds → Vals vs us → ∃ as, ReadsAll st.heap us ds as ∧ sysModules ∉ as
  | [], _, _, h, r => by
    cases h
    cases r
    exact ⟨_, .nil, List.not_mem_nil⟩
  | d :: ds, _, _, h, r => by
    cases h with
    | cons h1 h2 =>
      cases r with
      | cons r1 r2 =>
        obtain ⟨as, q1, o1⟩ := Rp.reads I d _ _ h1 r1
        obtain ⟨bs, q2, o2⟩ := Rp.readsAll I ds _ _ h2 r2
        refine ⟨_, .cons q1 q2, fun m => ?_⟩
        rcases List.mem_append.mp m with m | m
        · exact o1 m
        · exact o2 m
theorem Rp.readsVals (I : Inv X pins σ G st) : ∀ (ps : List (PyData × PyData)) (vs : List V) (us : List Value), RpAll X.K G vs (ps.map (·.2)) → Vals vs us → ∃ as, ReadsAll st.heap us (ps.map (·.2)) as ∧ sysModules ∉ as
  | [], _, _, h, r => by
    cases h
    cases r
    exact ⟨_, .nil, List.not_mem_nil⟩
  | (k, d) :: ps, _, _, h, r => by
    cases h with
    | cons h1 h2 =>
      cases r with
      | cons r1 r2 =>
        obtain ⟨as, q1, o1⟩ := Rp.reads I d _ _ h1 r1
        obtain ⟨bs, q2, o2⟩ := Rp.readsVals I ps _ _ h2 r2
        refine ⟨_, .cons q1 q2, fun m => ?_⟩
        rcases List.mem_append.mp m with m | m
        · exact o1 m
        · exact o2 m
end
end
section
variable {X : Cx} {k : Nat}
/-- repr(x), x data, where nothing of repr runs around -/
theorem call_repr (hg : X.A.guards = some []) (hr : Room k X.A) : CallR X (.builtin "repr") (fun xs G Want => ∃ v d, xs = [v] ∧ Rp X.K G v d ∧ d.showable = true ∧ d.depth ≤ 64 ∧ d.shown.length ≤ sizeLine ∧ Want (.str d.shown) G) := by
  intro pins st σ G ys ws Want I rel told
  obtain ⟨v, d, rfl, hd, sh, dp, sz, q⟩ := told
  obtain ⟨u, rfl, ru⟩ := vals1 rel
  have room := hr.un
  cases hd with
  | non =>
    cases ru
    refine PySem.P.repr_of_none ⟨.str _, G, I.tok _, ⟨_, rfl⟩, ?_⟩
    simpa only [PyData.shown] using q
  | bl b =>
    cases ru
    refine PySem.P.repr_of_bool ⟨.str _, G, I.tok _, ⟨_, rfl⟩, ?_⟩
    simpa only [PyData.shown] using q
  | int i =>
    obtain ⟨t, rfl⟩ := ru
    have small : i.natAbs.log2 < 1920 := by simpa [PyData.showable] using sh
    refine PySem.P.repr_of_int small ⟨.str _, G, I.tok _, ⟨_, rfl⟩, ?_⟩
    simpa only [PyData.shown] using q
  | str x =>
    obtain ⟨t, rfl⟩ := ru
    have short : (reprText x).length ≤ sizeLine := by simpa only [PyData.shown] using sz
    refine PySem.P.repr_of_str ⟨.str _, G, I.tok _, ⟨_, rfl⟩, ?_⟩ short
    simpa only [PyData.shown] using q
  | lst a b c =>
    cases ru
    obtain ⟨as, rd, out⟩ := Rp.reads I _ _ _ (.lst a b c) rfl
    exact repr_of_reads' rd sh (fun _ => out) hg (by omega) (fun _ _ z => z) (fun h' t tk keep => ⟨.str _, G, I.kept keep, ⟨_, rfl⟩, q⟩) sz
  | tup a b =>
    cases ru
    obtain ⟨as, rd, out⟩ := Rp.reads I _ _ _ (.tup a b) rfl
    exact repr_of_reads' rd sh (fun _ => out) hg (by omega) (fun _ _ z => z) (fun h' t tk keep => ⟨.str _, G, I.kept keep, ⟨_, rfl⟩, q⟩) sz
  | dic a b c =>
    cases ru
    obtain ⟨as, rd, out⟩ := Rp.reads I _ _ _ (.dic a b c) rfl
    exact repr_of_reads' rd sh (fun _ => out) hg (by omega) (fun _ _ z => z) (fun h' t tk keep => ⟨.str _, G, I.kept keep, ⟨_, rfl⟩, q⟩) sz
/-- a list that is laid stands behind the modules' dict -/
def tLstB (t : TA) : TE := fun σ G Want => t σ G fun xs G1 => xs.length ≤ sizeLine ∧ ∀ p, G1 p = none → p ≠ sysModules → Want (.ref p) (upd G1 p (.lst xs))
theorem pe_lstB {es : List Expr} {t : TA} {pos : Pos} (h : PA X es t) : PE X (.List es pos) (tLstB t) := by
  constructor
  intro pins st σ G Want I told
  apply wpAny_List_spliced
  refine thn (h.run pos pins st σ G _ I told) fun ws s1 behind => ?_
  obtain ⟨xs, G1, I1, rel, line, q⟩ := behind
  refine ⟨by rw [← rel.length]; exact line, ?_⟩
  have free := I1.hok.fresh (Nat.le_refl s1.heap.objs.size)
  have laid : ObjOk X.prog X.w (upd G1 s1.heap.objs.size (.lst xs)) (s1.heap.push { cls := .type "list", data := .seq ws.toArray }) s1.heap.objs.size (.lst xs) := ⟨line, ws, 0, rel, Heap.get?_push_size _ rfl⟩
  exact ⟨.ref s1.heap.objs.size, _, I1.laid (t' := s1.toks) (fun _ _ z => Heap.get?_push_of_some _ z) (Nat.le_refl _) laid, rfl, q _ free (Nat.ne_of_gt I1.big)⟩
end
end RG

set_option Elab.async false
set_option linter.all false
set_option maxRecDepth 100000
/-! New lists and tuples over a heap that is not written out. -/
namespace Ab
open PySem PySem.Spec L2
/-- (e, ..), [e, ..], a + b: what is laid stands at p, all else as before -/
def tTupA (ta : TA) : TE := fun σ G Want => ta σ G fun xs G1 => xs.length ≤ sizeLine ∧ ∀ p G2, G1 p = none → Same G1 G2 → G2 p = some (.tup xs) → Want (.ref p) G2
def tLstA (ta : TA) : TE := fun σ G Want => ta σ G fun xs G1 => xs.length ≤ sizeLine ∧ ∀ p G2, G1 p = none → p ≠ sysModules → Same G1 G2 → G2 p = some (.lst xs) → Want (.ref p) G2
theorem same_up {G : Hp} {p : Addr} {o : HO} (h : G p = none) : Same G (upd G p o) := fun b u q => by
  rw [upd_ne (ne_of_none q h)]
  exact q
section
variable {X : Cx} {es : List Expr} {ta : TA} {pos : Pos}
theorem pe_tupA {k} (h : PA X es ta) : PE X (.Tuple es k pos) (tTupA ta) := by
  constructor
  intro pins st σ G Want I told
  apply wpAny_Tuple_spliced
  refine thn (h.run pos pins st σ G _ I told) fun ws s1 behind => ?_
  obtain ⟨xs, G1, I1, rel, line, q⟩ := behind
  refine ⟨by rw [← rel.length]; exact line, ?_⟩
  have free := I1.hok.fresh (Nat.le_refl s1.heap.objs.size)
  have laid : ObjOk X.prog X.w (upd G1 s1.heap.objs.size (.tup xs)) (s1.heap.push { cls := .type "tuple", data := .seq ws.toArray }) s1.heap.objs.size (.tup xs) := ⟨line, ws, rel, ⟨_, Heap.get?_push_size _ rfl, rfl, _, rfl⟩⟩
  exact ⟨.ref s1.heap.objs.size, _, I1.laid (t' := s1.toks) (fun _ _ z => Heap.get?_push_of_some _ z) (Nat.le_refl _) laid, rfl, q _ _ free (same_up free) upd_same⟩
theorem pe_lstA (h : PA X es ta) : PE X (.List es pos) (tLstA ta) := by
  constructor
  intro pins st σ G Want I told
  apply wpAny_List_spliced
  refine thn (h.run pos pins st σ G _ I told) fun ws s1 behind => ?_
  obtain ⟨xs, G1, I1, rel, line, q⟩ := behind
  refine ⟨by rw [← rel.length]; exact line, ?_⟩
  have free := I1.hok.fresh (Nat.le_refl s1.heap.objs.size)
  have laid : ObjOk X.prog X.w (upd G1 s1.heap.objs.size (.lst xs)) (s1.heap.push { cls := .type "list", data := .seq ws.toArray }) s1.heap.objs.size (.lst xs) := ⟨line, ws, 0, rel, Heap.get?_push_size _ rfl⟩
  exact ⟨.ref s1.heap.objs.size, _, I1.laid (t' := s1.toks) (fun _ _ z => Heap.get?_push_of_some _ z) (Nat.le_refl _) laid, rfl, q _ _ free (Nat.ne_of_gt I1.big) (same_up free) upd_same⟩
end
/-- {}: abstract -/
def tDicA : TE := fun _ G Want => ∀ p G2, G p = none → Same G G2 → G2 p = some (.dK []) → Want (.ref p) G2
theorem pe_dicA {X : Cx} {pos : Pos} : PE X (.Dict [] [] pos) tDicA := ⟨fun pins st σ G Want I told => (pe_dnewK (X := X) (pos := pos)).run pins st σ G Want I fun p h => told p _ h (same_up h) upd_same⟩
/-- xs + ys, two lists -/
def rCatA : R2 := fun x y G Want => ∃ l b xs zs, x = .ref l ∧ y = .ref b ∧ G l = some (.lst xs) ∧ G b = some (.lst zs) ∧ xs.length + zs.length ≤ sizeLine ∧ ∀ p G2, G p = none → Same G G2 → G2 p = some (.lst (xs ++ zs)) → Want (.ref p) G2
theorem op_catA {X : Cx} : OpR X (binaryOp .Add) rCatA := fun pins st σ G x y v u Want I rx ry ⟨l, b, xs, zs, ex, ey, hl, hb, hz, q⟩ =>
  op_cat pins st σ G x y v u Want I rx ry ⟨l, b, xs, zs, ex, ey, hl, hb, hz, fun p h => q p _ h (same_up h) upd_same⟩
end Ab

set_option Elab.async false
set_option linter.all false
set_option maxRecDepth 100000
/-! The pen: a dict of a list, a place and a rest; a draw is some int from 0 to many - 1. -/
namespace Pen
open PySem L2
/-! ### the pen's pairs -/
abbrev kC : Key := Sum.inr ("cells" : Str)
abbrev kA : Key := Sum.inr ("at" : Str)
abbrev kR : Key := Sum.inr ("rest" : Str)
def pk (c : Addr) (a r : Int) : List (Key × V) := [(kC, .ref c), (kA, .int a), (kR, .int r)]
theorem nCA : ¬ (kC = kA) := by decide +kernel
theorem nCR : ¬ (kC = kR) := by decide +kernel
theorem nAR : ¬ (kA = kR) := by decide +kernel
theorem nAC : ¬ (kA = kC) := by decide +kernel
theorem nRC : ¬ (kR = kC) := by decide +kernel
theorem nRA : ¬ (kR = kA) := by decide +kernel
theorem pk_c (c : Addr) (a r : Int) : valV (pk c a r) kC = some (.ref c) := valV_pos rfl
theorem pk_a (c : Addr) (a r : Int) : valV (pk c a r) kA = some (.int a) := (valV_neg nCA).trans (valV_pos rfl)
theorem pk_r (c : Addr) (a r : Int) : valV (pk c a r) kR = some (.int r) := ((valV_neg nCR).trans (valV_neg nAR)).trans (valV_pos rfl)
theorem sCA : ¬ (("cells" : Str) = "at") := by decide +kernel
theorem sCR : ¬ (("cells" : Str) = "rest") := by decide +kernel
theorem sRA : ¬ (("rest" : Str) = "at") := by decide +kernel
theorem sAR : ¬ (("at" : Str) = "rest") := by decide +kernel
theorem pk_putA (c : Addr) (a r x : Int) : putK (pk c a r) kA (.int x) = pk c x r := by
  unfold putK pk
  simp [sCA, sRA]
theorem pk_putR (c : Addr) (a r x : Int) : putK (pk c a r) kR (.int x) = pk c a x := by
  unfold putK pk
  simp [sCR, sAR]
theorem pk_len (c : Addr) (a r : Int) : (pk c a r).length < sizeLine := by show 3 < sizeLine; decide
structure PenAt (H : Hp) (p c : Addr) (ns : List Int) (b : Nat) : Prop where
  ex : ∃ a r : Int, H p = some (.dK (pk c a r)) ∧ 0 ≤ a ∧ a ≤ b ∧ 0 ≤ r
  ce : H c = some (.lst (ns.map V.int))
/-- all but p is as it was -/
def SameX (p : Addr) (H H' : Hp) : Prop := ∀ x o, x ≠ p → H x = some o → H' x = some o
theorem SameX.refl {p : Addr} {H : Hp} : SameX p H H := fun _ _ _ h => h
theorem SameX.trans {p : Addr} {H H1 H2 : Hp} (a : SameX p H H1) (b : SameX p H1 H2) : SameX p H H2 := fun x o n h => b x o n (a x o n h)
theorem Same.X {p : Addr} {H H' : Hp} (a : Same H H') : SameX p H H' := fun x o _ h => a x o h
theorem SameX.upd {p : Addr} {H H' : Hp} {o : HO} (a : SameX p H H') : SameX p H (upd H' p o) := fun x u n h => by
  rw [upd_ne n]
  exact a x u n h
theorem same_new {H : Hp} {l : Addr} {o : HO} (h : H l = none) : Same H (L2.upd H l o) := fun x u e => by
  rw [upd_ne (ne_of_none e h)]
  exact e
theorem PenAt.same {H H' : Hp} {p c : Addr} {ns : List Int} {b : Nat} (P : PenAt H p c ns b) (s : Same H H') : PenAt H' p c ns b := by
  obtain ⟨⟨a, r, h, q⟩, ce⟩ := P
  exact ⟨⟨a, r, s _ _ h, q⟩, s _ _ ce⟩
theorem PenAt.mono {H : Hp} {p c : Addr} {ns : List Int} {b b' : Nat} (P : PenAt H p c ns b) (h : b ≤ b') : PenAt H p c ns b' := by
  obtain ⟨⟨a, r, h0, h1, h2, h3⟩, ce⟩ := P
  exact ⟨⟨a, r, h0, h1, by omega, h3⟩, ce⟩
theorem PenAt.ne {H : Hp} {p c : Addr} {ns : List Int} {b : Nat} (P : PenAt H p c ns b) : p ≠ c := by
  obtain ⟨⟨a, r, h0, _⟩, ce⟩ := P
  exact ne_of h0 ce (by intro z; cases z)
/-! ### promises -/
def spPen (K : PySem.W.Frag) : Sp := fun vs H Q _ => ∃ (a : Addr) (ns : List Int), vs = [.ref a] ∧ SqL K H a (ns.map V.int) ∧ ns.length ≤ 63 ∧
  ∀ (p c : Addr) (H' : Hp), H p = none → PenAt H' p c ns 0 → Same H H' → Q (.ref p) H'
def spDraw : Sp := fun vs H Q _ => ∃ (p c : Addr) (ns : List Int) (b : Nat) (m : Int), vs = [.ref p, .int m] ∧ PenAt H p c ns b ∧ ns.length ≤ 63 ∧ b < 2 ^ 40 ∧ 0 < m ∧ m < 2 ^ 30 ∧
  ∀ (r : Int) (H' : Hp), 0 ≤ r → r < m → PenAt H' p c ns (b + 1) → SameX p H H' → Q (.int r) H'
def spPick (K : PySem.W.Frag) : Sp := fun vs H Q _ => ∃ (p c : Addr) (ns : List Int) (b : Nat) (l : Addr) (xs : List V), vs = [.ref p, .ref l] ∧ PenAt H p c ns b ∧ ns.length ≤ 63 ∧ b < 2 ^ 40 ∧
  H l = some (.lst xs) ∧ 0 < xs.length ∧ xs.length ≤ 1000 ∧
  ∀ (v : V) (H' : Hp), v ∈ xs → PenAt H' p c ns (b + 1) → SameX p H H' → Q v H'
/-! ### numbers -/
theorem fmod_lo {i m : Int} (h : 0 < m) : 0 ≤ i.fmod m := by rw [Int.fmod_eq_emod_of_nonneg i (by omega)]; exact Int.emod_nonneg _ (by omega)
theorem fmod_hi {i m : Int} (h : 0 < m) : i.fmod m < m := by rw [Int.fmod_eq_emod_of_nonneg i (by omega)]; exact Int.emod_lt_of_pos _ h
theorem fdiv_lo {i m : Int} (h : 0 < m) (hi : 0 ≤ i) : 0 ≤ i / m := Int.ediv_nonneg hi (by omega)
theorem div_ok {i m : Int} (h : 0 < m) (h2 : m < 2 ^ 30) : CDivW i m := wide_div h (b := 30) (by omega) (by decide) (by decide)
theorem atI_mod {ns : List Int} {a : Int} (h : ns ≠ []) : ∃ z, atI (ns.map V.int) (a.fmod (ns.length : Int)) = some (.int z) := by
  have hl : 0 < ns.length := List.length_pos_iff.mpr h
  have h1 := fmod_lo (i := a) (m := (ns.length : Int)) (by omega)
  have h2 := fmod_hi (i := a) (m := (ns.length : Int)) (by omega)
  have h3 : (a.fmod (ns.length : Int)).toNat < ns.length := by omega
  refine ⟨ns[(a.fmod (ns.length : Int)).toNat], ?_⟩
  have e : a.fmod (ns.length : Int) = ((a.fmod (ns.length : Int)).toNat : Int) := by omega
  refine at_of e ?_
  rw [List.getElem?_map, List.getElem?_eq_getElem h3]
  rfl
theorem at_mem {xs : List V} {r : Int} (h0 : 0 ≤ r) (h : r < (xs.length : Int)) : ∃ v, v ∈ xs ∧ atI xs r = some v := by
  have h3 : r.toNat < xs.length := by omega
  refine ⟨xs[r.toNat], List.getElem_mem _, ?_⟩
  have e : r = ((r.toNat : Nat) : Int) := by omega
  exact at_of e (List.getElem?_eq_getElem h3)
/-- the names that the pen's defs read -/
structure TxtP (mg : Str → Option Value) : Prop where
  int : mg "int" = none
  len : mg "len" = none
  abs : mg "abs" = none
  list : mg "list" = none
end Pen
namespace Pen
open PySem L2
/-! ### the pen read and written -/
theorem getC {H : Hp} {p c : Addr} {a r : Int} (h : H p = some (.dK (pk c a r))) : DGet H p (.str "cells") (some (.ref c)) := by
  have q := DGet.k (k := kC) h
  rw [pk_c] at q
  exact q
theorem getA {H : Hp} {p c : Addr} {a r : Int} (h : H p = some (.dK (pk c a r))) : DGet H p (.str "at") (some (.int a)) := by
  have q := DGet.k (k := kA) h
  rw [pk_a] at q
  exact q
theorem getR {H : Hp} {p c : Addr} {a r : Int} (h : H p = some (.dK (pk c a r))) : DGet H p (.str "rest") (some (.int r)) := by
  have q := DGet.k (k := kR) h
  rw [pk_r] at q
  exact q
theorem putA {H : Hp} {p c : Addr} {a r x : Int} (h : H p = some (.dK (pk c a r))) : DPut H p (.str "at") (.int x) (upd H p (.dK (pk c x r))) := by
  have q := DPut.k (k := kA) (v := .int x) h (pk_len c a r)
  rw [pk_putA] at q
  exact q
theorem putR {H : Hp} {p c : Addr} {a r x : Int} (h : H p = some (.dK (pk c a r))) : DPut H p (.str "rest") (.int x) (upd H p (.dK (pk c a x))) := by
  have q := DPut.k (k := kR) (v := .int x) h (pk_len c a r)
  rw [pk_putR] at q
  exact q
theorem dps {K : PySem.W.Frag} {H : Hp} : ∀ ns : List Int, DpAll K H (ns.map V.int) (ns.map PyData.int)
  | [] => .nil
  | _ :: ns => .cons (.int _) (dps ns)
theorem dp_ints {K : PySem.W.Frag} {H : Hp} {c : Addr} {ns : List Int} (h : H c = some (.lst (ns.map V.int))) : Dp K H (.ref c) (.list (ns.map PyData.int)) := .lst (SqL.of h) (dps ns)
end Pen
namespace Pen
open PySem L2
theorem cut63 {ns : List Int} (h : ns.length ≤ 63) : cutV (ns.map V.int) none (some 63) = ns.map V.int := by
  unfold cutV
  rw [HT.sIx_none, show (some (63 : Int)) = some (((63 : Nat) : Int)) from rfl, HT.sIx_nat]
  rw [List.drop_zero, List.length_map, Nat.min_eq_right h, Nat.sub_zero]
  exact List.take_of_length_le (by rw [List.length_map]; exact Nat.le_refl _)
theorem merge_pk (c : Addr) : mergeK [] [(kC, .ref c), (kA, .int 0), (kR, .int 0)] = pk c 0 0 := by
  have e1 : putK [] kC (V.ref c) = [(kC, V.ref c)] := putK_new _ rfl
  have e2 : putK [(kC, V.ref c)] kA (V.int 0) = [(kC, V.ref c), (kA, V.int 0)] := putK_new _ (valV_neg nCA)
  have e3 : putK [(kC, V.ref c), (kA, V.int 0)] kR (V.int 0) = [(kC, V.ref c), (kA, V.int 0), (kR, V.int 0)] := putK_new _ ((valV_neg nCR).trans (valV_neg nAR))
  show putK (putK (putK [] kC (V.ref c)) kA (V.int 0)) kR (V.int 0) = _
  rw [e1, e2, e3]
  rfl
theorem canLay_ints : ∀ ns : List Int, PyData.canLay0 (.list (ns.map PyData.int)) = true := by
  intro ns
  induction ns with
  | nil => rfl
  | cons n ns ih =>
    simp only [List.map_cons, PyData.canLay0, PyData.canLayAll0] at ih ⊢
    first | exact ih | simpa using ih
theorem depth_ints : ∀ ns : List Int, PyData.depth (.list (ns.map PyData.int)) ≤ 64 := by
  have h : ∀ ns : List Int, PyData.depthAll (ns.map PyData.int) ≤ 1 := by
    intro ns
    induction ns with
    | nil => simp [PyData.depthAll]
    | cons n ns ih => simp only [List.map_cons, PyData.depthAll, PyData.depth]; omega
  intro ns
  have := h ns
  simp only [PyData.depth]
  omega
theorem shaped_ints (ns : List Int) : SeqAt.shaped (.list (ns.map PyData.int)) = true := by
  unfold SeqAt.shaped
  rw [canLay_ints, decide_eq_true (depth_ints ns)]
  rfl
end Pen

set_option Elab.async false
set_option linter.all false
set_option maxRecDepth 100000
/-! Data that stand beside the pen. -/
namespace Dat
open PySem PySem.Spec L2 RG Pen
theorem sz {n : Nat} (h : n ≤ 99) : n ≤ sizeLine := Nat.le_trans h (by decide)
theorem szl {n : Nat} (h : n ≤ 99) : n < sizeLine := Nat.lt_of_le_of_lt h (by decide)
def delp (p : Addr) (G : Hp) : Hp := fun b => if b = p then none else G b
theorem delp_ne {p b : Addr} {G : Hp} (h : b ≠ p) : delp p G b = G b := if_neg h
theorem delp_same {p : Addr} {G G1 : Hp} (s : SameX p G G1) : Same (delp p G) (delp p G1) := fun b o h => by
  by_cases hb : b = p
  · subst hb
    have h' : (if b = b then none else G b) = some o := h
    rw [if_pos rfl] at h'
    cases h'
  · rw [delp_ne hb] at h ⊢
    exact s b o hb h
theorem delp_le {p : Addr} {G : Hp} : Same (delp p G) G := fun b o h => by
  by_cases hb : b = p
  · have h' : (if b = p then none else G b) = some o := h
    rw [if_pos hb] at h'
    cases h'
  · rw [delp_ne hb] at h
    exact h
theorem sqT_same {K : PySem.W.Frag} {G G1 : Hp} {a : Addr} {xs : List V} (s : Same G G1) (h : SqT K G a xs) : SqT K G1 a xs := by
  rcases h with (h | ⟨o, h⟩) | h
  · exact .inl (.inl (s _ _ h))
  · exact .inl (.inr ⟨o, s _ _ h⟩)
  · exact .inr h
mutual
theorem Rp.same {K : PySem.W.Frag} {G G1 : Hp} (s : Same G G1) : ∀ {d : PyData} {v : V}, Rp K G v d → Rp K G1 v d
  | .none, _, .non => .non
  | .bool _, _, .bl b => .bl b
  | .int _, _, .int i => .int i
  | .str _, _, .str x => .str x
  | .list _, _, .lst h r n => .lst (s.seq h) (RpAll.same s r) n
  | .tuple _, _, .tup h r => .tup (sqT_same s h) (RpAll.same s r)
  | .dict ps, _, .dic h k r => .dic (s _ _ h) k (RpAll.sameV s (ps := ps) r)
theorem RpAll.same {K : PySem.W.Frag} {G G1 : Hp} (s : Same G G1) : ∀ {ds : List PyData} {vs : List V}, RpAll K G vs ds → RpAll K G1 vs ds
  | [], _, .nil => .nil
  | _ :: _, _, .cons h r => .cons (Rp.same s h) (RpAll.same s r)
theorem RpAll.sameV {K : PySem.W.Frag} {G G1 : Hp} (s : Same G G1) : ∀ {ps : List (PyData × PyData)} {vs : List V}, RpAll K G vs (ps.map (·.2)) → RpAll K G1 vs (ps.map (·.2))
  | [], _, .nil => .nil
  | (_, _) :: _, _, .cons h r => .cons (Rp.same s h) (RpAll.sameV s r)
end
theorem RpAll.append {K : PySem.W.Frag} {G : Hp} : ∀ {vs ws : List V} {ds es : List PyData}, RpAll K G vs ds → RpAll K G ws es → RpAll K G (vs ++ ws) (ds ++ es)
  | _, _, _, _, .nil, r => r
  | _, _, _, _, .cons h t, r => .cons h (RpAll.append t r)
theorem RpAll.mem {K : PySem.W.Frag} {G : Hp} {v : V} : ∀ {vs : List V} {ds : List PyData}, RpAll K G vs ds → v ∈ vs → ∃ d, d ∈ ds ∧ Rp K G v d
  | _, _, .nil, h => by cases h
  | _, _, .cons h t, m => by
    rcases List.mem_cons.mp m with e | m
    · subst e
      exact ⟨_, List.mem_cons_self .., h⟩
    · obtain ⟨d, hd, r⟩ := RpAll.mem t m
      exact ⟨d, List.mem_cons_of_mem _ hd, r⟩
end Dat

set_option Elab.async false
set_option linter.all false
set_option maxRecDepth 100000
set_option maxHeartbeats 1000000
/-! Any data beside a text: ==, !=, in. -/
namespace KEq
open PySem PySem.Spec L2 RG Pen Dat PySem.SeqAt PySem.MeetsSeq
open AutoSeq1 (wpAny_loadPart')
theorem dict_eq_no (l : Addr) (es : Array DictEntry) (ep : Nat) (dd : Option Addr) (sl : Array (Option Value)) (b : Str) (u : Tok) :
    Meets (Builtin.«dict.__eq__» ⟨[.ref l, .str b u], []⟩) (fun _ R s => s.heap.get? l = some { cls := .type "dict", dict := dd, data := .dict es ep, slots := sl } ∧ R (.ok (.ret .notImplemented)) s) :=
  .of_wp fun prog w A R s h => by
    obtain ⟨hp, g, d, tk, os⟩ := s
    obtain ⟨hl, h⟩ := h
    have f1 := F.sub_str_dict
    wp_walk using wpAny_loadPart' hl, wpAny_load hl
    exact ⟨_, rfl, h⟩
theorem str_eq_dict (b : Str) (u : Tok) (l : Addr) (es : Array DictEntry) (ep : Nat) (dd : Option Addr) (sl : Array (Option Value)) :
    Meets (Builtin.«str.__eq__» ⟨[.str b u, .ref l], []⟩) (fun _ R s => s.heap.get? l = some { cls := .type "dict", dict := dd, data := .dict es ep, slots := sl } ∧ R (.ok (.ret .notImplemented)) s) :=
  .of_wp fun prog w A R s h => by
    obtain ⟨hp, g, d, tk, os⟩ := s
    obtain ⟨hl, h⟩ := h
    wp_walk using wpAny_loadPart' hl, wpAny_load hl
    exact ⟨_, rfl, h⟩
theorem dict_ne_no (l : Addr) (es : Array DictEntry) (ep : Nat) (dd : Option Addr) (sl : Array (Option Value)) (b : Str) (u : Tok) :
    Meets (Builtin.«dict.__ne__» ⟨[.ref l, .str b u], []⟩) (fun _ R s => s.heap.get? l = some { cls := .type "dict", dict := dd, data := .dict es ep, slots := sl } ∧ R (.ok (.ret .notImplemented)) s) :=
  .of_wp fun prog w A R s h => by
    obtain ⟨hp, g, d, tk, os⟩ := s
    obtain ⟨hl, h⟩ := h
    have f1 := F.sub_str_dict
    wp_walk using wpAny_loadPart' hl, wpAny_load hl
    exact ⟨_, rfl, h⟩
theorem str_ne_dict (b : Str) (u : Tok) (l : Addr) (es : Array DictEntry) (ep : Nat) (dd : Option Addr) (sl : Array (Option Value)) :
    Meets (Builtin.«str.__ne__» ⟨[.str b u, .ref l], []⟩) (fun _ R s => s.heap.get? l = some { cls := .type "dict", dict := dd, data := .dict es ep, slots := sl } ∧ R (.ok (.ret .notImplemented)) s) :=
  .of_wp fun prog w A R s h => by
    obtain ⟨hp, g, d, tk, os⟩ := s
    obtain ⟨hl, h⟩ := h
    wp_walk using wpAny_loadPart' hl, wpAny_load hl
    exact ⟨_, rfl, h⟩
section
variable {A : Around} {s : Shared} {l : Addr} {es : Array DictEntry} {ep : Nat} {dd : Option Addr} {sl : Array (Option Value)}
theorem rc_dict_str (b : Str) (u : Tok) (ho : s.heap.get? l = some { cls := .type "dict", dict := dd, data := .dict es ep, slots := sl }) (hu : A.units < cLine) : RcAt A s (.ref l) (.str b u) false := fun prog w E Q h =>
  rc_eq_decline_or (k := false) ⟨_, ho, rfl⟩ (typeIs_str s b u) (by decide) F.sub_str_dict F.slot_dict_eq F.slot_str_eq_refl
    (fun _ hq => call_meets F.slot_dict_eq ⟨_, ho, rfl⟩ F.entry_dict_eq (F.args_dict_eq_2 _ _) (dict_eq_no l es ep dd sl b u) ⟨ho, hq⟩)
    (fun _ hq => call_meets F.slot_str_eq_refl (typeIs_str s b u) F.entry_str_eq (F.args_str_eq_2 _ _) (str_eq_dict b u l es ep dd sl) ⟨ho, hq⟩)
    (fun _ hq => wpAny_of_eq (rfl : isSame (.ref l) (.str b u) = pure false) hq) (.inr hu) h
theorem rc_str_dict (b : Str) (u : Tok) (ho : s.heap.get? l = some { cls := .type "dict", dict := dd, data := .dict es ep, slots := sl }) (hu : A.units < cLine) : RcAt A s (.str b u) (.ref l) false := fun prog w E Q h =>
  rc_eq_decline_or (k := false) (typeIs_str s b u) ⟨_, ho, rfl⟩ (by decide) F.sub_dict_str F.slot_str_eq F.slot_dict_eq_refl
    (fun _ hq => call_meets F.slot_str_eq (typeIs_str s b u) F.entry_str_eq (F.args_str_eq_2 _ _) (str_eq_dict b u l es ep dd sl) ⟨ho, hq⟩)
    (fun _ hq => call_meets F.slot_dict_eq_refl ⟨_, ho, rfl⟩ F.entry_dict_eq (F.args_dict_eq_2 _ _) (dict_eq_no l es ep dd sl b u) ⟨ho, hq⟩)
    (fun _ hq => wpAny_of_eq (rfl : isSame (.str b u) (.ref l) = pure false) hq) (.inr hu) h
theorem at_str_dict (b : Str) (u : Tok) (ho : s.heap.get? l = some { cls := .type "dict", dict := dd, data := .dict es ep, slots := sl }) (hu : A.units < cLine) : EqAt A s (.str b u) (.ref l) false := fun prog w E Q h => by
  unfold eqBool
  refine wpAny_holding ?_
  refine wpAny_ite_split (fun hab => absurd (eq_of_beq hab) nofun) (fun _ => ?_)
  exact wpAny_bind (rc_str_dict b u ho hu prog w E _ (wpAny_truthy_bool h))
theorem ne_dict_str (b : Str) (u : Tok) (ho : s.heap.get? l = some { cls := .type "dict", dict := dd, data := .dict es ep, slots := sl }) (hu : A.units < cLine) : RcNeAt A s (.ref l) (.str b u) true := fun prog w E Q h =>
  rc_ne_decline_or (k := false) ⟨_, ho, rfl⟩ (typeIs_str s b u) (by decide) F.sub_str_dict F.slot_dict_ne F.slot_str_ne_refl
    (fun _ hq => call_meets F.slot_dict_ne ⟨_, ho, rfl⟩ F.entry_dict_ne (F.args_dict_ne_2 _ _) (dict_ne_no l es ep dd sl b u) ⟨ho, hq⟩)
    (fun _ hq => call_meets F.slot_str_ne_refl (typeIs_str s b u) F.entry_str_ne (F.args_str_ne_2 _ _) (str_ne_dict b u l es ep dd sl) ⟨ho, hq⟩)
    (fun _ hq => wpAny_of_eq (rfl : isSame (.ref l) (.str b u) = pure false) hq) (.inr hu) h
end
/-- the text z -/
def isS : PyData → Str → Bool
  | .str x, z => x == z
  | _, _ => false
section
variable {X : Cx} {pins : List (Addr × Obj)} {σ : L2.St} {G : Hp} {st : Shared}
theorem dict_at {a : Addr} {kvs : List (Key × V)} (I : Inv X pins σ G st) (e : G a = some (.dK kvs)) : ∃ dd es ep sl, st.heap.get? a = some { cls := .type "dict", dict := dd, data := .dict es ep, slots := sl } := by
  obtain ⟨_, _, vs, _, o, es, ep, h1, h2, h3, _⟩ := (show ObjOk X.prog X.w G st.heap a (.dK kvs) from I.hok a _ e)
  obtain ⟨oc, od, dt, sl⟩ := o
  have h4 : oc = .type "dict" := h2.1
  have h5 : dt = .dict es ep := h3
  subst h4 h5
  exact ⟨_, _, _, _, h1⟩
theorem rp_rc {A : Around} (hu : A.units < cLine) (I : Inv X pins σ G st) {v : V} {u : Value} {d : PyData} (r : Rp X.K G v d) (ru : RelV v u) (z : Str) (t : Tok) : RcAt A st u (.str z t) (isS d z) := by
  cases r with
  | non =>
    cases ru
    exact RcAt.none_str z t
  | bl b =>
    cases ru
    exact RcAt.bool_str b z t
  | int i =>
    obtain ⟨t2, rfl⟩ := ru
    exact RcAt.int_str i t2 z t
  | str x =>
    obtain ⟨t2, rfl⟩ := ru
    exact RcAt.str_str x t2 z t
  | lst a b c =>
    cases ru
    obtain ⟨its, r, pl, hz⟩ := I.list a
    exact RcAt.list_str z t pl.isList hu
  | tup a b =>
    cases ru
    obtain ⟨its, r, pl, hz⟩ := I.tuple a
    exact RcAt.tuple_str z t pl hu
  | dic a b c =>
    cases ru
    obtain ⟨dd, es, ep, sl, o⟩ := dict_at I a
    exact rc_dict_str z t o hu
theorem rp_ne {A : Around} (hu : A.units < cLine) (I : Inv X pins σ G st) {v : V} {u : Value} {d : PyData} (r : Rp X.K G v d) (ru : RelV v u) (z : Str) (t : Tok) : RcNeAt A st u (.str z t) (!isS d z) := by
  cases r with
  | non =>
    cases ru
    exact RcNeAt.none_str z t
  | bl b =>
    cases ru
    exact RcNeAt.bool_str b z t
  | int i =>
    obtain ⟨t2, rfl⟩ := ru
    exact RcNeAt.int_str i t2 z t
  | str x =>
    obtain ⟨t2, rfl⟩ := ru
    exact RcNeAt.str_str x t2 z t
  | lst a b c =>
    cases ru
    obtain ⟨its, r, pl, hz⟩ := I.list a
    exact RcNeAt.list_str z t pl.isList hu
  | tup a b =>
    cases ru
    obtain ⟨its, r, pl, hz⟩ := I.tuple a
    exact RcNeAt.tuple_str z t pl hu
  | dic a b c =>
    cases ru
    obtain ⟨dd, es, ep, sl, o⟩ := dict_at I a
    exact ne_dict_str z t o hu
theorem beq_swap (x z : Str) : (z == x) = (x == z) := by
  rw [Bool.eq_iff_iff, beq_iff_eq, beq_iff_eq]
  exact eq_comm
theorem rp_at {A : Around} (hu : A.units < cLine) (I : Inv X pins σ G st) {v : V} {u : Value} {d : PyData} (r : Rp X.K G v d) (ru : RelV v u) (z : Str) (t : Tok) : EqAt A st (.str z t) u (isS d z) := by
  cases r with
  | non =>
    cases ru
    exact EqAt.str_none z t
  | bl b =>
    cases ru
    exact EqAt.str_bool z t b
  | int i =>
    obtain ⟨t2, rfl⟩ := ru
    exact EqAt.str_int z t i t2
  | str x =>
    obtain ⟨t2, rfl⟩ := ru
    have := EqAt.str_str (A := A) (s := st) z t x t2
    rw [beq_swap] at this
    exact this
  | lst a b c =>
    cases ru
    obtain ⟨its, r, pl, hz⟩ := I.list a
    exact EqAt.str_list z t pl.isList hu
  | tup a b =>
    cases ru
    obtain ⟨its, r, pl, hz⟩ := I.tuple a
    exact EqAt.str_tuple z t pl hu
  | dic a b c =>
    cases ru
    obtain ⟨dd, es, ep, sl, o⟩ := dict_at I a
    exact at_str_dict z t o hu
end
/-- d == 'z', d != 'z' -/
def rEqS (K : PySem.W.Frag) : R2 := fun x y G Want => ∃ d z, Rp K G x d ∧ y = .str z ∧ Want (.bl (isS d z)) G
def rNeS (K : PySem.W.Frag) : R2 := fun x y G Want => ∃ d z, Rp K G x d ∧ y = .str z ∧ Want (.bl (!isS d z)) G
theorem op_eqS {X : Cx} (hu : X.A.units + 1 < cLine) : OpR X (compareOp .Eq) (rEqS X.K) := by
  intro pins st σ G x y v u Want I rx ry h
  obtain ⟨d, z, r, rfl, q⟩ := h
  obtain ⟨t, rfl⟩ := ry
  exact rp_rc (Nat.lt_of_succ_lt hu) I r rx z t _ _ _ _ ⟨.bl _, G, I, rfl, q⟩
theorem op_neS {X : Cx} (hu : X.A.units + 1 < cLine) : OpR X (compareOp .NotEq) (rNeS X.K) := by
  intro pins st σ G x y v u Want I rx ry h
  obtain ⟨d, z, r, rfl, q⟩ := h
  obtain ⟨t, rfl⟩ := ry
  exact rp_ne (Nat.lt_of_succ_lt hu) I r rx z t _ _ _ _ ⟨.bl _, G, I, rfl, q⟩
/-- d in a tuple of texts -/
def rInS (K : PySem.W.Frag) : R2 := fun x y G Want => ∃ (d : PyData) (p : Addr) (zs : List Str), Rp K G x d ∧ y = .ref p ∧ SqT K G p (zs.map V.str) ∧ Want (.bl (zs.any fun z => isS d z)) G
theorem any_texts {d : PyData} : ∀ {zs : List Str} {us : List Value}, Vals (zs.map V.str) us → (us.any fun u => match u with | .str z _ => isS d z | _ => false) = zs.any fun z => isS d z
  | [], _, .nil => rfl
  | z :: zs, _, .cons r t => by
    obtain ⟨k, rfl⟩ := r
    rw [List.any_cons, List.any_cons, any_texts t]
theorem texts_are : ∀ {zs : List Str} {us : List Value}, Vals (zs.map V.str) us → ∀ u ∈ us, ∃ z t, u = .str z t
  | [], _, .nil => fun u hu => by cases hu
  | z :: zs, _, .cons r t => fun u hu => by
    obtain ⟨k, rfl⟩ := r
    rcases List.mem_cons.mp hu with e | m
    · exact ⟨z, k, e⟩
    · exact texts_are t u m
theorem op_inS {X : Cx} (hu : X.A.units + 1 < cLine) : OpR X (compareOp .In) (rInS X.K) := by
  intro pins st σ G x y v u Want I rx ry h
  obtain ⟨d, p, zs, r, rfl, hq, q⟩ := h
  cases ry
  obtain ⟨its, rl, pl, hz⟩ := I.tuple hq
  refine SeqAt.in_tupleAt (fun u => match u with | .str z _ => isS d z | _ => false) pl (fun w hw => ?_) ⟨.bl _, G, I, rfl, ?_⟩
  · obtain ⟨z, t, rfl⟩ := texts_are rl w (by simpa using hw)
    exact rp_at (A := X.A.in1) (show X.A.units + 1 < cLine from hu) I r rx z t
  · rw [show its.toArray.any (fun u => match u with | .str z _ => isS d z | _ => false) = its.any (fun u => match u with | .str z _ => isS d z | _ => false) by simp, any_texts rl]
    exact q

end KEq

set_option Elab.async false
set_option linter.all false
set_option maxRecDepth 100000
set_option maxHeartbeats 1000000
namespace KEq
open PySem PySem.Spec L2 RG Pen Dat
/-! ### what kind a value is -/
def typeD : PyData → String
  | .none => "NoneType" | .bool _ => "bool" | .int _ => "int" | .str _ => "str" | .list _ => "list" | .tuple _ => "tuple" | .dict _ => "dict"
def isTup : PyData → Bool
  | .tuple _ => true
  | _ => false
def isStr : PyData → Bool
  | .str _ => true
  | _ => false
def isInt : PyData → Bool
  | .int _ => true | .bool _ => true
  | _ => false
def isBool : PyData → Bool
  | .bool _ => true
  | _ => false
theorem kit_tup {K : PySem.W.Frag} : ∀ d, PySem.W.kitOne K (.type (typeD d)) (.type "tuple") = some (isTup d)
  | .none => kit_ty (show kitB "NoneType" "tuple" = some false by decide +kernel)
  | .bool _ => kit_ty (show kitB "bool" "tuple" = some false by decide +kernel)
  | .int _ => kit_ty (show kitB "int" "tuple" = some false by decide +kernel)
  | .str _ => kit_ty (show kitB "str" "tuple" = some false by decide +kernel)
  | .list _ => kit_ty (show kitB "list" "tuple" = some false by decide +kernel)
  | .tuple _ => kit_ty (show kitB "tuple" "tuple" = some true by decide +kernel)
  | .dict _ => kit_ty (show kitB "dict" "tuple" = some false by decide +kernel)
theorem kit_str {K : PySem.W.Frag} : ∀ d, PySem.W.kitOne K (.type (typeD d)) (.type "str") = some (isStr d)
  | .none => kit_ty (show kitB "NoneType" "str" = some false by decide +kernel)
  | .bool _ => kit_ty (show kitB "bool" "str" = some false by decide +kernel)
  | .int _ => kit_ty (show kitB "int" "str" = some false by decide +kernel)
  | .str _ => kit_ty (show kitB "str" "str" = some true by decide +kernel)
  | .list _ => kit_ty (show kitB "list" "str" = some false by decide +kernel)
  | .tuple _ => kit_ty (show kitB "tuple" "str" = some false by decide +kernel)
  | .dict _ => kit_ty (show kitB "dict" "str" = some false by decide +kernel)
theorem kit_int {K : PySem.W.Frag} : ∀ d, PySem.W.kitOne K (.type (typeD d)) (.type "int") = some (isInt d)
  | .none => kit_ty (show kitB "NoneType" "int" = some false by decide +kernel)
  | .bool _ => kit_ty (show kitB "bool" "int" = some true by decide +kernel)
  | .int _ => kit_ty (show kitB "int" "int" = some true by decide +kernel)
  | .str _ => kit_ty (show kitB "str" "int" = some false by decide +kernel)
  | .list _ => kit_ty (show kitB "list" "int" = some false by decide +kernel)
  | .tuple _ => kit_ty (show kitB "tuple" "int" = some false by decide +kernel)
  | .dict _ => kit_ty (show kitB "dict" "int" = some false by decide +kernel)
theorem kit_bool {K : PySem.W.Frag} : ∀ d, PySem.W.kitOne K (.type (typeD d)) (.type "bool") = some (isBool d)
  | .none => kit_ty (show kitB "NoneType" "bool" = some false by decide +kernel)
  | .bool _ => kit_ty (show kitB "bool" "bool" = some true by decide +kernel)
  | .int _ => kit_ty (show kitB "int" "bool" = some false by decide +kernel)
  | .str _ => kit_ty (show kitB "str" "bool" = some false by decide +kernel)
  | .list _ => kit_ty (show kitB "list" "bool" = some false by decide +kernel)
  | .tuple _ => kit_ty (show kitB "tuple" "bool" = some false by decide +kernel)
  | .dict _ => kit_ty (show kitB "dict" "bool" = some false by decide +kernel)
theorem rp_ty {K : PySem.W.Frag} {G : Hp} {v : V} {d : PyData} (r : Rp K G v d) : TyX K G v (.type (typeD d)) := by
  cases r with
  | non => exact .base .non
  | bl b => exact .base (.bl b)
  | int i => exact .base (.int i)
  | str x => exact .base (.str x)
  | lst a b c =>
    rcases a with (a | ⟨o, a⟩) | ⟨o, _, _, a, b, _⟩
    · exact .base (.lst a)
    · exact .base (.frz a)
    · exact .kList a b
  | tup a b =>
    rcases a with (a | ⟨o, a⟩) | ⟨o, _, _, a, b, _⟩
    · exact .base (.tup a)
    · exact .fTuple a
    · exact .kTuple a b
  | dic a b c => exact .base (.dK a)
/-! ### [.. for c in a text] -/
theorem lc_txt {x : Str} {g : TG} {tt : TT} {te : TE} {vs : List Nat} {σ : L2.St} {H1 : Hp} {D : Addr} {Qd : Hp → Prop} (Pv : Nat → Hp → Prop) (h0 : Pv 0 (upd H1 D (.lst [])))
    (hs : ∀ i c H, x.cps[i]? = some c → Pv i H → g (.str ⟨#[c]⟩) (wipe σ vs) H fun σ2 H2 => wipe σ2 vs = wipe σ vs ∧ tt σ2 H2 fun b H3 =>
      if b = true then te σ2 H3 fun y H4 => ∃ acc, H4 D = some (.lst acc) ∧ acc.length < sizeLine ∧ Pv (i + 1) (upd H4 D (.lst (acc ++ [y]))) else Pv (i + 1) H3) (hd : ∀ H, Pv x.cps.size H → Qd H) :
    ∃ W : Nat → Nat → Hp → Prop, (∃ m, W 0 m (upd H1 D (.lst []))) ∧ ∀ i m H, W i m H →
      ((Its x).stop i H ∧ Qd H) ∨ ((Its x).go i H ∧ ∃ Nx : Hp → Prop, (∀ H', Nx H' → ∃ m', m' < m ∧ W (i + 1) m' H') ∧ ∀ y H', (Its x).yld i H y H' → g y (wipe σ vs) H' fun σ2 H2 => wipe σ2 vs = wipe σ vs ∧ tt σ2 H2 fun b H3 =>
        if b = true then te σ2 H3 fun y H4 => ∃ acc, H4 D = some (.lst acc) ∧ acc.length < sizeLine ∧ Nx (upd H4 D (.lst (acc ++ [y]))) else Nx H3) := by
  refine ⟨fun i m H => m = x.cps.size - i ∧ i ≤ x.cps.size ∧ Pv i H, ⟨x.cps.size, by simp, Nat.zero_le _, h0⟩, ?_⟩
  rintro i m H ⟨rfl, hi, p⟩
  by_cases hlt : i < x.cps.size
  · refine .inr ⟨hlt, Pv (i + 1), fun H' p' => ⟨x.cps.size - (i + 1), by omega, rfl, hlt, p'⟩, fun y H' q => ?_⟩
    obtain ⟨e, c, hc, rfl⟩ := q
    subst e
    exact hs i c _ hc p
  · have e : i = x.cps.size := by omega
    subst e
    exact .inl ⟨Nat.le_refl _, hd H p⟩
end KEq

set_option Elab.async false
set_option linter.all false
set_option maxRecDepth 100000
set_option maxHeartbeats 2000000
namespace Hd
open PySem L2 Pen RG Dat KEq
def top (i : Nat) : Stmt := PySem.Challenge.pw_oncepost_k09_whole_runs_and_their_footpr.main.body.getD i (.Pass ⟨0, 0, 0, 0⟩)
abbrev sNum : Stmt := top 8
abbrev sVal : Stmt := top 9
abbrev sWord : Stmt := top 10
abbrev sTof : Stmt := top 11
abbrev sKey : Stmt := top 31
structure DefT (K : PySem.W.Frag) (mg : Str → Option Value) (x : Str) (f : Addr) : Prop where
  mg : mg x = some (.ref f)
  kp : PySem.W.keepIn K (.ref f) = true
def abc : Str := "abcdefghijklmnopqrstuvwxyz"
structure TxtH (mg : Str → Option Value) : Prop where
  isinstance : mg "isinstance" = none
  len : mg "len" = none
  all : mg "all" = none
  int : mg "int" = none
  bool : mg "bool" = none
  str : mg "str" = none
  tuple : mg "tuple" = none
  BOUND : ∃ t, mg "BOUND" = some (.int 99 t)
  LONGEST : ∃ t, mg "LONGEST_WORD" = some (.int 6 t)
  LETTERS : ∃ t, mg "LETTERS" = some (.str abc t)
def isNum : PyData → Bool
  | .int _ => true
  | _ => false
def isVal : PyData → Bool
  | .int i => decide (-99 ≤ i) && decide (i ≤ 99)
  | _ => false
def isWord : PyData → Bool
  | .str x => decide (1 ≤ x.length) && decide (x.length ≤ 6) && x.cps.toList.all fun c => decide (c ∈ abc.cps.toList)
  | _ => false
def isTof (d : PyData) (n : Int) : Bool := match d with
  | .tuple xs => decide ((xs.length : Int) = n)
  | _ => false
def isKey : PyData → Bool
  | .none => true
  | d => isWord d
mutual
/-- no text is long -/
def sm : PyData → Bool
  | .str x => decide (x.length ≤ 1000)
  | .tuple xs => decide (xs.length ≤ 1000) && smAll xs
  | _ => true
def smAll : List PyData → Bool
  | [] => true
  | x :: xs => sm x && smAll xs
end
theorem sm_len {ds : List PyData} (h : sm (.tuple ds) = true) : ds.length ≤ 1000 := by
  have z : (decide (ds.length ≤ 1000) && smAll ds) = true := h
  rw [Bool.and_eq_true, decide_eq_true_eq] at z
  exact z.1
theorem sm_tup {ds : List PyData} (h : sm (.tuple ds) = true) : smAll ds = true := by
  have z : (decide (ds.length ≤ 1000) && smAll ds) = true := h
  rw [Bool.and_eq_true] at z
  exact z.2
def rSign : R2 := fun x y H Q => ∃ (c : Nat) (z : Str), x = .str ⟨#[c]⟩ ∧ y = .str z ∧ Q (.bl (decide (c ∈ z.cps.toList))) H
def spNum (K : PySem.W.Frag) : Sp := fun vs H Q _ => ∃ v d, vs = [v] ∧ Rp K H v d ∧ Q (.bl (isNum d)) H
def spVal (K : PySem.W.Frag) : Sp := fun vs H Q _ => ∃ v d, vs = [v] ∧ Rp K H v d ∧ Q (.bl (isVal d)) H
def spWord (K : PySem.W.Frag) : Sp := fun vs H Q _ => ∃ v d, vs = [v] ∧ Rp K H v d ∧ sm d = true ∧ ∀ H', Same H H' → Q (.bl (isWord d)) H'
def spTof (K : PySem.W.Frag) : Sp := fun vs H Q _ => ∃ v d n, vs = [v, .int n] ∧ Rp K H v d ∧ Q (.bl (isTof d n)) H
def spKey (K : PySem.W.Frag) : Sp := fun vs H Q _ => ∃ v d, vs = [v] ∧ Rp K H v d ∧ sm d = true ∧ ∀ H', Same H H' → Q (.bl (isKey d)) H'
theorem take_more {α : Type} : ∀ {l : List α} {i : Nat} {x : α}, l[i]? = some x → l.take (i + 1) = l.take i ++ [x]
  | [], i, x, h => by simp at h
  | a :: l, 0, x, h => by
    have e : a = x := Option.some.inj h
    subst e
    rfl
  | a :: l, i + 1, x, h => by
    have ih := take_more (l := l) (i := i) (x := x) h
    show a :: l.take (i + 1) = a :: l.take i ++ [x]
    rw [ih]
    rfl
theorem RpAll.len {K : PySem.W.Frag} {G : Hp} : ∀ {vs : List V} {ds : List PyData}, RpAll K G vs ds → vs.length = ds.length
  | _, _, .nil => rfl
  | _, _, .cons _ t => congrArg (· + 1) (RpAll.len t)
section
variable {P : Program} {w : World} {K : PySem.W.Frag} {mg : Str → Option Value} {base : Heap}
theorem scNum : FnScope ["value"] ["value"] (defScope sNum) := ⟨rfl, rfl, rfl, by decide +kernel, rfl, by decide +kernel, by decide +kernel⟩
theorem ok_num {f : Addr} {fd : FuncData} (F : Fun K "is_number" "is_number" sNum f fd) (T : TxtH mg) : FnOk P w K mg base CX0 1 f fd ["value"] (spNum K) := by
  refine F.ok scNum (fun vs H Q E h => ?_) (fun cdv A outer s H vs Q E hr h => ?_)
  · obtain ⟨v, d, rfl, _⟩ := h
    rfl
  · obtain ⟨v, d, rfl, r, k⟩ := h
    refine ⟨_, (pss_one (ps_ret (pe_and (pe_callB call_isi (by rfl) T.isinstance (by decide +kernel) (pa_cons (pv 0) (pa_cons (pe_bltn (v := V.ty "int") (by rfl) T.int (by decide +kernel) rfl) pa_nil))) (pe_one (pe_not (pe_callB call_isi (by rfl) T.isinstance (by decide +kernel) (pa_cons (pv 0) (pa_cons (pe_bltn (v := V.ty "bool") (by rfl) T.bool (by decide +kernel) rfl) pa_nil)))))))), ?_⟩
    refine ⟨_, rfl, v, .ty "int", _, _, _, rfl, .ty _, rp_ty r, kit_int d, _, rfl, ite2 (fun h1 => ?_) (fun h1 => ?_)⟩
    · refine ⟨_, rfl, v, .ty "bool", _, _, _, rfl, .ty _, rp_ty r, kit_bool d, _, rfl, ?_⟩
      have e : (!isBool d) = isNum d := by cases d <;> first | rfl | cases h1
      rw [e]
      exact k
    · have e : isNum d = false := by cases d <;> first | rfl | exact absurd rfl h1
      rw [e] at k
      exact k
theorem scVal : FnScope ["value"] ["value"] (defScope sVal) := ⟨rfl, rfl, rfl, by decide +kernel, rfl, by decide +kernel, by decide +kernel⟩
theorem ok_val {f fN : Addr} {fd fdN : FuncData} (F : Fun K "is_value" "is_value" sVal f fd) (T : TxtH mg) (GNum : FnOk P w K mg base CX0 1 fN fdN ["value"] (spNum K)) (TNum : DefT K mg "is_number" fN) (bNum : Binds K fdN ["value"] []) : FnOk P w K mg base CX0 2 f fd ["value"] (spVal K) := by
  refine F.ok scVal (fun vs H Q E h => ?_) (fun cdv A outer s H vs Q E hr h => ?_)
  · obtain ⟨v, d, rfl, _⟩ := h
    rfl
  · obtain ⟨v, d, rfl, r, k⟩ := h
    refine ⟨_, (pss_one (ps_ret (pe_and (pe_call GNum (hr.mono (by decide)) rfl TNum.mg TNum.kp bNum .nil pass0 (pa_cons (pv 0) pa_nil)) (pe_one (pe_chain op_le op_le (pe_un un_neg (pe_glob (v := V.int 99) (by rfl) T.BOUND.choose_spec ⟨_, rfl⟩)) (pv 0) (pe_glob (v := V.int 99) (by rfl) T.BOUND.choose_spec ⟨_, rfl⟩)))))), ?_⟩
    refine ⟨_, rfl, v, d, rfl, r, _, rfl, ite2 (fun h1 => ?_) (fun h1 => ?_)⟩
    · cases r with
      | int i =>
        refine ⟨_, rfl, _, rfl, _, _, rfl, rfl, _, rfl, ite2 (fun h2 => ?_) (fun h2 => ?_)⟩
        · refine ⟨_, _, rfl, rfl, ?_⟩
          have e : isVal (.int i) = decide (i ≤ 99) := by
            show (decide (-99 ≤ i) && decide (i ≤ 99)) = _
            rw [show decide (-99 ≤ i) = true from h2]
            rfl
          rw [e] at k
          exact k
        · have e : isVal (.int i) = false := by
            show (decide (-99 ≤ i) && decide (i ≤ 99)) = _
            rw [show decide (-99 ≤ i) = false from Bool.eq_false_iff.mpr h2]
            rfl
          rw [e] at k
          exact k
      | _ => cases h1
    · have e : isVal d = false := by cases d <;> first | rfl | exact absurd rfl h1
      rw [e] at k
      exact k
theorem scWord : FnScope ["value", "letter"] ["value"] (defScope sWord) := ⟨rfl, rfl, rfl, by decide +kernel, rfl, by decide +kernel, by decide +kernel⟩
theorem ok_word {f : Addr} {fd : FuncData} (F : Fun K "is_word" "is_word" sWord f fd) (T : TxtH mg) : FnOk P w K mg base CX0 1 f fd ["value"] (spWord K) := by
  refine F.ok scWord (fun vs H Q E h => ?_) (fun cdv A outer s H vs Q E hr h => ?_)
  · obtain ⟨v, d, rfl, _⟩ := h
    rfl
  · obtain ⟨v, d, rfl, r, small, k⟩ := h
    refine ⟨_, (pss_cons (ps_if (PW.pt (pw_or (pt_not (pt_val (pe_callB call_isi (by rfl) T.isinstance (by decide +kernel) (pa_cons (pv 0) (pa_cons (pe_bltn (v := V.ty "str") (by rfl) T.str (by decide +kernel) rfl) pa_nil))))) (pw_or1 (pt_not (pt_chain op_le op_le pe_int (pe_callB call_len_str (by rfl) T.len PySem.boot_len (pa_cons (pv 0) pa_nil)) (pe_glob (v := V.int 6) (by rfl) T.LONGEST.choose_spec ⟨_, rfl⟩)))))) (pss_one (ps_ret pe_bl)) pss_nil)
      (pss_one (ps_ret (pe_callB (cr_all rfl) (by rfl) T.all (by decide +kernel) (pa_cons (pe_lc (own := [("letter", 1)]) (g := gName 1) (tt := tYes) (te := (tOp rSign (tVar 1) (tC (V.str abc)))) rfl scWord.nd (pi_str (pv 0)) (blkOk_by (N := ["value", "letter"]) (sc := defScope sWord) (by decide +kernel)) (fun _ _ _ _ _ => by exact (pg_name (i := 1) scWord.nd rfl (Or.inl rfl))) (fun _ _ _ _ _ => by exact pts_nil) (fun _ _ _ _ _ => by exact (pe_cmpR op_in_sign (pv 1) (pe_glob (v := V.str abc) (by rfl) T.LETTERS.choose_spec ⟨_, rfl⟩) rfl))) pa_nil))))), ?_⟩
    refine ⟨_, rfl, v, .ty "str", _, _, _, rfl, .ty _, rp_ty r, kit_str d, _, rfl, ite2 (fun h1 => ?_) (fun h1 => ?_)⟩
    · have e : isWord d = false := by cases d <;> first | rfl | cases h1
      refine iteT ?_
      have := k _ (.refl _)
      rw [e] at this
      exact this
    · cases r with
      | str x =>
        have hl : x.length ≤ 1000 := of_decide_eq_true small
        have no : ¬ (1 ≤ x.length ∧ x.length ≤ 6) → isWord (.str x) = false := by
          intro z
          show (decide (1 ≤ x.length) && decide (x.length ≤ 6) && _) = false
          rw [show (decide (1 ≤ x.length) && decide (x.length ≤ 6)) = false by rw [← Bool.decide_and]; exact decide_eq_false z]
          rfl
        refine ⟨_, rfl, _, rfl, Nat.le_trans hl (by decide), _, _, rfl, rfl, _, rfl, ite2 (fun h2 => ?_) (fun h2 => ?_)⟩
        · refine ⟨_, _, rfl, rfl, _, rfl, ite2 (fun h3 => ?_) (fun h3 => ?_)⟩
          · have := k _ (.refl _)
            rw [no (fun z => by simp at h3; omega)] at this
            exact this
          · have i1 : 1 ≤ x.length := by have := of_decide_eq_true h2; omega
            have i6 : x.length ≤ 6 := by simp at h3; omega
            refine ⟨_, rfl, x, rfl, fun D hD => lc_txt (fun i H' => H' D = some (.lst ((x.cps.toList.take i).map fun c => V.bl (decide (c ∈ abc.cps.toList)))) ∧ Same H H') ⟨upd_same, Ab.same_up hD⟩ ?_ ?_⟩
            · intro i c H' hc ⟨e, s'⟩
              refine ⟨rfl, ?_⟩
              unfold tYes
              simp only [↓reduceIte]
              refine ⟨_, rfl, c, abc, rfl, rfl, _, e, szl (by simp; have : x.cps.size = x.length := rfl; omega), ?_, ?_⟩
              · rw [upd_same, take_more (show x.cps.toList[i]? = some c by rw [Array.getElem?_toList]; exact hc)]
                simp
              · intro b o q
                rw [upd_ne (ne_of_none q hD)]
                exact s' _ _ q
            · intro H' ⟨e, s'⟩
              rw [List.take_of_length_le (by simp)] at e
              refine ⟨D, x.cps.toList.map (fun c => decide (c ∈ abc.cps.toList)), rfl, SqL.of (by rw [List.map_map]; exact e), ?_⟩
              have := k _ s'
              have e2 : isWord (.str x) = (x.cps.toList.map (fun c => decide (c ∈ abc.cps.toList))).all id := by
                show (decide (1 ≤ x.length) && decide (x.length ≤ 6) && _) = _
                rw [decide_eq_true i1, decide_eq_true i6, List.all_map]
                rfl
              rw [e2] at this
              exact this
        · refine ⟨_, rfl, iteT ?_⟩
          have := k _ (.refl _)
          rw [no (fun z => h2 (decide_eq_true (by have := z.1; omega)))] at this
          exact this
      | _ => exact absurd rfl h1
theorem scTof : FnScope ["value", "length"] ["value", "length"] (defScope sTof) := ⟨rfl, rfl, rfl, by decide +kernel, rfl, by decide +kernel, by decide +kernel⟩
theorem ok_tof {f : Addr} {fd : FuncData} (F : Fun K "is_tuple_of" "is_tuple_of" sTof f fd) (T : TxtH mg) : FnOk P w K mg base CX0 1 f fd ["value", "length"] (spTof K) := by
  refine F.ok scTof (fun vs H Q E h => ?_) (fun cdv A outer s H vs Q E hr h => ?_)
  · obtain ⟨v, d, n, rfl, _⟩ := h
    rfl
  · obtain ⟨v, d, n, rfl, r, k⟩ := h
    refine ⟨_, (pss_one (ps_ret (pe_and (pe_callB call_isi (by rfl) T.isinstance (by decide +kernel) (pa_cons (pv 0) (pa_cons (pe_bltn (v := V.ty "tuple") (by rfl) T.tuple (by decide +kernel) rfl) pa_nil))) (pe_one (pe_cmpR op_eq (pe_callB call_len_seq (by rfl) T.len PySem.boot_len (pa_cons (pv 0) pa_nil)) (pv 1) (nomark _)))))), ?_⟩
    refine ⟨_, rfl, v, .ty "tuple", _, _, _, rfl, .ty _, rp_ty r, kit_tup d, _, rfl, ite2 (fun h1 => ?_) (fun h1 => ?_)⟩
    · cases r with
      | @tup a xs ds q rr =>
        refine ⟨_, rfl, a, xs, rfl, .inr q, _, rfl, rfl, ?_⟩
        have e : isTof (.tuple ds) n = decide (V.int xs.length = V.int n) := by
          show decide ((ds.length : Int) = n) = _
          rw [dec_int, RpAll.len rr]
          by_cases z : (ds.length : Int) = n <;> simp [z]
        rw [e] at k
        exact k
      | _ => cases h1
    · have e : isTof d n = false := by cases d <;> first | rfl | exact absurd rfl h1
      rw [e] at k
      exact k
theorem scKey : FnScope ["value"] ["value"] (defScope sKey) := ⟨rfl, rfl, rfl, by decide +kernel, rfl, by decide +kernel, by decide +kernel⟩
theorem ok_key {f fW : Addr} {fd fdW : FuncData} (F : Fun K "is_key" "is_key" sKey f fd) (GWord : FnOk P w K mg base CX0 1 fW fdW ["value"] (spWord K)) (TWord : DefT K mg "is_word" fW) (bWord : Binds K fdW ["value"] []) : FnOk P w K mg base CX0 2 f fd ["value"] (spKey K) := by
  refine F.ok scKey (fun vs H Q E h => ?_) (fun cdv A outer s H vs Q E hr h => ?_)
  · obtain ⟨v, d, rfl, _⟩ := h
    rfl
  · obtain ⟨v, d, rfl, r, small, k⟩ := h
    refine ⟨_, (pss_one (ps_ret (pe_or (pe_cmpR op_isN (pv 0) pe_non (nomark _)) (pe_one (pe_call GWord (hr.mono (by decide)) rfl TWord.mg TWord.kp bWord .nil pass0 (pa_cons (pv 0) pa_nil)))))), ?_⟩
    refine ⟨_, rfl, rfl, _, rfl, ite2 (fun h1 => ?_) (fun h1 => ?_)⟩
    · have e : v = .non := of_decide_eq_true h1
      subst e
      cases r
      exact k _ (.refl _)
    · refine ⟨_, rfl, v, d, rfl, r, small, fun H' s' => ?_⟩
      have e : isKey d = isWord d := by
        cases r with
        | non => exact absurd rfl h1
        | _ => rfl
      rw [← e]
      exact k _ s'
end
end Hd

set_option Elab.async false
set_option linter.all false
set_option maxRecDepth 100000
set_option maxHeartbeats 4000000
namespace Hd
open PySem L2 Pen
abbrev sPen : Stmt := top 37
abbrev sDraw : Stmt := top 38
abbrev sPick : Stmt := top 39
section
variable {P : Program} {w : World} {K : PySem.W.Frag} {mg : Str → Option Value} {base : Heap}
theorem scPen : FnScope ["_law_script"] ["_law_script"] (defScope sPen) := ⟨rfl, rfl, rfl, by decide +kernel, rfl, by decide +kernel, by decide +kernel⟩
theorem ok_pen {f : Addr} {fd : FuncData} (F : Fun K "_law_pen" "_law_pen" sPen f fd) (T : TxtP mg) : FnOk P w K mg base CX0 1 f fd ["_law_script"] (spPen K) := by
  refine F.ok scPen (fun vs H Q E h => ?_) (fun cdv A outer s H vs Q E hr h => ?_)
  · obtain ⟨a, ns, rfl, _⟩ := h
    rfl
  · obtain ⟨a, ns, rfl, hS, hl, k⟩ := h
    have hu := hu_of hr
    refine ⟨_, (pss_one (ps_ret (pe_disp (pps_cons pe_str (pe_callTy call_list_of (by rfl) T.list PyProof.Rows.boot_list (pa_cons (pe_slice sl_list (pv 0) po_none (po_some pe_int)) pa_nil)) (pps_cons pe_str pe_int (pps_cons pe_str pe_int pps_nil))) (by decide +kernel) rfl (by simp) (by decide)))), ?_⟩
    intro p hp
    refine ⟨_, rfl, 63, rfl, a, _, rfl, (same_new hp).seq hS, fun l1 h1 => ⟨l1, _, rfl, .inl (SqL.of upd_same), fun l h2 => ?_⟩⟩
    have n1 : l1 ≠ p := fun e => by rw [e, upd_same] at h1; cases h1
    have n2 : l ≠ l1 := fun e => by rw [e, upd_same] at h2; cases h2
    have n3 : l ≠ p := fun e => by rw [e, upd_ne n1.symm, upd_same] at h2; cases h2
    have hp' : (upd (upd (upd H p (.dK [])) l1 (.lst (cutV (ns.map V.int) none (some 63)))) l (.lst (cutV (ns.map V.int) none (some 63)))) p = some (.dK []) := by
      rw [upd_ne n3.symm, upd_ne n1.symm, upd_same]
    refine ⟨hp', [(kC, .ref l), (kA, .int 0), (kR, .int 0)], rfl, (by simp), ?_⟩
    rw [merge_pk, cut63 hl]
    refine k p l _ hp ⟨⟨0, 0, upd_same, by decide, by decide, by decide⟩, by rw [upd_ne n3, upd_same]⟩ fun b o e => ?_
    have b1 : b ≠ p := ne_of_none e hp
    rw [upd_ne b1]
    have e1 : (upd H p (.dK [])) b = some o := by rw [upd_ne b1]; exact e
    have b2 : b ≠ l1 := ne_of_none e1 h1
    have e2 : (upd (upd H p (.dK [])) l1 (.lst (cutV (ns.map V.int) none (some 63)))) b = some o := by rw [upd_ne b2]; exact e1
    have b3 : b ≠ l := ne_of_none e2 h2
    rw [upd_ne b3, upd_ne b2, upd_ne b1]
    exact e
theorem scDraw : FnScope ["_law_pen_here", "_law_many", "_law_digit", "_law_at", "_law_cell", "_law_blend"] ["_law_pen_here", "_law_many"] (defScope sDraw) := ⟨rfl, rfl, rfl, by decide +kernel, rfl, by decide +kernel, by decide +kernel⟩
theorem ok_draw {f : Addr} {fd : FuncData} (F : Fun K "_law_draw" "_law_draw" sDraw f fd) (T : TxtP mg) : FnOk P w K mg base CX0 1 f fd ["_law_pen_here", "_law_many"] spDraw := by
  refine F.ok scDraw (fun vs H Q E h => ?_) (fun cdv A outer s H vs Q E hr h => ?_)
  · obtain ⟨p, c, ns, b, m, rfl, _⟩ := h
    rfl
  · obtain ⟨p, c, ns, b, m, rfl, Pn, hl, hb, hm, hm2, k⟩ := h
    have hu := hu_of hr
    obtain ⟨⟨a, r, hp, ha0, ha, hr0⟩, hc⟩ := id Pn
    have npc : p ≠ c := Pn.ne
    have cp : ∀ o, (upd H p o) c = some (.lst (ns.map V.int)) := fun o => by rw [upd_ne npc.symm]; exact hc
    refine ⟨_, (pss_cons (ps_if (pt_cmpR op_gt (pe_dget hu (pv 0) pe_str (fun _ _ => rfl)) pe_int (nomark _)) (pss_cons (ps_set (i := 2) scDraw.nd rfl (Or.inl rfl) (pe_op op_modN (pe_callTy call_int1 (by rfl) T.int PyProof.Rows.boot_int (pa_cons (pe_dget hu (pv 0) pe_str (fun _ _ => rfl)) pa_nil)) (pv 1)))
      (pss_cons (ps_dput hu (pv 0) pe_str (pe_op op_fdivW (pe_dget hu (pv 0) pe_str (fun _ _ => rfl)) (pv 1)) rfl)
      (pss_one (ps_ret (pv 2))))) pss_nil)
      (pss_cons (ps_set (i := 3) scDraw.nd rfl (Or.inl rfl) (pe_dget hu (pv 0) pe_str (fun _ _ => rfl)))
      (pss_cons (ps_dput hu (pv 0) pe_str (pe_op op_add (pv 3) pe_int) rfl)
      (pss_cons (ps_set (i := 4) scDraw.nd rfl (Or.inl rfl) (pe_op op_add (pe_op op_mul pe_int (pv 3)) pe_int))
      (pss_cons (ps_if (pt_cmpR (op_neD hr.units) (pe_dget hu (pv 0) pe_str (fun _ _ => rfl)) (pe_lst pa_nil) (nomark _)) (pss_one (ps_set (i := 4) scDraw.nd rfl (Or.inl rfl) (pe_ix ix_list (pe_dget hu (pv 0) pe_str (fun _ _ => rfl)) (pe_op op_modN (pe_callTy call_int1 (by rfl) T.int PyProof.Rows.boot_int (pa_cons (pv 3) pa_nil)) (pe_callB call_len_seq (by rfl) T.len PySem.boot_len (pa_cons (pe_dget hu (pv 0) pe_str (fun _ _ => rfl)) pa_nil))) (fun _ _ => rfl)))) pss_nil)
      (pss_cons (ps_if (PW.pt (pw_and (pt_cmpR op_lt (pv 3) (pe_callB call_len_seq (by rfl) T.len PySem.boot_len (pa_cons (pe_dget hu (pv 0) pe_str (fun _ _ => rfl)) pa_nil)) (nomark _)) (pw_and1 (pt_cmpR op_ge (pe_callB call_abs (by rfl) T.abs PyProof.Rows.boot_abs (pa_cons (pv 4) pa_nil)) (pe_op op_pow pe_int pe_int) (nomark _))))) (pss_cons (ps_dput hu (pv 0) pe_str (pe_op op_fdivW (pe_op op_sub (pe_callB call_abs (by rfl) T.abs PyProof.Rows.boot_abs (pa_cons (pv 4) pa_nil)) (pe_op op_pow pe_int pe_int)) (pv 1)) rfl)
      (pss_one (ps_ret (pe_op op_modN (pe_op op_sub (pe_callB call_abs (by rfl) T.abs PyProof.Rows.boot_abs (pa_cons (pv 4) pa_nil)) (pe_op op_pow pe_int pe_int)) (pv 1))))) pss_nil)
      (pss_cons (ps_set (i := 5) scDraw.nd rfl (Or.inl rfl) (pe_op op_mod (pe_callTy call_int1 (by rfl) T.int PyProof.Rows.boot_int (pa_cons (pe_op op_add (pe_op op_add (pe_op op_mul (pe_op op_mod (pe_callTy call_int1 (by rfl) T.int PyProof.Rows.boot_int (pa_cons (pv 4) pa_nil)) pe_int) pe_int) (pe_op op_mul (pe_op op_mul pe_int (pv 3)) (pv 3))) pe_int) pa_nil)) pe_int))
      (pss_cons (ps_set (i := 5) scDraw.nd rfl (Or.inl rfl) (pe_op op_mod (pe_callTy call_int1 (by rfl) T.int PyProof.Rows.boot_int (pa_cons (pe_op op_add (pe_op op_add (pe_op op_add (pe_op op_mul (pv 5) (pv 5)) (pe_op op_mul pe_int (pv 5))) (pe_op op_mul pe_int (pv 3))) pe_int) pa_nil)) pe_int))
      (pss_one (ps_ret (pe_op op_modN (pe_callTy call_int1 (by rfl) T.int PyProof.Rows.boot_int (pa_cons (pe_op op_fdiv (pe_op op_mod (pe_callTy call_int1 (by rfl) T.int PyProof.Rows.boot_int (pa_cons (pe_op op_mul (pv 5) (pe_op op_add (pv 5) pe_int)) pa_nil)) pe_int) pe_int) pa_nil)) (pv 1)))))))))))), ?_⟩
    refine ⟨_, rfl, p, _, rfl, getR hp, _, _, rfl, rfl, _, rfl, ite2 (fun h => ?_) (fun _ => ?_)⟩
    · -- the rest's next digit
      refine ⟨_, rfl, p, _, rfl, getR hp, .inl ⟨_, rfl, _, rfl, _, _, rfl, rfl, (by omega), ?_⟩⟩
      refine ⟨_, rfl, p, _, rfl, getR hp, _, rfl, _, _, rfl, rfl, div_ok hm hm2, _, rfl, p, _, rfl, putR hp, _, rfl, ?_⟩
      exact k _ _ (fmod_lo hm) (fmod_hi hm) ⟨⟨a, _, upd_same, ha0, by omega, fdiv_lo hm hr0⟩, cp _⟩ (SameX.upd SameX.refl)
    · refine ⟨_, rfl, p, _, rfl, getA hp, _, rfl, _, _, rfl, rfl, _, rfl, p, _, rfl, putA hp, ?_⟩
      have c1 := cp (.dK (pk c (a + 1) r))
      have x1 : (upd H p (.dK (pk c (a + 1) r))) p = some (.dK (pk c (a + 1) r)) := upd_same
      refine ⟨_, rfl, _, _, rfl, rfl, .inl ⟨by decide, by decide⟩, _, _, rfl, rfl, ?_⟩
      refine ⟨_, rfl, p, _, rfl, getC x1, (by decide), fun l hl => ?_⟩
      have lp : p ≠ l := ne_of_none x1 hl
      have lc : c ≠ l := ne_of_none c1 hl
      have x2 : (upd (upd H p (.dK (pk c (a + 1) r))) l (.lst [])) p = some (.dK (pk c (a + 1) r)) := by rw [upd_ne lp]; exact x1
      have c2 : (upd (upd H p (.dK (pk c (a + 1) r))) l (.lst [])) c = some (.lst (ns.map V.int)) := by rw [upd_ne lc]; exact c1
      have s2 : SameX p H (upd (upd H p (.dK (pk c (a + 1) r))) l (.lst [])) := (SameX.upd (H' := H) SameX.refl).trans (Same.X (same_new hl))
      have s3 : ∀ x : Int, SameX p H (upd (upd (upd H p (.dK (pk c (a + 1) r))) l (.lst [])) p (.dK (pk c (a + 1) x))) := fun x => SameX.upd s2
      have c3 : ∀ x : Int, (upd (upd (upd H p (.dK (pk c (a + 1) r))) l (.lst [])) p (.dK (pk c (a + 1) x))) c = some (.lst (ns.map V.int)) := fun x => by rw [upd_ne npc.symm]; exact c2
      refine ⟨_, _, dp_ints c2, dp_ints (ns := []) upd_same, shaped_ints ns, shaped_ints [], _, rfl, ?_⟩
      cases ns with
      | nil =>
        refine iteF ?_
        refine ⟨_, rfl, _, rfl, p, _, rfl, getC x2, c, _, rfl, .inl (SqL.of c2), _, _, rfl, rfl, _, rfl, ite2 (fun h1 => ⟨_, rfl, _, rfl, _, _, rfl, rfl, ⟨by decide, by decide, by decide⟩, _, _, rfl, rfl, _, rfl, ite2 (fun h2 => ?b) (fun _ => ?r1)⟩) (fun _ => iteF ?r2)⟩
        case b =>
          refine ⟨_, rfl, _, rfl, _, _, rfl, rfl, ⟨by decide, by decide, by decide⟩, _, _, rfl, rfl, _, rfl, _, _, rfl, rfl, div_ok hm hm2, _, rfl, p, _, rfl, putR x2, _, rfl, _, rfl, _, _, rfl, rfl, ⟨by decide, by decide, by decide⟩, _, _, rfl, rfl, _, rfl, _, _, rfl, rfl, (by omega), ?_⟩
          exact k _ _ (fmod_lo hm) (fmod_hi hm) ⟨⟨a + 1, _, upd_same, by omega, by omega, fdiv_lo hm (by have := of_decide_eq_true h2; omega)⟩, c3 _⟩ (s3 _)
        all_goals
          refine ⟨_, rfl, .inl ⟨_, rfl, _, _, rfl, rfl, (by show (0 : Int) < 4294966927; decide), ?_⟩⟩
          have m1 := fun i : Int => Int.emod_nonneg i (show (4294966927 : Int) ≠ 0 by decide)
          have m2 := fun i : Int => Int.emod_lt_of_pos i (show (0 : Int) < 4294966927 by decide)
          refine ⟨_, _, rfl, rfl, .inl ⟨by have := m1 (61 * a + 23); omega, by have := m2 (61 * a + 23); omega⟩, _, rfl, _, _, rfl, rfl, .inl ⟨by decide, by decide⟩, _, rfl, _, _, rfl, rfl, .inl ⟨by omega, by omega⟩, _, _, rfl, rfl, _, _, rfl, rfl, ?_⟩
          refine .inl ⟨_, rfl, _, _, rfl, rfl, (by show (0 : Int) < 4294966909; decide), ?_⟩
          have w1 := fun i : Int => Int.emod_nonneg i (show (4294966909 : Int) ≠ 0 by decide)
          have w2 := fun i : Int => Int.emod_lt_of_pos i (show (0 : Int) < 4294966909 by decide)
          refine ⟨_, rfl, _, rfl, _, _, rfl, rfl, .inl ⟨Int.lt_of_lt_of_le (by decide) (w1 _), Int.lt_trans (w2 _) (by decide)⟩, _, rfl, _, _, rfl, rfl, .inl ⟨by decide, by decide⟩, _, _, rfl, rfl, _, rfl, _, _, rfl, rfl, .inl ⟨by decide, by decide⟩, _, _, rfl, rfl, _, _, rfl, rfl, ?_⟩
          refine .inl ⟨_, rfl, _, _, rfl, rfl, (by show (0 : Int) < 4294966877; decide), ?_⟩
          have v1 := fun i : Int => Int.emod_nonneg i (show (4294966877 : Int) ≠ 0 by decide)
          have v2 := fun i : Int => Int.emod_lt_of_pos i (show (0 : Int) < 4294966877 by decide)
          refine ⟨_, rfl, _, rfl, _, _, rfl, rfl, _, _, rfl, rfl, .inl ⟨Int.lt_of_lt_of_le (by decide) (v1 _), Int.lt_trans (v2 _) (by decide)⟩, ?_⟩
          refine .inl ⟨_, rfl, _, _, rfl, rfl, (by show (0 : Int) < 4294966813; decide), _, _, rfl, rfl, ⟨by decide, by decide⟩, ?_⟩
          refine .inl ⟨_, rfl, _, rfl, _, _, rfl, rfl, (by omega), ?_⟩
          exact k _ _ (fmod_lo hm) (fmod_hi hm) ⟨⟨a + 1, r, x2, by omega, by omega, hr0⟩, c2⟩ s2
      | cons n0 ns =>
        refine iteT ?_
        obtain ⟨z, hz⟩ := atI_mod (ns := n0 :: ns) (a := a) (by simp)
        refine ⟨_, rfl, p, _, rfl, getC x2, _, rfl, .inl ⟨_, rfl, _, rfl, p, _, rfl, getC x2, c, _, rfl, .inl (SqL.of c2), _, _, rfl, rfl, (by simp; omega), c, _, _, _, rfl, rfl, SqL.of c2, (by rw [List.length_map]; exact hz), ?_⟩⟩
        refine ⟨_, rfl, _, rfl, p, _, rfl, getC x2, c, _, rfl, .inl (SqL.of c2), _, _, rfl, rfl, _, rfl, ite2 (fun h1 => ⟨_, rfl, _, rfl, _, _, rfl, rfl, ⟨by decide, by decide, by decide⟩, _, _, rfl, rfl, _, rfl, ite2 (fun h2 => ?bb) (fun _ => ?rr1)⟩) (fun _ => iteF ?rr2)⟩
        case bb =>
          refine ⟨_, rfl, _, rfl, _, _, rfl, rfl, ⟨by decide, by decide, by decide⟩, _, _, rfl, rfl, _, rfl, _, _, rfl, rfl, div_ok hm hm2, _, rfl, p, _, rfl, putR x2, _, rfl, _, rfl, _, _, rfl, rfl, ⟨by decide, by decide, by decide⟩, _, _, rfl, rfl, _, rfl, _, _, rfl, rfl, (by omega), ?_⟩
          exact k _ _ (fmod_lo hm) (fmod_hi hm) ⟨⟨a + 1, _, upd_same, by omega, by omega, fdiv_lo hm (by have := of_decide_eq_true h2; omega)⟩, c3 _⟩ (s3 _)
        all_goals
          refine ⟨_, rfl, .inl ⟨_, rfl, _, _, rfl, rfl, (by show (0 : Int) < 4294966927; decide), ?_⟩⟩
          have m1 := fun i : Int => Int.emod_nonneg i (show (4294966927 : Int) ≠ 0 by decide)
          have m2 := fun i : Int => Int.emod_lt_of_pos i (show (0 : Int) < 4294966927 by decide)
          refine ⟨_, _, rfl, rfl, .inl ⟨by have := m1 z; omega, by have := m2 z; omega⟩, _, rfl, _, _, rfl, rfl, .inl ⟨by decide, by decide⟩, _, rfl, _, _, rfl, rfl, .inl ⟨by omega, by omega⟩, _, _, rfl, rfl, _, _, rfl, rfl, ?_⟩
          refine .inl ⟨_, rfl, _, _, rfl, rfl, (by show (0 : Int) < 4294966909; decide), ?_⟩
          have w1 := fun i : Int => Int.emod_nonneg i (show (4294966909 : Int) ≠ 0 by decide)
          have w2 := fun i : Int => Int.emod_lt_of_pos i (show (0 : Int) < 4294966909 by decide)
          refine ⟨_, rfl, _, rfl, _, _, rfl, rfl, .inl ⟨Int.lt_of_lt_of_le (by decide) (w1 _), Int.lt_trans (w2 _) (by decide)⟩, _, rfl, _, _, rfl, rfl, .inl ⟨by decide, by decide⟩, _, _, rfl, rfl, _, rfl, _, _, rfl, rfl, .inl ⟨by decide, by decide⟩, _, _, rfl, rfl, _, _, rfl, rfl, ?_⟩
          refine .inl ⟨_, rfl, _, _, rfl, rfl, (by show (0 : Int) < 4294966877; decide), ?_⟩
          have v1 := fun i : Int => Int.emod_nonneg i (show (4294966877 : Int) ≠ 0 by decide)
          have v2 := fun i : Int => Int.emod_lt_of_pos i (show (0 : Int) < 4294966877 by decide)
          refine ⟨_, rfl, _, rfl, _, _, rfl, rfl, _, _, rfl, rfl, .inl ⟨Int.lt_of_lt_of_le (by decide) (v1 _), Int.lt_trans (v2 _) (by decide)⟩, ?_⟩
          refine .inl ⟨_, rfl, _, _, rfl, rfl, (by show (0 : Int) < 4294966813; decide), _, _, rfl, rfl, ⟨by decide, by decide⟩, ?_⟩
          refine .inl ⟨_, rfl, _, rfl, _, _, rfl, rfl, (by omega), ?_⟩
          exact k _ _ (fmod_lo hm) (fmod_hi hm) ⟨⟨a + 1, r, x2, by omega, by omega, hr0⟩, c2⟩ s2
theorem scPick : FnScope ["_law_pen_here", "_law_items"] ["_law_pen_here", "_law_items"] (defScope sPick) := ⟨rfl, rfl, rfl, by decide +kernel, rfl, by decide +kernel, by decide +kernel⟩
theorem ok_pick {f fD : Addr} {fd fdD : FuncData} (F : Fun K "_law_pick" "_law_pick" sPick f fd) (T : TxtP mg) (FD : Fun K "_law_draw" "_law_draw" sDraw fD fdD) (TD : DefT K mg "_law_draw" fD) (bD : Binds K fdD ["_law_pen_here", "_law_many"] []) : FnOk P w K mg base CX0 2 f fd ["_law_pen_here", "_law_items"] (spPick K) := by
  have GD : FnOk P w K mg base CX0 1 fD fdD ["_law_pen_here", "_law_many"] spDraw := ok_draw FD T
  refine F.ok scPick (fun vs H Q E h => ?_) (fun cdv A outer s H vs Q E hr h => ?_)
  · obtain ⟨p, c, ns, b, l, xs, rfl, _⟩ := h
    rfl
  · obtain ⟨p, c, ns, b, l, xs, rfl, Pn, hn, hb, hl, h0, h1, k⟩ := h
    refine ⟨_, (pss_one (ps_ret (pe_ix ix_list (pv 1) (pe_call GD (hr.mono (by decide)) rfl TD.mg TD.kp bD .nil pass0 (pa_cons (pv 0) (pa_cons (pe_callB call_len_seq (by rfl) T.len PySem.boot_len (pa_cons (pv 1) pa_nil)) pa_nil))) (fun _ _ => rfl)))), ?_⟩
    refine ⟨_, rfl, _, rfl, _, rfl, l, xs, rfl, .inl (SqL.of hl), p, c, ns, b, _, rfl, Pn, hn, hb, by omega, by omega, fun r H' r0 r1 P' sx => ?_⟩
    have hp : l ≠ p := by
      obtain ⟨⟨a, r, hp, _⟩, _⟩ := Pn
      exact ne_of hl hp (by intro z; cases z)
    obtain ⟨v, hv, ha⟩ := at_mem r0 r1
    exact ⟨l, xs, r, v, rfl, rfl, SqL.of (sx l _ hp hl), ha, k v H' hv P' sx⟩
end
end Hd

set_option Elab.async false
set_option linter.all false
set_option maxRecDepth 100000
set_option maxHeartbeats 4000000
namespace Hd
open PySem L2 Pen RG Dat KEq
abbrev sExp : Stmt := top 21
abbrev sCon : Stmt := top 22
abbrev tV : Str := "value"
abbrev tB' : Str := "body"
abbrev tR : Str := "row"
abbrev ops : List Str := ["+", "-", "*"]
def isE : Nat → PyData → Bool
  | 0, _ => false
  | n + 1, .tuple (h :: tl) =>
    if isS h tV = true then (match tl with | [a] => isVal a | _ => false)
    else if isS h tB' = true then (match tl with | [] => true | _ => false)
    else if isS h tR = true then (match tl with | [a] => isWord a | _ => false)
    else if (ops.any fun z => isS h z) = true then (match tl with | [a, b] => isE n a && isE n b | _ => false)
    else false
  | _ + 1, _ => false
def isC : Nat → PyData → Bool
  | 0, _ => false
  | n + 1, .tuple (h :: tl) =>
    if ((["<", "="] : List Str).any fun z => isS h z) = true then (match tl with | [a, b] => isE 6 a && isE 6 b | _ => false)
    else if isS h "not" = true then (match tl with | [a] => isC n a | _ => false)
    else if ((["and", "or"] : List Str).any fun z => isS h z) = true then (match tl with | [a, b] => isC n a && isC n b | _ => false)
    else false
  | _ + 1, _ => false
theorem e_not {n : Nat} {d : PyData} (h : isTup d = false) : isE (n + 1) d = false := by
  cases d <;> first | rfl | cases h
theorem c_not {n : Nat} {d : PyData} (h : isTup d = false) : isC (n + 1) d = false := by
  cases d <;> first | rfl | cases h
def spExp (K : PySem.W.Frag) (m : Nat) : Sp := fun vs H Q _ => ∃ (v : V) (d : PyData) (n : Nat), vs = [v, .int n] ∧ n < m ∧ Rp K H v d ∧ sm d = true ∧ ∀ H', Same H H' → Q (.bl (isE n d)) H'
def spCon (K : PySem.W.Frag) (m : Nat) : Sp := fun vs H Q _ => ∃ (v : V) (d : PyData) (n : Nat), vs = [v, .int n] ∧ n < m ∧ Rp K H v d ∧ sm d = true ∧ ∀ H', Same H H' → Q (.bl (isC n d)) H'
theorem len_ne {xs : List V} {n : Int} (h : ¬ decide (V.int (xs.length : Int) = V.int n) = true) : (xs.length : Int) ≠ n := fun z => h (by rw [z]; exact decide_eq_true rfl)
theorem len_is {xs : List V} {n : Int} (h : decide (V.int (xs.length : Int) = V.int n) = true) : (xs.length : Int) = n := V.int.inj (of_decide_eq_true h)
theorem sm_cons {x : PyData} {xs : List PyData} (h : smAll (x :: xs) = true) : sm x = true ∧ smAll xs = true := by
  have : (sm x && smAll xs) = true := h
  simpa using this
theorem one_of {K : PySem.W.Frag} {G : Hp} {xs : List V} {ds : List PyData} (r : RpAll K G xs ds) (h : xs.length = 1) : ∃ x d, xs = [x] ∧ ds = [d] ∧ Rp K G x d := by
  cases r with
  | nil => cases h
  | cons a t =>
    cases t with
    | nil => exact ⟨_, _, rfl, rfl, a⟩
    | cons b t => simp at h
theorem two_of {K : PySem.W.Frag} {G : Hp} {xs : List V} {ds : List PyData} (r : RpAll K G xs ds) (h : xs.length = 2) : ∃ x y d e, xs = [x, y] ∧ ds = [d, e] ∧ Rp K G x d ∧ Rp K G y e := by
  cases r with
  | nil => cases h
  | cons a t =>
    obtain ⟨y, e, rfl, rfl, q⟩ := one_of t (by simpa using h)
    exact ⟨_, y, _, e, rfl, rfl, a, q⟩
theorem tl_ne1 {α : Type} {f : PyData → α} {c : α} : ∀ {tl : List PyData}, tl.length ≠ 1 → (match tl with | [a] => f a | _ => c) = c
  | [], _ => rfl
  | [a], h => absurd rfl h
  | a :: b :: t, _ => rfl
theorem tl_ne2 {α : Type} {f : PyData → PyData → α} {c : α} : ∀ {tl : List PyData}, tl.length ≠ 2 → (match tl with | [a, b] => f a b | _ => c) = c
  | [], _ => rfl
  | [a], _ => rfl
  | [a, b], h => absurd rfl h
  | a :: b :: d :: t, _ => rfl
section
variable {P : Program} {w : World} {K : PySem.W.Frag} {mg : Str → Option Value} {base : Heap}
theorem scExp : FnScope ["value", "deep", "head"] ["value", "deep"] (defScope sExp) := ⟨rfl, rfl, rfl, by decide +kernel, rfl, by decide +kernel, by decide +kernel⟩
theorem ok_exp {f fV fW : Addr} {fd fdV fdW : FuncData} (F : FunD K "is_expression" "is_expression" (defArgs sExp) (defBody sExp) (defScope sExp) [V.int 6] [] f fd) (T : TxtH mg) (TExp : DefT K mg "is_expression" f) (bExp : Binds K fd ["value", "deep"] [])
    (GVal : FnOk P w K mg base CX0 2 fV fdV ["value"] (spVal K)) (TVal : DefT K mg "is_value" fV) (bVal : Binds K fdV ["value"] [])
    (GWord : FnOk P w K mg base CX0 1 fW fdW ["value"] (spWord K)) (TWord : DefT K mg "is_word" fW) (bWord : Binds K fdW ["value"] []) : ∀ m, FnOk P w K mg base CX0 (m + 3) f fd ["value", "deep"] (spExp K m)
  | 0 => by
    refine F.ok scExp (fun vs H Q E h => ?_) (fun cdv A outer s H vs Q E hr h => ?_)
    · obtain ⟨v, d, n, rfl, _⟩ := h
      rfl
    · obtain ⟨v, d, n, rfl, lt, _⟩ := h
      exact absurd lt (Nat.not_lt_zero _)
  | m + 1 => by
    have GExp := ok_exp F T TExp bExp GVal TVal bVal GWord TWord bWord m
    refine F.ok scExp (fun vs H Q E h => ?_) (fun cdv A outer s H vs Q E hr h => ?_)
    · obtain ⟨v, d, n, rfl, _⟩ := h
      rfl
    · obtain ⟨v, d, n, rfl, lt, r, small, k⟩ := h
      have hu := hu_of hr
      refine ⟨_, (pss_cons (ps_if (PW.pt (pw_or (pt_cmpR op_eq (pv 1) pe_int (nomark _)) (pw_or (pt_not (pt_val (pe_callB call_isi (by rfl) T.isinstance (by decide +kernel) (pa_cons (pv 0) (pa_cons (pe_bltn (v := V.ty "tuple") (by rfl) T.tuple (by decide +kernel) rfl) pa_nil))))) (pw_or1 (pt_cmpR op_eq (pe_callB call_len_seq (by rfl) T.len PySem.boot_len (pa_cons (pv 0) pa_nil)) pe_int (nomark _)))))) (pss_one (ps_ret pe_bl)) pss_nil)
        (pss_cons (ps_set (i := 2) scExp.nd rfl (Or.inl rfl) (pe_ix ix_tup (pv 0) pe_int (fun _ _ => rfl)))
        (pss_cons (ps_if (pt_cmpR (KEq.op_eqS hu) (pv 2) pe_str (nomark _)) (pss_one (ps_ret (pe_and (pe_cmpR op_eq (pe_callB call_len_seq (by rfl) T.len PySem.boot_len (pa_cons (pv 0) pa_nil)) pe_int (nomark _)) (pe_one (pe_call GVal (hr.mono (by omega)) rfl TVal.mg TVal.kp bVal .nil pass0 (pa_cons (pe_ix ix_tup (pv 0) pe_int (fun _ _ => rfl)) pa_nil)))))) pss_nil)
        (pss_cons (ps_if (pt_cmpR (KEq.op_eqS hu) (pv 2) pe_str (nomark _)) (pss_one (ps_ret (pe_cmpR op_eq (pe_callB call_len_seq (by rfl) T.len PySem.boot_len (pa_cons (pv 0) pa_nil)) pe_int (nomark _)))) pss_nil)
        (pss_cons (ps_if (pt_cmpR (KEq.op_eqS hu) (pv 2) pe_str (nomark _)) (pss_one (ps_ret (pe_and (pe_cmpR op_eq (pe_callB call_len_seq (by rfl) T.len PySem.boot_len (pa_cons (pv 0) pa_nil)) pe_int (nomark _)) (pe_one (pe_call GWord (hr.mono (by omega)) rfl TWord.mg TWord.kp bWord .nil pass0 (pa_cons (pe_ix ix_tup (pv 0) pe_int (fun _ _ => rfl)) pa_nil)))))) pss_nil)
        (pss_cons (ps_if (pt_cmpR (KEq.op_inS hu) (pv 2) (Ab.pe_tupA (pa_cons pe_str (pa_cons pe_str (pa_cons pe_str pa_nil)))) rfl) (pss_one (ps_ret (pe_and (pe_cmpR op_eq (pe_callB call_len_seq (by rfl) T.len PySem.boot_len (pa_cons (pv 0) pa_nil)) pe_int (nomark _)) (pe_and (pe_call GExp (hr.mono (by omega)) rfl TExp.mg TExp.kp bExp .nil pass0 (pa_cons (pe_ix ix_tup (pv 0) pe_int (fun _ _ => rfl)) (pa_cons (pe_op op_sub (pv 1) pe_int) pa_nil))) (pe_one (pe_call GExp (hr.mono (by omega)) rfl TExp.mg TExp.kp bExp .nil pass0 (pa_cons (pe_ix ix_tup (pv 0) pe_int (fun _ _ => rfl)) (pa_cons (pe_op op_sub (pv 1) pe_int) pa_nil)))))))) pss_nil)
        (pss_one (ps_ret pe_bl)))))))), ?_⟩
      refine ⟨_, rfl, rfl, _, rfl, ite2 (fun h1 => ?_) (fun h1 => ?_)⟩
      · have e : n = 0 := by have := V.int.inj (of_decide_eq_true h1); omega
        refine iteT ?_
        have := k _ (.refl _)
        rw [e] at this
        exact this
      obtain ⟨n, rfl⟩ : ∃ j, n = j + 1 := ⟨n - 1, by
        have : n ≠ 0 := fun z => h1 (by rw [z]; rfl)
        omega⟩
      refine ⟨_, rfl, v, .ty "tuple", _, _, _, rfl, .ty _, rp_ty r, kit_tup d, _, rfl, ite2 (fun h2 => ?_) (fun h2 => ?_)⟩
      · refine iteT ?_
        have := k _ (.refl _)
        rw [e_not (by simpa using h2)] at this
        exact this
      cases r with
      | @tup a xs ds q rr =>
        cases rr with
        | nil =>
          refine ⟨_, rfl, a, [], rfl, .inr q, rfl, _, rfl, iteT ?_⟩
          exact k _ (.refl _)
        | @cons hv xv h tl rh rt =>
          obtain ⟨small1, small2⟩ := sm_cons (sm_tup small)
          refine ⟨_, rfl, a, hv :: xv, rfl, .inr q, rfl, _, rfl, ite2 (fun h3 => ?_) (fun _ => ?_)⟩
          · exact absurd (len_is h3) (by simp; omega)
          refine ⟨_, rfl, a, hv :: xv, 0, hv, rfl, rfl, q, atI_nat (j := 0) rfl, ?_⟩
          refine ⟨_, rfl, h, _, rh, rfl, _, rfl, ite2 (fun i1 => ?_) (fun i1 => ?_)⟩
          · refine ⟨_, rfl, a, hv :: xv, rfl, .inr q, rfl, _, rfl, ite2 (fun h4 => ?_) (fun h4 => ?_)⟩
            · have h5 := len_is h4
              obtain ⟨x, d, rfl, rfl, rx⟩ := one_of rt (by simp at h5; omega)
              refine ⟨_, rfl, a, [hv, x], 1, x, rfl, rfl, q, atI_nat (j := 1) rfl, x, d, rfl, rx, ?_⟩
              have := k _ (.refl _)
              unfold isE at this
              rw [if_pos i1] at this
              exact this
            · have h5 := len_ne h4
              have := k _ (.refl _)
              unfold isE at this
              rw [if_pos i1, tl_ne1 (by rw [← RpAll.len rt]; simp at h5; omega)] at this
              exact this
          refine ⟨_, rfl, h, _, rh, rfl, _, rfl, ite2 (fun i2 => ?_) (fun i2 => ?_)⟩
          · refine ⟨_, rfl, a, hv :: xv, rfl, .inr q, rfl, ?_⟩
            have := k _ (.refl _)
            unfold isE at this
            rw [if_neg i1, if_pos i2] at this
            cases rt with
            | nil => exact this
            | @cons b c d e _ rt2 =>
              rw [show decide (V.int ((hv :: b :: c).length : Int) = V.int 1) = false from decide_eq_false (fun z => by have := V.int.inj z; simp at this; omega)]
              exact this
          refine ⟨_, rfl, h, _, rh, rfl, _, rfl, ite2 (fun i3 => ?_) (fun i3 => ?_)⟩
          · refine ⟨_, rfl, a, hv :: xv, rfl, .inr q, rfl, _, rfl, ite2 (fun h4 => ?_) (fun h4 => ?_)⟩
            · have h5 := len_is h4
              obtain ⟨x, d, rfl, rfl, rx⟩ := one_of rt (by simp at h5; omega)
              refine ⟨_, rfl, a, [hv, x], 1, x, rfl, rfl, q, atI_nat (j := 1) rfl, x, d, rfl, rx, (sm_cons small2).1, fun H' s' => ?_⟩
              have := k _ s'
              unfold isE at this
              rw [if_neg i1, if_neg i2, if_pos i3] at this
              exact this
            · have h5 := len_ne h4
              have := k _ (.refl _)
              unfold isE at this
              rw [if_neg i1, if_neg i2, if_pos i3, tl_ne1 (by rw [← RpAll.len rt]; simp at h5; omega)] at this
              exact this
          refine ⟨_, rfl, sz (by simp), fun t Gt ft st et => ?_⟩
          refine ⟨h, t, ops, Rp.same st rh, rfl, SqT.of et, _, rfl, ite2 (fun i4 => ?_) (fun i4 => ?_)⟩
          · have q2 := sqT_same st q
            refine ⟨_, rfl, a, hv :: xv, rfl, .inr q2, rfl, _, rfl, ite2 (fun h4 => ?_) (fun h4 => ?_)⟩
            · have h5 := len_is h4
              obtain ⟨x, y, d, e, rfl, rfl, rx, ry⟩ := two_of rt (by simp at h5; omega)
              have sx := sm_cons small2
              have sy := sm_cons sx.2
              refine ⟨_, rfl, a, [hv, x, y], 1, x, rfl, rfl, q2, atI_nat (j := 1) rfl, _, rfl, _, _, rfl, rfl, x, d, n, by simp, by omega, Rp.same st rx, sx.1, fun H1 s1 => ?_⟩
              refine ⟨_, rfl, ite2 (fun h6 => ?_) (fun h6 => ?_)⟩
              · refine ⟨_, rfl, a, [hv, x, y], 2, y, rfl, rfl, sqT_same s1 q2, atI_nat (j := 2) rfl, _, rfl, _, _, rfl, rfl, y, e, n, by simp, by omega, Rp.same (st.trans s1) ry, sy.1, fun H2 s2 => ?_⟩
                have := k _ ((st.trans s1).trans s2)
                unfold isE at this
                rw [if_neg i1, if_neg i2, if_neg i3, if_pos i4] at this
                rw [show (match ([d, e] : List PyData) with | [a, b] => isE n a && isE n b | _ => false) = isE n e by show (isE n d && isE n e) = _; rw [h6]; rfl] at this
                exact this
              · have := k _ (st.trans s1)
                unfold isE at this
                rw [if_neg i1, if_neg i2, if_neg i3, if_pos i4] at this
                rw [show (match ([d, e] : List PyData) with | [a, b] => isE n a && isE n b | _ => false) = false by show (isE n d && isE n e) = _; rw [Bool.eq_false_iff.mpr h6]; rfl] at this
                exact this
            · have h5 := len_ne h4
              have := k _ st
              unfold isE at this
              rw [if_neg i1, if_neg i2, if_neg i3, if_pos i4, tl_ne2 (by rw [← RpAll.len rt]; simp at h5; omega)] at this
              exact this
          · have := k _ st
            unfold isE at this
            rw [if_neg i1, if_neg i2, if_neg i3, if_neg i4] at this
            exact this
      | _ => exact absurd rfl h2
theorem scCon : FnScope ["value", "deep", "head"] ["value", "deep"] (defScope sCon) := ⟨rfl, rfl, rfl, by decide +kernel, rfl, by decide +kernel, by decide +kernel⟩
theorem ok_con {f fE : Addr} {fd fdE : FuncData} {t6 : Tok} (F : FunD K "is_condition" "is_condition" (defArgs sCon) (defBody sCon) (defScope sCon) [V.int 6] [] f fd) (T : TxtH mg) (TCon : DefT K mg "is_condition" f) (bCon : Binds K fd ["value", "deep"] [])
    (GExp : FnOk P w K mg base CX0 10 fE fdE ["value", "deep"] (spExp K 7)) (TExp : DefT K mg "is_expression" fE) (bExp6 : Binds K fdE ["value", "deep"] [.int 6 t6]) : ∀ m, FnOk P w K mg base CX0 (m + 11) f fd ["value", "deep"] (spCon K m)
  | 0 => by
    refine F.ok scCon (fun vs H Q E h => ?_) (fun cdv A outer s H vs Q E hr h => ?_)
    · obtain ⟨v, d, n, rfl, _⟩ := h
      rfl
    · obtain ⟨v, d, n, rfl, lt, _⟩ := h
      exact absurd lt (Nat.not_lt_zero _)
  | m + 1 => by
    have GCon := ok_con F T TCon bCon GExp TExp bExp6 m
    refine F.ok scCon (fun vs H Q E h => ?_) (fun cdv A outer s H vs Q E hr h => ?_)
    · obtain ⟨v, d, n, rfl, _⟩ := h
      rfl
    · obtain ⟨v, d, n, rfl, lt, r, small, k⟩ := h
      have hu := hu_of hr
      refine ⟨_, (pss_cons (ps_if (PW.pt (pw_or (pt_cmpR op_eq (pv 1) pe_int (nomark _)) (pw_or (pt_not (pt_val (pe_callB call_isi (by rfl) T.isinstance (by decide +kernel) (pa_cons (pv 0) (pa_cons (pe_bltn (v := V.ty "tuple") (by rfl) T.tuple (by decide +kernel) rfl) pa_nil))))) (pw_or1 (pt_cmpR op_eq (pe_callB call_len_seq (by rfl) T.len PySem.boot_len (pa_cons (pv 0) pa_nil)) pe_int (nomark _)))))) (pss_one (ps_ret pe_bl)) pss_nil)
        (pss_cons (ps_set (i := 2) scCon.nd rfl (Or.inl rfl) (pe_ix ix_tup (pv 0) pe_int (fun _ _ => rfl)))
        (pss_cons (ps_if (pt_cmpR (KEq.op_inS hu) (pv 2) (Ab.pe_tupA (pa_cons pe_str (pa_cons pe_str pa_nil))) rfl) (pss_one (ps_ret (pe_and (pe_cmpR op_eq (pe_callB call_len_seq (by rfl) T.len PySem.boot_len (pa_cons (pv 0) pa_nil)) pe_int (nomark _)) (pe_and (pe_call GExp (hr.mono (by omega)) rfl TExp.mg TExp.kp bExp6 (.cons (show L2.RelV (V.int 6) (Value.int 6 t6) from ⟨_, rfl⟩) .nil) pass0 (pa_cons (pe_ix ix_tup (pv 0) pe_int (fun _ _ => rfl)) pa_nil)) (pe_one (pe_call GExp (hr.mono (by omega)) rfl TExp.mg TExp.kp bExp6 (.cons (show L2.RelV (V.int 6) (Value.int 6 t6) from ⟨_, rfl⟩) .nil) pass0 (pa_cons (pe_ix ix_tup (pv 0) pe_int (fun _ _ => rfl)) pa_nil))))))) pss_nil)
        (pss_cons (ps_if (pt_cmpR (KEq.op_eqS hu) (pv 2) pe_str (nomark _)) (pss_one (ps_ret (pe_and (pe_cmpR op_eq (pe_callB call_len_seq (by rfl) T.len PySem.boot_len (pa_cons (pv 0) pa_nil)) pe_int (nomark _)) (pe_one (pe_call GCon (hr.mono (by omega)) rfl TCon.mg TCon.kp bCon .nil pass0 (pa_cons (pe_ix ix_tup (pv 0) pe_int (fun _ _ => rfl)) (pa_cons (pe_op op_sub (pv 1) pe_int) pa_nil))))))) pss_nil)
        (pss_cons (ps_if (pt_cmpR (KEq.op_inS hu) (pv 2) (Ab.pe_tupA (pa_cons pe_str (pa_cons pe_str pa_nil))) rfl) (pss_one (ps_ret (pe_and (pe_cmpR op_eq (pe_callB call_len_seq (by rfl) T.len PySem.boot_len (pa_cons (pv 0) pa_nil)) pe_int (nomark _)) (pe_and (pe_call GCon (hr.mono (by omega)) rfl TCon.mg TCon.kp bCon .nil pass0 (pa_cons (pe_ix ix_tup (pv 0) pe_int (fun _ _ => rfl)) (pa_cons (pe_op op_sub (pv 1) pe_int) pa_nil))) (pe_one (pe_call GCon (hr.mono (by omega)) rfl TCon.mg TCon.kp bCon .nil pass0 (pa_cons (pe_ix ix_tup (pv 0) pe_int (fun _ _ => rfl)) (pa_cons (pe_op op_sub (pv 1) pe_int) pa_nil)))))))) pss_nil)
        (pss_one (ps_ret pe_bl))))))), ?_⟩
      refine ⟨_, rfl, rfl, _, rfl, ite2 (fun h1 => ?_) (fun h1 => ?_)⟩
      · have e : n = 0 := by have := V.int.inj (of_decide_eq_true h1); omega
        refine iteT ?_
        have := k _ (.refl _)
        rw [e] at this
        exact this
      obtain ⟨n, rfl⟩ : ∃ j, n = j + 1 := ⟨n - 1, by
        have : n ≠ 0 := fun z => h1 (by rw [z]; rfl)
        omega⟩
      refine ⟨_, rfl, v, .ty "tuple", _, _, _, rfl, .ty _, rp_ty r, kit_tup d, _, rfl, ite2 (fun h2 => ?_) (fun h2 => ?_)⟩
      · refine iteT ?_
        have := k _ (.refl _)
        rw [c_not (by simpa using h2)] at this
        exact this
      cases r with
      | @tup a xs ds q rr =>
        cases rr with
        | nil =>
          refine ⟨_, rfl, a, [], rfl, .inr q, rfl, _, rfl, iteT ?_⟩
          exact k _ (.refl _)
        | @cons hv xv h tl rh rt =>
          obtain ⟨small1, small2⟩ := sm_cons (sm_tup small)
          refine ⟨_, rfl, a, hv :: xv, rfl, .inr q, rfl, _, rfl, ite2 (fun h3 => ?_) (fun _ => ?_)⟩
          · exact absurd (len_is h3) (by simp; omega)
          refine ⟨_, rfl, a, hv :: xv, 0, hv, rfl, rfl, q, atI_nat (j := 0) rfl, ?_⟩
          refine ⟨_, rfl, sz (by simp), fun t Gt ft st et => ?_⟩
          have q2 := sqT_same st q
          refine ⟨h, t, ["<", "="], Rp.same st rh, rfl, SqT.of et, _, rfl, ite2 (fun i1 => ?_) (fun i1 => ?_)⟩
          · refine ⟨_, rfl, a, hv :: xv, rfl, .inr q2, rfl, _, rfl, ite2 (fun h4 => ?_) (fun h4 => ?_)⟩
            · have h5 := len_is h4
              obtain ⟨x, y, d, e, rfl, rfl, rx, ry⟩ := two_of rt (by simp at h5; omega)
              have sx := sm_cons small2
              have sy := sm_cons sx.2
              refine ⟨_, rfl, a, [hv, x, y], 1, x, rfl, rfl, q2, atI_nat (j := 1) rfl, x, d, 6, rfl, by omega, Rp.same st rx, sx.1, fun H1 s1 => ?_⟩
              refine ⟨_, rfl, ite2 (fun h6 => ?_) (fun h6 => ?_)⟩
              · refine ⟨_, rfl, a, [hv, x, y], 2, y, rfl, rfl, sqT_same s1 q2, atI_nat (j := 2) rfl, y, e, 6, rfl, by omega, Rp.same (st.trans s1) ry, sy.1, fun H2 s2 => ?_⟩
                have := k _ ((st.trans s1).trans s2)
                unfold isC at this
                rw [if_pos i1] at this
                rw [show (match ([d, e] : List PyData) with | [a, b] => isE 6 a && isE 6 b | _ => false) = isE 6 e by show (isE 6 d && isE 6 e) = _; rw [h6]; rfl] at this
                exact this
              · have := k _ (st.trans s1)
                unfold isC at this
                rw [if_pos i1] at this
                rw [show (match ([d, e] : List PyData) with | [a, b] => isE 6 a && isE 6 b | _ => false) = false by show (isE 6 d && isE 6 e) = _; rw [Bool.eq_false_iff.mpr h6]; rfl] at this
                exact this
            · have h5 := len_ne h4
              have := k _ st
              unfold isC at this
              rw [if_pos i1, tl_ne2 (by rw [← RpAll.len rt]; simp at h5; omega)] at this
              exact this
          refine ⟨_, rfl, h, _, Rp.same st rh, rfl, _, rfl, ite2 (fun i2 => ?_) (fun i2 => ?_)⟩
          · refine ⟨_, rfl, a, hv :: xv, rfl, .inr q2, rfl, _, rfl, ite2 (fun h4 => ?_) (fun h4 => ?_)⟩
            · have h5 := len_is h4
              obtain ⟨x, d, rfl, rfl, rx⟩ := one_of rt (by simp at h5; omega)
              refine ⟨_, rfl, a, [hv, x], 1, x, rfl, rfl, q2, atI_nat (j := 1) rfl, _, rfl, _, _, rfl, rfl, x, d, n, by simp, by omega, Rp.same st rx, (sm_cons small2).1, fun H1 s1 => ?_⟩
              have := k _ (st.trans s1)
              unfold isC at this
              rw [if_neg i1, if_pos i2] at this
              exact this
            · have h5 := len_ne h4
              have := k _ st
              unfold isC at this
              rw [if_neg i1, if_pos i2, tl_ne1 (by rw [← RpAll.len rt]; simp at h5; omega)] at this
              exact this
          refine ⟨_, rfl, sz (by simp), fun t3 Gt3 ft3 st3 et3 => ?_⟩
          have q3 := sqT_same st3 q2
          have st' := st.trans st3
          refine ⟨h, t3, ["and", "or"], Rp.same st' rh, rfl, SqT.of et3, _, rfl, ite2 (fun i3 => ?_) (fun i3 => ?_)⟩
          · refine ⟨_, rfl, a, hv :: xv, rfl, .inr q3, rfl, _, rfl, ite2 (fun h4 => ?_) (fun h4 => ?_)⟩
            · have h5 := len_is h4
              obtain ⟨x, y, d, e, rfl, rfl, rx, ry⟩ := two_of rt (by simp at h5; omega)
              have sx := sm_cons small2
              have sy := sm_cons sx.2
              refine ⟨_, rfl, a, [hv, x, y], 1, x, rfl, rfl, q3, atI_nat (j := 1) rfl, _, rfl, _, _, rfl, rfl, x, d, n, by simp, by omega, Rp.same st' rx, sx.1, fun H1 s1 => ?_⟩
              refine ⟨_, rfl, ite2 (fun h6 => ?_) (fun h6 => ?_)⟩
              · refine ⟨_, rfl, a, [hv, x, y], 2, y, rfl, rfl, sqT_same s1 q3, atI_nat (j := 2) rfl, _, rfl, _, _, rfl, rfl, y, e, n, by simp, by omega, Rp.same (st'.trans s1) ry, sy.1, fun H2 s2 => ?_⟩
                have := k _ ((st'.trans s1).trans s2)
                unfold isC at this
                rw [if_neg i1, if_neg i2, if_pos i3] at this
                rw [show (match ([d, e] : List PyData) with | [a, b] => isC n a && isC n b | _ => false) = isC n e by show (isC n d && isC n e) = _; rw [h6]; rfl] at this
                exact this
              · have := k _ (st'.trans s1)
                unfold isC at this
                rw [if_neg i1, if_neg i2, if_pos i3] at this
                rw [show (match ([d, e] : List PyData) with | [a, b] => isC n a && isC n b | _ => false) = false by show (isC n d && isC n e) = _; rw [Bool.eq_false_iff.mpr h6]; rfl] at this
                exact this
            · have h5 := len_ne h4
              have := k _ st'
              unfold isC at this
              rw [if_neg i1, if_neg i2, if_pos i3, tl_ne2 (by rw [← RpAll.len rt]; simp at h5; omega)] at this
              exact this
          · have := k _ st'
            unfold isC at this
            rw [if_neg i1, if_neg i2, if_neg i3] at this
            exact this
      | _ => exact absurd rfl h2
end
end Hd

set_option Elab.async false
set_option linter.all false
set_option maxRecDepth 100000
set_option maxHeartbeats 4000000
namespace Hd
open PySem L2 Pen RG Dat KEq
abbrev sHand : Stmt := top 27
abbrev sRoom : Stmt := top 28
abbrev sDeed : Stmt := top 29
abbrev sOne : Stmt := top 30
def isOne : PyData → Bool
  | .tuple (h :: tl) =>
    if isS h "set" = true then (match tl with | [a, b] => isWord a && isE 6 b | _ => false)
    else if isS h "send" = true then (match tl with | [a, b, c] => isWord a && (isKey b && isE 6 c) | _ => false)
    else isS h "fail" && (match tl with | [] => true | _ => false)
  | _ => false
def roomAll (f : PyData → Nat → Option Nat) : List PyData → Nat → Option Nat
  | [], r => some r
  | _ :: _, 0 => none
  | d :: ds, r + 1 => (f d r).bind (roomAll f ds)
def roomR (f : PyData → Nat → Option Nat) : PyData → Nat → Option Nat
  | .tuple ds, r => roomAll f ds r
  | _, _ => none
def deedR : Nat → PyData → Nat → Option Nat
  | 0, d, r => if isOne d = true then some r else none
  | i + 1, d, r => if isOne d = true then some r else
    match d with
    | .tuple [h, c, a, b] => if isS h "if" = true then (if isC 6 c = true then (roomR (deedR i) a r).bind (roomR (deedR i) b) else none) else none
    | _ => none
def hOk (d : PyData) : Bool := (roomR (deedR 3) d 12).isSome
def oV : Option Nat → V
  | none => .non
  | some n => .int n
def spOne (K : PySem.W.Frag) : Sp := fun vs H Q _ => ∃ v d, vs = [v] ∧ Rp K H v d ∧ sm d = true ∧ ∀ H', Same H H' → Q (.bl (isOne d)) H'
def spDeed (K : PySem.W.Frag) (m : Nat) : Sp := fun vs H Q _ => ∃ (v : V) (d : PyData) (r i : Nat), vs = [v, .int r, .int i] ∧ i < m ∧ Rp K H v d ∧ sm d = true ∧ ∀ H', Same H H' → Q (oV (deedR i d r)) H'
def spRoom (K : PySem.W.Frag) (m : Nat) : Sp := fun vs H Q _ => ∃ (v : V) (d : PyData) (r i : Nat), vs = [v, .int r, .int i] ∧ i < m ∧ Rp K H v d ∧ sm d = true ∧ ∀ H', Same H H' → Q (oV (roomR (deedR i) d r)) H'
def spHand (K : PySem.W.Frag) : Sp := fun vs H Q _ => ∃ v d, vs = [v] ∧ Rp K H v d ∧ sm d = true ∧ ∀ H', Same H H' → Q (.bl (hOk d)) H'
structure TxtM (mg : Str → Option Value) : Prop where
  DEEDS : ∃ t, mg "MOST_DEEDS" = some (.int 12 t)
  IFS : ∃ t, mg "MOST_IFS" = some (.int 3 t)
theorem one_cons {h : PyData} {tl : List PyData} : isOne (.tuple (h :: tl)) = if isS h "set" = true then (match tl with | [a, b] => isWord a && isE 6 b | _ => false)
    else if isS h "send" = true then (match tl with | [a, b, c] => isWord a && (isKey b && isE 6 c) | _ => false)
    else isS h "fail" && (match tl with | [] => true | _ => false) := rfl
theorem one_set_ne {h : PyData} {tl : List PyData} (hS : isS h "set" = true) (hl : tl.length ≠ 2) : isOne (.tuple (h :: tl)) = false := by
  rw [one_cons, if_pos hS]
  rcases tl with _ | ⟨a, _ | ⟨b, _ | ⟨c, t⟩⟩⟩ <;> first | rfl | exact absurd rfl hl
theorem one_send_ne {h : PyData} {tl : List PyData} (h1 : ¬ isS h "set" = true) (hS : isS h "send" = true) (hl : tl.length ≠ 3) : isOne (.tuple (h :: tl)) = false := by
  rw [one_cons, if_neg h1, if_pos hS]
  rcases tl with _ | ⟨a, _ | ⟨b, _ | ⟨c, _ | ⟨e, t⟩⟩⟩⟩ <;> first | rfl | exact absurd rfl hl
theorem one_not {d : PyData} (h : isTup d = false) : isOne d = false := by
  cases d <;> first | rfl | cases h
theorem three_of {K : PySem.W.Frag} {G : Hp} {xs : List V} {ds : List PyData} (r : RpAll K G xs ds) (h : xs.length = 3) : ∃ x y z d e f, xs = [x, y, z] ∧ ds = [d, e, f] ∧ Rp K G x d ∧ Rp K G y e ∧ Rp K G z f := by
  cases r with
  | nil => cases h
  | cons a t =>
    obtain ⟨y, z, e, f, rfl, rfl, q, q2⟩ := two_of t (by simpa using h)
    exact ⟨_, y, z, _, e, f, rfl, rfl, a, q, q2⟩
theorem tl_ne3 {α : Type} {f : PyData → PyData → PyData → α} {c : α} : ∀ {tl : List PyData}, tl.length ≠ 3 → (match tl with | [a, b, d] => f a b d | _ => c) = c
  | [], _ => rfl
  | [a], _ => rfl
  | [a, b], _ => rfl
  | [a, b, d], h => absurd rfl h
  | a :: b :: d :: e :: t, _ => rfl
section
variable {P : Program} {w : World} {K : PySem.W.Frag} {mg : Str → Option Value} {base : Heap}
theorem scOne : FnScope ["value", "head"] ["value"] (defScope sOne) := ⟨rfl, rfl, rfl, by decide +kernel, rfl, by decide +kernel, by decide +kernel⟩
theorem ok_one {f fE fW fK : Addr} {fd fdE fdW fdK : FuncData} {t6 : Tok} (F : Fun K "is_single_deed" "is_single_deed" sOne f fd) (T : TxtH mg)
    (GExp : FnOk P w K mg base CX0 10 fE fdE ["value", "deep"] (spExp K 7)) (TExp : DefT K mg "is_expression" fE) (bExp : Binds K fdE ["value", "deep"] [.int 6 t6])
    (GWord : FnOk P w K mg base CX0 1 fW fdW ["value"] (spWord K)) (TWord : DefT K mg "is_word" fW) (bWord : Binds K fdW ["value"] [])
    (GKey : FnOk P w K mg base CX0 2 fK fdK ["value"] (spKey K)) (TKey : DefT K mg "is_key" fK) (bKey : Binds K fdK ["value"] []) : FnOk P w K mg base CX0 11 f fd ["value"] (spOne K) := by
  refine F.ok scOne (fun vs H Q E h => ?_) (fun cdv A outer s H vs Q E hr h => ?_)
  · obtain ⟨v, d, rfl, _⟩ := h
    rfl
  · obtain ⟨v, d, rfl, r, small, k⟩ := h
    have hu := hu_of hr
    refine ⟨_, (pss_cons (ps_if (PW.pt (pw_or (pt_not (pt_val (pe_callB call_isi (by rfl) T.isinstance (by decide +kernel) (pa_cons (pv 0) (pa_cons (pe_bltn (v := V.ty "tuple") (by rfl) T.tuple (by decide +kernel) rfl) pa_nil))))) (pw_or1 (pt_cmpR op_eq (pe_callB call_len_seq (by rfl) T.len PySem.boot_len (pa_cons (pv 0) pa_nil)) pe_int (nomark _))))) (pss_one (ps_ret pe_bl)) pss_nil)
      (pss_cons (ps_set (i := 1) scOne.nd rfl (Or.inl rfl) (pe_ix ix_tup (pv 0) pe_int (fun _ _ => rfl)))
      (pss_cons (ps_if (pt_cmpR (KEq.op_eqS hu) (pv 1) pe_str (nomark _)) (pss_one (ps_ret (pe_and (pe_cmpR op_eq (pe_callB call_len_seq (by rfl) T.len PySem.boot_len (pa_cons (pv 0) pa_nil)) pe_int (nomark _)) (pe_and (pe_call GWord (hr.mono (by decide)) rfl TWord.mg TWord.kp bWord .nil pass0 (pa_cons (pe_ix ix_tup (pv 0) pe_int (fun _ _ => rfl)) pa_nil)) (pe_one (pe_call GExp (hr.mono (by decide)) rfl TExp.mg TExp.kp bExp (.cons (show L2.RelV (V.int 6) (Value.int 6 t6) from ⟨_, rfl⟩) .nil) pass0 (pa_cons (pe_ix ix_tup (pv 0) pe_int (fun _ _ => rfl)) pa_nil))))))) pss_nil)
      (pss_cons (ps_if (pt_cmpR (KEq.op_eqS hu) (pv 1) pe_str (nomark _)) (pss_one (ps_ret (pe_and (pe_cmpR op_eq (pe_callB call_len_seq (by rfl) T.len PySem.boot_len (pa_cons (pv 0) pa_nil)) pe_int (nomark _)) (pe_and (pe_call GWord (hr.mono (by decide)) rfl TWord.mg TWord.kp bWord .nil pass0 (pa_cons (pe_ix ix_tup (pv 0) pe_int (fun _ _ => rfl)) pa_nil)) (pe_and (pe_call GKey (hr.mono (by decide)) rfl TKey.mg TKey.kp bKey .nil pass0 (pa_cons (pe_ix ix_tup (pv 0) pe_int (fun _ _ => rfl)) pa_nil)) (pe_one (pe_call GExp (hr.mono (by decide)) rfl TExp.mg TExp.kp bExp (.cons (show L2.RelV (V.int 6) (Value.int 6 t6) from ⟨_, rfl⟩) .nil) pass0 (pa_cons (pe_ix ix_tup (pv 0) pe_int (fun _ _ => rfl)) pa_nil)))))))) pss_nil)
      (pss_one (ps_ret (pe_and (pe_cmpR (KEq.op_eqS hu) (pv 1) pe_str (nomark _)) (pe_one (pe_cmpR op_eq (pe_callB call_len_seq (by rfl) T.len PySem.boot_len (pa_cons (pv 0) pa_nil)) pe_int (nomark _)))))))))), ?_⟩
    refine ⟨_, rfl, v, .ty "tuple", _, _, _, rfl, .ty _, rp_ty r, kit_tup d, _, rfl, ite2 (fun h2 => ?_) (fun h2 => ?_)⟩
    · refine iteT ?_
      have := k _ (.refl _)
      rw [one_not (by simpa using h2)] at this
      exact this
    cases r with
    | @tup a xs ds q rr =>
      cases rr with
      | nil =>
        refine ⟨_, rfl, a, [], rfl, .inr q, rfl, _, rfl, iteT ?_⟩
        exact k _ (.refl _)
      | @cons hv xv h tl rh rt =>
        obtain ⟨small1, small2⟩ := sm_cons (sm_tup small)
        refine ⟨_, rfl, a, hv :: xv, rfl, .inr q, rfl, _, rfl, ite2 (fun h3 => ?_) (fun _ => ?_)⟩
        · exact absurd (len_is h3) (by simp; omega)
        refine ⟨_, rfl, a, hv :: xv, 0, hv, rfl, rfl, q, atI_nat (j := 0) rfl, ?_⟩
        refine ⟨_, rfl, h, _, rh, rfl, _, rfl, ite2 (fun i1 => ?_) (fun i1 => ?_)⟩
        · refine ⟨_, rfl, a, hv :: xv, rfl, .inr q, rfl, _, rfl, ite2 (fun h4 => ?_) (fun h4 => ?_)⟩
          · have h5 := len_is h4
            obtain ⟨x, y, d, e, rfl, rfl, rx, ry⟩ := two_of rt (by simp at h5; omega)
            have sx := sm_cons small2
            have sy := sm_cons sx.2
            refine ⟨_, rfl, a, [hv, x, y], 1, x, rfl, rfl, q, atI_nat (j := 1) rfl, x, d, rfl, rx, sx.1, fun H1 s1 => ?_⟩
            refine ⟨_, rfl, ite2 (fun h6 => ?_) (fun h6 => ?_)⟩
            · refine ⟨_, rfl, a, [hv, x, y], 2, y, rfl, rfl, sqT_same s1 q, atI_nat (j := 2) rfl, y, e, 6, rfl, by omega, Rp.same s1 ry, sy.1, fun H2 s2 => ?_⟩
              have := k _ (s1.trans s2)
              rw [one_cons] at this
              rw [if_pos i1] at this
              rw [show (match ([d, e] : List PyData) with | [a, b] => isWord a && isE 6 b | _ => false) = isE 6 e by show (isWord d && isE 6 e) = _; rw [h6]; rfl] at this
              exact this
            · have := k _ s1
              rw [one_cons] at this
              rw [if_pos i1] at this
              rw [show (match ([d, e] : List PyData) with | [a, b] => isWord a && isE 6 b | _ => false) = false by show (isWord d && isE 6 e) = _; rw [Bool.eq_false_iff.mpr h6]; rfl] at this
              exact this
          · have h5 := len_ne h4
            have := k _ (.refl _)
            rw [one_set_ne i1 (by rw [← RpAll.len rt]; simp at h5; omega)] at this
            exact this
        refine ⟨_, rfl, h, _, rh, rfl, _, rfl, ite2 (fun i2 => ?_) (fun i2 => ?_)⟩
        · refine ⟨_, rfl, a, hv :: xv, rfl, .inr q, rfl, _, rfl, ite2 (fun h4 => ?_) (fun h4 => ?_)⟩
          · have h5 := len_is h4
            obtain ⟨x, y, z, d, e, g, rfl, rfl, rx, ry, rz⟩ := three_of rt (by simp at h5; omega)
            have sx := sm_cons small2
            have sy := sm_cons sx.2
            have sz' := sm_cons sy.2
            refine ⟨_, rfl, a, [hv, x, y, z], 1, x, rfl, rfl, q, atI_nat (j := 1) rfl, x, d, rfl, rx, sx.1, fun H1 s1 => ?_⟩
            refine ⟨_, rfl, ite2 (fun h6 => ?_) (fun h6 => ?_)⟩
            · refine ⟨_, rfl, a, [hv, x, y, z], 2, y, rfl, rfl, sqT_same s1 q, atI_nat (j := 2) rfl, y, e, rfl, Rp.same s1 ry, sy.1, fun H2 s2 => ?_⟩
              refine ⟨_, rfl, ite2 (fun h7 => ?_) (fun h7 => ?_)⟩
              · refine ⟨_, rfl, a, [hv, x, y, z], 3, z, rfl, rfl, sqT_same (s1.trans s2) q, atI_nat (j := 3) rfl, z, g, 6, rfl, by omega, Rp.same (s1.trans s2) rz, sz'.1, fun H3 s3 => ?_⟩
                have := k _ ((s1.trans s2).trans s3)
                rw [one_cons] at this
                rw [if_neg i1, if_pos i2] at this
                rw [show (match ([d, e, g] : List PyData) with | [a, b, c] => isWord a && (isKey b && isE 6 c) | _ => false) = isE 6 g by show (isWord d && (isKey e && isE 6 g)) = _; rw [h6, h7]; rfl] at this
                exact this
              · have := k _ (s1.trans s2)
                rw [one_cons] at this
                rw [if_neg i1, if_pos i2] at this
                rw [show (match ([d, e, g] : List PyData) with | [a, b, c] => isWord a && (isKey b && isE 6 c) | _ => false) = false by show (isWord d && (isKey e && isE 6 g)) = _; rw [h6, Bool.eq_false_iff.mpr h7]; rfl] at this
                exact this
            · have := k _ s1
              rw [one_cons] at this
              rw [if_neg i1, if_pos i2] at this
              rw [show (match ([d, e, g] : List PyData) with | [a, b, c] => isWord a && (isKey b && isE 6 c) | _ => false) = false by show (isWord d && (isKey e && isE 6 g)) = _; rw [Bool.eq_false_iff.mpr h6]; rfl] at this
              exact this
          · have h5 := len_ne h4
            have := k _ (.refl _)
            rw [one_send_ne i1 i2 (by rw [← RpAll.len rt]; simp at h5; omega)] at this
            exact this
        refine ⟨_, rfl, h, _, rh, rfl, _, rfl, ite2 (fun i3 => ?_) (fun i3 => ?_)⟩
        · refine ⟨_, rfl, a, hv :: xv, rfl, .inr q, rfl, ?_⟩
          have := k _ (.refl _)
          rw [one_cons] at this
          rw [if_neg i1, if_neg i2, i3] at this
          cases rt with
          | nil => exact this
          | @cons b c d e _ rt2 =>
            rw [show decide (V.int ((hv :: b :: c).length : Int) = V.int 1) = false from decide_eq_false (fun z => by have := V.int.inj z; simp at this; omega)]
            exact this
        · have := k _ (.refl _)
          rw [one_cons] at this
          rw [if_neg i1, if_neg i2, Bool.eq_false_iff.mpr i3] at this
          exact this
    | _ => exact absurd rfl h2
theorem scRoom : FnScope ["deeds", "room", "ifs", "deed"] ["deeds", "room", "ifs"] (defScope sRoom) := ⟨rfl, rfl, rfl, by decide +kernel, rfl, by decide +kernel, by decide +kernel⟩
theorem scDeed : FnScope ["deed", "room", "ifs"] ["deed", "room", "ifs"] (defScope sDeed) := ⟨rfl, rfl, rfl, by decide +kernel, rfl, by decide +kernel, by decide +kernel⟩
theorem room_not {f : PyData → Nat → Option Nat} {d : PyData} {r : Nat} (h : isTup d = false) : roomR f d r = none := by
  cases d <;> first | rfl | cases h
theorem smAll_get : ∀ {ds : List PyData} {i : Nat} {d : PyData}, smAll ds = true → ds[i]? = some d → sm d = true
  | [], i, d, _, h => by simp at h
  | x :: xs, 0, d, s, h => by
    have e := Option.some.inj h
    subst e
    exact (sm_cons s).1
  | x :: xs, i + 1, d, s, h => smAll_get (ds := xs) (i := i) (sm_cons s).2 h
theorem rp_get {K : PySem.W.Frag} {G : Hp} : ∀ {vs : List V} {ds : List PyData} {i : Nat} {v : V}, RpAll K G vs ds → vs[i]? = some v → ∃ d, ds[i]? = some d ∧ Rp K G v d
  | _, _, i, _, .nil, h => by simp at h
  | _, _, 0, v, .cons q t, h => by
    have e := Option.some.inj h
    subst e
    exact ⟨_, rfl, q⟩
  | _, _, i + 1, v, .cons q t, h => rp_get (i := i) t h
theorem drop_get {α : Type} : ∀ {l : List α} {i : Nat} {x : α}, l[i]? = some x → l.drop i = x :: l.drop (i + 1)
  | [], i, x, h => by simp at h
  | a :: l, 0, x, h => by
    have e : a = x := Option.some.inj h
    subst e
    rfl
  | a :: l, i + 1, x, h => drop_get (l := l) (i := i) h
theorem oV_non {o : Option Nat} : decide (oV o = V.non) = o.isNone := by
  cases o <;> simp [oV]
theorem ok_room {f fD : Addr} {fd fdD : FuncData} (m n : Nat) (F : Fun K "room_after" "room_after" sRoom f fd) (T : TxtH mg)
    (GDeed : FnOk P w K mg base CX0 n fD fdD ["deed", "room", "ifs"] (spDeed K m)) (TDeed : DefT K mg "room_after_deed" fD) (bDeed : Binds K fdD ["deed", "room", "ifs"] []) : FnOk P w K mg base CX0 (n + 1) f fd ["deeds", "room", "ifs"] (spRoom K m) := by
  refine F.ok scRoom (fun vs H Q E h => ?_) (fun cdv A outer s H vs Q E hr h => ?_)
  · obtain ⟨v, d, r, i, rfl, _⟩ := h
    rfl
  · obtain ⟨v, d, r, j, rfl, lt, rp, small, k⟩ := h
    refine ⟨_, (pss_cons (ps_if (pt_not (pt_val (pe_callB call_isi (by rfl) T.isinstance (by decide +kernel) (pa_cons (pv 0) (pa_cons (pe_bltn (v := V.ty "tuple") (by rfl) T.tuple (by decide +kernel) rfl) pa_nil))))) (pss_one (ps_ret pe_non)) pss_nil)
      (pss_cons (ps_for PassesOwn.never rfl (pi_tup (pv 0)) (pg_name (i := 3) scRoom.nd rfl (Or.inl rfl)) (pss_cons (ps_if (pt_cmpR op_eq (pv 1) pe_int (nomark _)) (pss_one (ps_ret pe_non)) pss_nil)
      (pss_cons (ps_set (i := 1) scRoom.nd rfl (Or.inl rfl) (pe_call GDeed (hr.mono (by omega)) rfl TDeed.mg TDeed.kp bDeed .nil pass0 (pa_cons (pv 3) (pa_cons (pe_op op_sub (pv 1) pe_int) (pa_cons (pv 2) pa_nil)))))
      (pss_one (ps_if (pt_cmpR op_isN (pv 1) pe_non (nomark _)) (pss_one (ps_ret pe_non)) pss_nil)))))
      (pss_one (ps_ret (pv 1))))), ?_⟩
    refine ⟨_, rfl, v, .ty "tuple", _, _, _, rfl, .ty _, rp_ty rp, kit_tup d, _, rfl, ite2 (fun h2 => ?_) (fun h2 => ?_)⟩
    · have := k _ (.refl _)
      rw [room_not (by simpa using h2)] at this
      exact this
    cases rp with
    | @tup a xs ds q rr =>
      have sall : smAll ds = true := sm_tup small
      refine ⟨_, rfl, a, rfl, ⟨_, q⟩, for_tup (xs := xs) (fun i σ H' => σ.length = 4 ∧ σ[2]? = some (some (.int j)) ∧ Same H H' ∧ ∃ r' : Nat, σ[1]? = some (some (.int r')) ∧ roomAll (deedR j) ds r = roomAll (deedR j) (ds.drop i) r') ⟨rfl, rfl, .refl _, r, rfl, rfl⟩ ?_ ?_ ?_⟩
      · intro i σ H' _ ⟨_, _, s', _⟩
        exact sqT_same s' q
      · intro i x σ H' hx ⟨l0, v2, s', r', v1, er⟩
        obtain ⟨d, hd, rd⟩ := rp_get rr hx
        rw [drop_get hd] at er
        have z1 : (σ.set 3 (some x))[1]? = some (some (V.int (r' : Int))) := by simp [v1]
        have z2 : (σ.set 3 (some x))[2]? = some (some (V.int (j : Int))) := by simp [v2]
        have z3 : (σ.set 3 (some x))[3]? = some (some x) := by simp [l0]
        refine ⟨_, z1, rfl, _, rfl, ite2 (fun h3 => ?_) (fun h3 => ?_)⟩
        · have e0 : r' = 0 := by have := V.int.inj (of_decide_eq_true h3); omega
          subst e0
          have := k _ s'
          rw [show roomR (deedR j) (.tuple ds) r = none from er] at this
          exact this
        · obtain ⟨r2, rfl⟩ : ∃ t, r' = t + 1 := ⟨r' - 1, by
            have : r' ≠ 0 := fun z => h3 (by rw [z]; rfl)
            omega⟩
          refine ⟨_, z3, _, z1, _, _, rfl, rfl, _, z2, x, d, r2, j, by simp, lt, Rp.same s' rd, smAll_get sall hd, fun H2 s2 => ?_⟩
          have y1 : ((σ.set 3 (some x)).set 1 (some (oV (deedR j d r2))))[1]? = some (some (oV (deedR j d r2))) := by simp [l0]
          refine ⟨_, y1, rfl, _, rfl, ?_⟩
          rw [oV_non]
          have er' : roomAll (deedR j) ds r = (deedR j d r2).bind (roomAll (deedR j) (ds.drop (i + 1))) := er
          cases o : deedR j d r2 with
          | none =>
            refine iteT ?_
            rw [o] at er'
            have := k _ (s'.trans s2)
            rw [show roomR (deedR j) (.tuple ds) r = none from er'] at this
            exact this
          | some r3 =>
            refine iteF ?_
            rw [o] at er' y1
            exact ⟨by simp [l0], by simp [v2], s'.trans s2, r3, y1, er'⟩
      · intro σ H' ⟨l0, v2, s', r', v1, er⟩
        have e : ds.drop xs.length = [] := by rw [RpAll.len rr]; simp
        rw [e] at er
        have := k _ s'
        rw [show roomR (deedR j) (.tuple ds) r = some r' from er] at this
        exact ⟨_, v1, this⟩
    | _ => exact absurd rfl h2
theorem deed_one {i r : Nat} {d : PyData} (h : isOne d = true) : deedR i d r = some r := by
  cases i with
  | zero => unfold deedR; rw [if_pos h]
  | succ i => unfold deedR; rw [if_pos h]
theorem deed_zero {r : Nat} {d : PyData} (h : ¬ isOne d = true) : deedR 0 d r = none := by
  unfold deedR
  rw [if_neg h]
theorem deed_four {i r : Nat} {h c a b : PyData} (n : ¬ isOne (.tuple [h, c, a, b]) = true) : deedR (i + 1) (.tuple [h, c, a, b]) r = if isS h "if" = true then (if isC 6 c = true then (roomR (deedR i) a r).bind (roomR (deedR i) b) else none) else none := by
  rw [deedR, if_neg n]
theorem deed_ne {i r : Nat} {d : PyData} (n : ¬ isOne d = true) (h : isTof d 4 = false) : deedR (i + 1) d r = none := by
  unfold deedR
  rw [if_neg n]
  cases d with
  | tuple ds =>
    rcases ds with _ | ⟨a, _ | ⟨b, _ | ⟨c, _ | ⟨e, _ | ⟨g, t⟩⟩⟩⟩⟩
    · rfl
    · rfl
    · rfl
    · rfl
    · cases h
    · rfl
  | _ => rfl
theorem four_of {K : PySem.W.Frag} {G : Hp} {xs : List V} {ds : List PyData} (r : RpAll K G xs ds) (h : ds.length = 4) : ∃ x y z u d e f g, xs = [x, y, z, u] ∧ ds = [d, e, f, g] ∧ Rp K G x d ∧ Rp K G y e ∧ Rp K G z f ∧ Rp K G u g := by
  cases r with
  | nil => cases h
  | cons a t =>
    obtain ⟨y, z, u, e, f, g, rfl, rfl, q, q2, q3⟩ := three_of t (by rw [RpAll.len t]; simpa using h)
    exact ⟨_, y, z, u, _, e, f, g, rfl, rfl, a, q, q2, q3⟩
theorem ok_deed {f fO fT fC fR : Addr} {fd fdO fdT fdC fdR : FuncData} {t6 : Tok} (m n : Nat) (hn : 18 ≤ n) (F : Fun K "room_after_deed" "room_after_deed" sDeed f fd)
    (GOne : FnOk P w K mg base CX0 11 fO fdO ["value"] (spOne K)) (TOne : DefT K mg "is_single_deed" fO) (bOne : Binds K fdO ["value"] [])
    (GTof : FnOk P w K mg base CX0 1 fT fdT ["value", "length"] (spTof K)) (TTof : DefT K mg "is_tuple_of" fT) (bTof : Binds K fdT ["value", "length"] [])
    (GCon : FnOk P w K mg base CX0 18 fC fdC ["value", "deep"] (spCon K 7)) (TCon : DefT K mg "is_condition" fC) (bCon : Binds K fdC ["value", "deep"] [.int 6 t6])
    (GRoom : FnOk P w K mg base CX0 n fR fdR ["deeds", "room", "ifs"] (spRoom K m)) (TRoom : DefT K mg "room_after" fR) (bRoom : Binds K fdR ["deeds", "room", "ifs"] []) : FnOk P w K mg base CX0 (n + 1) f fd ["deed", "room", "ifs"] (spDeed K (m + 1)) := by
  refine F.ok scDeed (fun vs H Q E h => ?_) (fun cdv A outer s H vs Q E hr h => ?_)
  · obtain ⟨v, d, r, i, rfl, _⟩ := h
    rfl
  · obtain ⟨v, d, r, j, rfl, lt, rp, small, k⟩ := h
    have hu := hu_of hr
    refine ⟨_, (pss_cons (ps_if (pt_val (pe_call GOne (hr.mono (by omega)) rfl TOne.mg TOne.kp bOne .nil pass0 (pa_cons (pv 0) pa_nil))) (pss_one (ps_ret (pv 1))) pss_nil)
      (pss_cons (ps_if (PW.pt (pw_or (pt_cmpR op_eq (pv 2) pe_int (nomark _)) (pw_or (pt_not (pt_val (pe_call GTof (hr.mono (by omega)) rfl TTof.mg TTof.kp bTof .nil pass0 (pa_cons (pv 0) (pa_cons pe_int pa_nil))))) (pw_or (pt_cmpR (KEq.op_neS hu) (pe_ix ix_tup (pv 0) pe_int (fun _ _ => rfl)) pe_str (nomark _)) (pw_or1 (pt_not (pt_val (pe_call GCon (hr.mono (by omega)) rfl TCon.mg TCon.kp bCon (.cons (show L2.RelV (V.int 6) (Value.int 6 t6) from ⟨_, rfl⟩) .nil) pass0 (pa_cons (pe_ix ix_tup (pv 0) pe_int (fun _ _ => rfl)) pa_nil))))))))) (pss_one (ps_ret pe_non)) pss_nil)
      (pss_cons (ps_set (i := 1) scDeed.nd rfl (Or.inl rfl) (pe_call GRoom (hr.mono (by omega)) rfl TRoom.mg TRoom.kp bRoom .nil pass0 (pa_cons (pe_ix ix_tup (pv 0) pe_int (fun _ _ => rfl)) (pa_cons (pv 1) (pa_cons (pe_op op_sub (pv 2) pe_int) pa_nil)))))
      (pss_cons (ps_if (pt_cmpR op_isN (pv 1) pe_non (nomark _)) (pss_one (ps_ret pe_non)) pss_nil)
      (pss_one (ps_ret (pe_call GRoom (hr.mono (by omega)) rfl TRoom.mg TRoom.kp bRoom .nil pass0 (pa_cons (pe_ix ix_tup (pv 0) pe_int (fun _ _ => rfl)) (pa_cons (pv 1) (pa_cons (pe_op op_sub (pv 2) pe_int) pa_nil)))))))))), ?_⟩
    refine ⟨_, rfl, v, d, rfl, rp, small, fun H1 s1 => ⟨_, rfl, ite2 (fun h1 => ?_) (fun h1 => ?_)⟩⟩
    · have := k _ s1
      rw [deed_one h1] at this
      exact ⟨_, rfl, this⟩
    refine ⟨_, rfl, rfl, _, rfl, ite2 (fun h2 => ?_) (fun h2 => ?_)⟩
    · have e : j = 0 := by have := V.int.inj (of_decide_eq_true h2); omega
      subst e
      have := k _ s1
      rw [deed_zero h1] at this
      exact iteT this
    obtain ⟨j, rfl⟩ : ∃ t, j = t + 1 := ⟨j - 1, by
      have : j ≠ 0 := fun z => h2 (by rw [z]; rfl)
      omega⟩
    have rp1 := Rp.same s1 rp
    refine ⟨_, rfl, v, d, 4, rfl, rp1, _, rfl, ite2 (fun h3 => ?_) (fun h3 => ?_)⟩
    · have := k _ s1
      rw [deed_ne h1 (by simpa using h3)] at this
      exact iteT this
    have h3' : isTof d 4 = true := by simpa using h3
    cases rp1 with
    | @tup a xs ds q rr =>
      have h4 : ds.length = 4 := by
        have z : decide ((ds.length : Int) = 4) = true := h3'
        have := of_decide_eq_true z
        omega
      obtain ⟨hv, xc, xa, xb, h, c, da, db, rfl, rfl, rh, rc, ra, rb⟩ := four_of rr h4
      have m1 := sm_cons (sm_tup small)
      have m2 := sm_cons m1.2
      have m3 := sm_cons m2.2
      have m4 := sm_cons m3.2
      have D := deed_four (i := j) (r := r) h1
      refine ⟨_, rfl, a, [hv, xc, xa, xb], 0, hv, rfl, rfl, q, atI_nat (j := 0) rfl, h, _, rh, rfl, _, rfl, ite2 (fun i1 => ?_) (fun i1 => ?_)⟩
      · have := k _ s1
        rw [D, if_neg (by simpa using i1)] at this
        exact iteT this
      refine ⟨_, rfl, a, [hv, xc, xa, xb], 1, xc, rfl, rfl, q, atI_nat (j := 1) rfl, xc, c, 6, rfl, by omega, rc, m2.1, fun H2 s2 => ⟨_, rfl, ite2 (fun i2 => ?_) (fun i2 => ?_)⟩⟩
      · have := k _ (s1.trans s2)
        rw [D, if_pos (by simpa using i1), if_neg (by simpa using i2)] at this
        exact this
      rw [if_pos (by simpa using i1), if_pos (by simpa using i2)] at D
      refine ⟨_, rfl, a, [hv, xc, xa, xb], 2, xa, rfl, rfl, sqT_same s2 q, atI_nat (j := 2) rfl, _, rfl, _, rfl, _, _, rfl, rfl, xa, da, r, j, by simp, by omega, Rp.same s2 ra, m3.1, fun H3 s3 => ?_⟩
      refine ⟨_, rfl, rfl, _, rfl, ?_⟩
      rw [oV_non]
      have s4 := (s1.trans s2).trans s3
      cases o : roomR (deedR j) da r with
      | none =>
        refine iteT ?_
        have := k _ s4
        rw [D, o] at this
        exact this
      | some r2 =>
        refine iteF ?_
        refine ⟨_, rfl, a, [hv, xc, xa, xb], 3, xb, rfl, rfl, sqT_same (s2.trans s3) q, atI_nat (j := 3) rfl, _, rfl, _, rfl, _, _, rfl, rfl, xb, db, r2, j, by simp [oV], by omega, Rp.same (s2.trans s3) rb, m4.1, fun H4 s5 => ?_⟩
        have := k _ (s4.trans s5)
        rw [D, o] at this
        exact this
    | _ => exact absurd rfl h3
theorem ok_rooms {f fD fO fT fC : Addr} {fd fdD fdO fdT fdC : FuncData} {t6 : Tok} (F : Fun K "room_after" "room_after" sRoom f fd) (T : TxtH mg) (FD : Fun K "room_after_deed" "room_after_deed" sDeed fD fdD)
    (TDeed : DefT K mg "room_after_deed" fD) (bDeed : Binds K fdD ["deed", "room", "ifs"] []) (TRoom : DefT K mg "room_after" f) (bRoom : Binds K fd ["deeds", "room", "ifs"] [])
    (GOne : FnOk P w K mg base CX0 11 fO fdO ["value"] (spOne K)) (TOne : DefT K mg "is_single_deed" fO) (bOne : Binds K fdO ["value"] [])
    (GTof : FnOk P w K mg base CX0 1 fT fdT ["value", "length"] (spTof K)) (TTof : DefT K mg "is_tuple_of" fT) (bTof : Binds K fdT ["value", "length"] [])
    (GCon : FnOk P w K mg base CX0 18 fC fdC ["value", "deep"] (spCon K 7)) (TCon : DefT K mg "is_condition" fC) (bCon : Binds K fdC ["value", "deep"] [.int 6 t6]) : ∀ m, FnOk P w K mg base CX0 (2 * m + 18) f fd ["deeds", "room", "ifs"] (spRoom K m)
  | 0 => by
    refine F.ok scRoom (fun vs H Q E h => ?_) (fun cdv A outer s H vs Q E hr h => ?_)
    · obtain ⟨v, d, r, i, rfl, _⟩ := h
      rfl
    · obtain ⟨v, d, r, i, rfl, lt, _⟩ := h
      exact absurd lt (Nat.not_lt_zero _)
  | m + 1 => ok_room (m + 1) (2 * m + 19) F T (ok_deed m (2 * m + 18) (by omega) FD GOne TOne bOne GTof TTof bTof GCon TCon bCon (ok_rooms F T FD TDeed bDeed TRoom bRoom GOne TOne bOne GTof TTof bTof GCon TCon bCon m) TRoom bRoom) TDeed bDeed
theorem scHand : FnScope ["value"] ["value"] (defScope sHand) := ⟨rfl, rfl, rfl, by decide +kernel, rfl, by decide +kernel, by decide +kernel⟩
theorem ok_hand {f fR : Addr} {fd fdR : FuncData} (F : Fun K "is_handler" "is_handler" sHand f fd) (T : TxtM mg) (GRoom : FnOk P w K mg base CX0 26 fR fdR ["deeds", "room", "ifs"] (spRoom K 4)) (TRoom : DefT K mg "room_after" fR) (bRoom : Binds K fdR ["deeds", "room", "ifs"] []) : FnOk P w K mg base CX0 27 f fd ["value"] (spHand K) := by
  refine F.ok scHand (fun vs H Q E h => ?_) (fun cdv A outer s H vs Q E hr h => ?_)
  · obtain ⟨v, d, rfl, _⟩ := h
    rfl
  · obtain ⟨v, d, rfl, r, small, k⟩ := h
    refine ⟨_, (pss_one (ps_ret (pe_cmpR op_notN (pe_call GRoom (hr.mono (by decide)) rfl TRoom.mg TRoom.kp bRoom .nil pass0 (pa_cons (pv 0) (pa_cons (pe_glob (v := V.int 12) (by rfl) T.DEEDS.choose_spec ⟨_, rfl⟩) (pa_cons (pe_glob (v := V.int 3) (by rfl) T.IFS.choose_spec ⟨_, rfl⟩) pa_nil)))) pe_non (nomark _)))), ?_⟩
    refine ⟨_, rfl, v, d, 12, 3, rfl, by omega, r, small, fun H1 s1 => ⟨rfl, ?_⟩⟩
    have := k _ s1
    unfold hOk at this
    rw [oV_non]
    rw [show (!(roomR (deedR 3) d 12).isNone) = (roomR (deedR 3) d 12).isSome by cases roomR (deedR 3) d 12 <;> rfl]
    exact this
end
end Hd

set_option Elab.async false
set_option linter.all false
set_option maxRecDepth 100000
set_option maxHeartbeats 8000000
namespace Hd
open PySem L2 Pen RG Dat KEq
mutual
/-- the names that a tree reads, in the order of its leaves -/
def rn : PyData → List Str
  | .tuple ds => rnT ds
  | _ => []
def rnT : List PyData → List Str
  | .str h :: t => if h = "row" then (match t with | .str x :: _ => [x] | _ => []) else rnAll t
  | _ => []
def rnAll : List PyData → List Str
  | [] => []
  | d :: t => rn d ++ rnAll t
end
/-- a tree of two branches at most -/
def trOk : Nat → PyData → Bool
  | 0, _ => false
  | n + 1, .tuple (.str h :: t) => if h = "row" then (match t with | [.str _] => true | _ => false) else decide (t.length ≤ 2) && t.all fun p => match p with | .tuple q => trOk n (.tuple q) | _ => true
  | _ + 1, _ => false
theorem rnAll_take {d : PyData} : ∀ {ds : List PyData} {i : Nat}, ds[i]? = some d → rnAll (ds.take (i + 1)) = rnAll (ds.take i) ++ rn d
  | [], _, h => by simp at h
  | e :: ds, 0, h => by
    have q : e = d := by simpa using h
    subst q
    show rn e ++ rnAll [] = rnAll [] ++ rn e
    rw [rnAll]
    simp
  | e :: ds, i + 1, h => by
    have ih := rnAll_take (ds := ds) (i := i) (by simpa using h)
    show rn e ++ rnAll (ds.take (i + 1)) = (rn e ++ rnAll (ds.take i)) ++ rn d
    rw [ih, List.append_assoc]
theorem rn_len : ∀ (m : Nat) (d : PyData), trOk m d = true → (rn d).length ≤ 2 ^ m
  | 0, _, h => by cases h
  | n + 1, d, h => by
    have one : 1 ≤ 2 ^ (n + 1) := Nat.one_le_two_pow
    cases d with
    | tuple ds =>
      cases ds with
      | nil => cases h
      | cons hd t =>
        cases hd with
        | str x =>
          show (if x = "row" then _ else rnAll t).length ≤ _
          by_cases e : x = "row"
          · rw [if_pos e]
            split
            · exact one
            · exact Nat.zero_le _
          · rw [if_neg e]
            have h2 : (decide (t.length ≤ 2) && t.all fun p => match p with | .tuple q => trOk n (.tuple q) | _ => true) = true := by
              have : (if x = "row" then _ else _) = true := h
              rwa [if_neg e] at this
            obtain ⟨l2, al⟩ := Bool.and_eq_true_iff.mp h2
            have part : ∀ p ∈ t, (rn p).length ≤ 2 ^ n := fun p hp => by
              have q := List.all_eq_true.mp al p hp
              cases p with
              | tuple z => exact rn_len n _ q
              | _ => exact Nat.zero_le _
            match t, l2, part with
            | [], _, _ => exact Nat.zero_le _
            | [a], _, part =>
              have := part a (by simp)
              show (rn a ++ []).length ≤ _
              rw [List.append_nil, Nat.pow_succ]
              omega
            | [a, b], _, part =>
              have h1 := part a (by simp)
              have h2 := part b (by simp)
              show (rn a ++ (rn b ++ [])).length ≤ _
              rw [List.append_nil, List.length_append, Nat.pow_succ]
              omega
            | _ :: _ :: _ :: _, l2, _ => simp at l2
        | _ => cases h
    | _ => cases h
end Hd

set_option Elab.async false
set_option linter.all false
set_option maxRecDepth 100000
set_option maxHeartbeats 4000000
namespace Hd
open PySem L2 Pen RG Dat KEq
abbrev sNm : Stmt := top 42
abbrev sLeaf : Stmt := top 43
abbrev sE : Stmt := top 44
mutual
/-- no list, no dict -/
def tu : PyData → Bool
  | .list _ => false
  | .dict _ => false
  | .tuple xs => tuAll xs
  | _ => true
def tuAll : List PyData → Bool
  | [] => true
  | x :: xs => tu x && tuAll xs
end
mutual
/-- the longest tuple within -/
def tl : PyData → Nat
  | .tuple xs => max xs.length (tlAll xs)
  | _ => 0
def tlAll : List PyData → Nat
  | [] => 0
  | x :: xs => max (tl x) (tlAll xs)
end
/-- data beside the pen at p, no deeper than n, of tuples alone, none longer than 20 -/
def Dw (K : PySem.W.Frag) (p : Addr) (H : Hp) (n : Nat) (v : V) (d : PyData) : Prop := Rp K (delp p H) v d ∧ sm d = true ∧ d.depth ≤ n ∧ tu d = true ∧ tl d ≤ 20
inductive DwAll (K : PySem.W.Frag) (p : Addr) (H : Hp) (n : Nat) : List V → List PyData → Prop
  | nil : DwAll K p H n [] []
  | cons {v : V} {vs : List V} {d : PyData} {ds : List PyData} : Dw K p H n v d → DwAll K p H n vs ds → DwAll K p H n (v :: vs) (d :: ds)
theorem Dw.same {K : PySem.W.Frag} {p : Addr} {H H' : Hp} {n : Nat} {v : V} {d : PyData} (x : Dw K p H n v d) (s : SameX p H H') : Dw K p H' n v d := ⟨Rp.same (delp_same s) x.1, x.2⟩
theorem Dw.mono {K : PySem.W.Frag} {p : Addr} {H : Hp} {n m : Nat} {v : V} {d : PyData} (x : Dw K p H n v d) (h : n ≤ m) : Dw K p H m v d := ⟨x.1, x.2.1, Nat.le_trans x.2.2.1 h, x.2.2.2⟩
theorem DwAll.all {K : PySem.W.Frag} {p : Addr} {H : Hp} {n : Nat} : ∀ {vs : List V} {ds : List PyData}, DwAll K p H n vs ds → RpAll K (delp p H) vs ds ∧ smAll ds = true ∧ PyData.depthAll ds ≤ n ∧ tuAll ds = true ∧ tlAll ds ≤ 20
  | _, _, .nil => ⟨.nil, rfl, Nat.zero_le _, rfl, Nat.zero_le _⟩
  | _, _, .cons x t => by
    obtain ⟨a, b, c, e, g⟩ := DwAll.all t
    refine ⟨.cons x.1 a, ?_, ?_, ?_, Nat.max_le.mpr ⟨x.2.2.2.2, g⟩⟩
    · show (sm _ && smAll _) = true
      rw [x.2.1, b]
      rfl
    · exact Nat.max_le.mpr ⟨x.2.2.1, c⟩
    · show (tu _ && tuAll _) = true
      rw [x.2.2.2.1, e]
      rfl
theorem DwAll.mem {K : PySem.W.Frag} {p : Addr} {H : Hp} {n : Nat} {v : V} : ∀ {vs : List V} {ds : List PyData}, DwAll K p H n vs ds → v ∈ vs → ∃ d, Dw K p H n v d
  | _, _, .nil, h => by cases h
  | _, _, .cons x t, h => by
    rcases List.mem_cons.mp h with e | h
    · rw [e]
      exact ⟨_, x⟩
    · exact DwAll.mem t h
theorem DwAll.same {K : PySem.W.Frag} {p : Addr} {H H' : Hp} {n : Nat} (s : SameX p H H') : ∀ {vs : List V} {ds : List PyData}, DwAll K p H n vs ds → DwAll K p H' n vs ds
  | _, _, .nil => .nil
  | _, _, .cons x t => .cons (x.same s) (DwAll.same s t)
theorem Dw.int {K : PySem.W.Frag} {p : Addr} {H : Hp} {n : Nat} (i : Int) : Dw K p H n (.int i) (.int i) := ⟨.int i, rfl, Nat.zero_le _, rfl, Nat.zero_le _⟩
theorem Dw.non {K : PySem.W.Frag} {p : Addr} {H : Hp} {n : Nat} : Dw K p H n .non .none := ⟨.non, rfl, Nat.zero_le _, rfl, Nat.zero_le _⟩
theorem Dw.str {K : PySem.W.Frag} {p : Addr} {H : Hp} {n : Nat} (x : Str) (h : x.length ≤ 1000) : Dw K p H n (.str x) (.str x) := ⟨.str x, decide_eq_true h, Nat.zero_le _, rfl, Nat.zero_le _⟩
theorem Dw.tup {K : PySem.W.Frag} {p t : Addr} {H : Hp} {n : Nat} {vs : List V} {ds : List PyData} (x : DwAll K p H n vs ds) (hl : ds.length ≤ 20) (ne : t ≠ p) (e : H t = some (.tup vs)) : Dw K p H (n + 1) (.ref t) (.tuple ds) := by
  obtain ⟨a, b, c, g, j⟩ := x.all
  refine ⟨.tup (SqT.of ((delp_ne ne).trans e)) a, ?_, Nat.succ_le_succ c, g, Nat.max_le.mpr ⟨hl, j⟩⟩
  show (decide (ds.length ≤ 1000) && smAll ds) = true
  rw [b, decide_eq_true (Nat.le_trans hl (by decide))]
  rfl
/-- all but p and q is as it was -/
def SameY (p q : Addr) (H H' : Hp) : Prop := ∀ x o, x ≠ p → x ≠ q → H x = some o → H' x = some o
theorem SameY.refl {p q : Addr} {H : Hp} : SameY p q H H := fun _ _ _ _ h => h
theorem SameX.Y {p q : Addr} {H H' : Hp} (s : SameX p H H') : SameY p q H H' := fun x o n _ h => s x o n h
theorem SameY.trans {p q : Addr} {H H1 H2 : Hp} (a : SameY p q H H1) (b : SameY p q H1 H2) : SameY p q H H2 := fun x o n m h => b x o n m (a x o n m h)
theorem SameY.upd {p q : Addr} {H : Hp} {o : HO} : SameY p q H (upd H q o) := fun x u _ m h => by
  rw [upd_ne m]
  exact h
/-- no tuple -/
def NoT (o : HO) : Prop := (∀ xs, o ≠ .tup xs) ∧ ∀ f xs, o ≠ .frz f (.tup xs)
theorem noT_dK {kvs : List (Key × V)} : NoT (.dK kvs) := ⟨(fun _ z => nomatch z), (fun _ _ z => nomatch z)⟩
theorem noT_lst {xs : List V} : NoT (.lst xs) := ⟨(fun _ z => nomatch z), (fun _ _ z => nomatch z)⟩
theorem sqT_off {K : PySem.W.Frag} {p q a : Addr} {H : Hp} {oq : HO} {xs : List V} (nt : NoT oq) (hq : H q = some oq) (h : SqT K (delp p H) a xs) : SqT K (delp q (delp p H)) a xs := by
  have ne : ∀ o, delp p H a = some o → oq ≠ o → a ≠ q := by
    intro o e n z
    rw [z] at e
    have := delp_le q o e
    rw [hq] at this
    exact n (Option.some.inj this)
  rcases h with (h | ⟨o, h⟩) | h
  · exact .inl (.inl ((delp_ne (ne _ h (nt.1 _))).trans h))
  · exact .inl (.inr ⟨o, (delp_ne (ne _ h (nt.2 _ _))).trans h⟩)
  · exact .inr h
mutual
theorem rp_off {K : PySem.W.Frag} {p q : Addr} {H : Hp} {oq : HO} (nt : NoT oq) (hq : H q = some oq) : ∀ {d : PyData} {v : V}, tu d = true → Rp K (delp p H) v d → Rp K (delp q (delp p H)) v d
  | .none, _, _, .non => .non
  | .bool _, _, _, .bl b => .bl b
  | .int _, _, _, .int i => .int i
  | .str _, _, _, .str x => .str x
  | .list _, _, h, _ => by cases h
  | .tuple ds, _, h, .tup a r => .tup (sqT_off nt hq a) (rp_offAll nt hq (show tuAll ds = true from h) r)
  | .dict _, _, h, _ => by cases h
theorem rp_offAll {K : PySem.W.Frag} {p q : Addr} {H : Hp} {oq : HO} (nt : NoT oq) (hq : H q = some oq) : ∀ {ds : List PyData} {vs : List V}, tuAll ds = true → RpAll K (delp p H) vs ds → RpAll K (delp q (delp p H)) vs ds
  | [], _, _, .nil => .nil
  | d :: ds, _, h, .cons a r => by
    have z : (tu d && tuAll ds) = true := h
    rw [Bool.and_eq_true] at z
    exact .cons (rp_off nt hq z.1 a) (rp_offAll nt hq z.2 r)
end
theorem Dw.put {K : PySem.W.Frag} {p q : Addr} {H H' : Hp} {n : Nat} {v : V} {d : PyData} {oq : HO} (x : Dw K p H n v d) (nt : NoT oq) (hq : H q = some oq) (s : SameY p q H H') : Dw K p H' n v d := by
  have a := rp_off nt hq x.2.2.2.1 x.1
  have b : Same (delp q (delp p H)) (delp p H') := by
    intro c o h
    have n1 : c ≠ q := fun z => by
      rw [z] at h
      have h' : (if q = q then none else delp p H q) = some o := h
      rw [if_pos rfl] at h'
      cases h'
    rw [delp_ne n1] at h
    have n2 : c ≠ p := fun z => by
      rw [z] at h
      have h' : (if p = p then none else H p) = some o := h
      rw [if_pos rfl] at h'
      cases h'
    rw [delp_ne n2] at h ⊢
    exact s c o n2 n1 h
  exact ⟨Rp.same b a, x.2⟩
theorem DwAll.put {K : PySem.W.Frag} {p q : Addr} {H H' : Hp} {n : Nat} {oq : HO} (nt : NoT oq) (hq : H q = some oq) (s : SameY p q H H') : ∀ {vs : List V} {ds : List PyData}, DwAll K p H n vs ds → DwAll K p H' n vs ds
  | _, _, .nil => .nil
  | _, _, .cons x t => .cons (x.put nt hq s) (DwAll.put nt hq s t)
theorem DwAll.len {K : PySem.W.Frag} {p : Addr} {H : Hp} {n : Nat} : ∀ {vs : List V} {ds : List PyData}, DwAll K p H n vs ds → vs.length = ds.length
  | _, _, .nil => rfl
  | _, _, .cons _ t => congrArg (· + 1) (DwAll.len t)
theorem DwAll.app {K : PySem.W.Frag} {p : Addr} {H : Hp} {n : Nat} : ∀ {vs ws : List V} {ds es : List PyData}, DwAll K p H n vs ds → DwAll K p H n ws es → DwAll K p H n (vs ++ ws) (ds ++ es)
  | _, _, _, _, .nil, r => r
  | _, _, _, _, .cons x t, r => .cons x (DwAll.app t r)
theorem PenAt.at {H : Hp} {p c : Addr} {ns : List Int} {b : Nat} (P : PenAt H p c ns b) : ∃ o, H p = some o := by
  obtain ⟨⟨a, r, hp, _⟩, _⟩ := P
  exact ⟨_, hp⟩
theorem PenAt.off {H : Hp} {p c t : Addr} {ns : List Int} {b : Nat} (P : PenAt H p c ns b) (h : H t = none) : t ≠ p := by
  obtain ⟨o, e⟩ := PenAt.at P
  exact (ne_of_none e h).symm
theorem lst_off {H : Hp} {p c l : Addr} {ns : List Int} {b : Nat} {xs : List V} (P : PenAt H p c ns b) (h : H l = some (.lst xs)) : l ≠ p := by
  obtain ⟨⟨a, r, hp, _⟩, _⟩ := P
  exact ne_of h hp (by intro z; cases z)
theorem word_len {z : Str} (h : isWord (.str z) = true) : z.length ≤ 6 := by
  have a : (decide (1 ≤ z.length) && decide (z.length ≤ 6) && z.cps.toList.all fun c => decide (c ∈ abc.cps.toList)) = true := h
  rw [Bool.and_eq_true, Bool.and_eq_true, decide_eq_true_eq, decide_eq_true_eq] at a
  exact a.1.2
/-- an expression, at most n deep -/
def gI (n : Nat) (d : PyData) : Prop := ∀ j, n ≤ j → 1 ≤ j → isE j d = true
theorem gI.mono {n m : Nat} {d : PyData} (g : gI n d) (h : n ≤ m) : gI m d := fun j a b => g j (Nat.le_trans h a) b
theorem gI.val {i : Int} (h0 : -99 ≤ i) (h1 : i ≤ 99) : gI 1 (.tuple [.str tV, .int i]) := fun j _ h => by
  obtain ⟨k, rfl⟩ : ∃ k, j = k + 1 := ⟨j - 1, by omega⟩
  have e : isS (.str tV) tV = true := by decide +kernel
  have v : isVal (.int i) = true := by
    show (decide (-99 ≤ i) && decide (i ≤ 99)) = true
    rw [decide_eq_true h0, decide_eq_true h1]
    rfl
  show (if isS (.str tV) tV = true then isVal (.int i) else _) = true
  rw [if_pos e, v]
theorem gI.body : gI 1 (.tuple [.str tB']) := fun j _ h => by
  obtain ⟨k, rfl⟩ : ∃ k, j = k + 1 := ⟨j - 1, by omega⟩
  have e : ¬ isS (.str tB') tV = true := by decide +kernel
  have e2 : isS (.str tB') tB' = true := by decide +kernel
  show (if isS (.str tB') tV = true then _ else if isS (.str tB') tB' = true then true else _) = true
  rw [if_neg e, if_pos e2]
theorem gI.row {z : Str} (w : isWord (.str z) = true) : gI 1 (.tuple [.str tR, .str z]) := fun j _ h => by
  obtain ⟨k, rfl⟩ : ∃ k, j = k + 1 := ⟨j - 1, by omega⟩
  have e : ¬ isS (.str tR) tV = true := by decide +kernel
  have e2 : ¬ isS (.str tR) tB' = true := by decide +kernel
  have e3 : isS (.str tR) tR = true := by decide +kernel
  show (if isS (.str tR) tV = true then _ else if isS (.str tR) tB' = true then _ else if isS (.str tR) tR = true then isWord (.str z) else _) = true
  rw [if_neg e, if_neg e2, if_pos e3, w]
theorem gI.op {n : Nat} {z : Str} {a b : PyData} (hz : z ∈ ops) (ga : gI n a) (gb : gI n b) (h1 : 1 ≤ n) : gI (n + 1) (.tuple [.str z, a, b]) := fun j h _ => by
  obtain ⟨k, rfl⟩ : ∃ k, j = k + 1 := ⟨j - 1, by omega⟩
  have q : (¬ isS (.str z) tV = true) ∧ (¬ isS (.str z) tB' = true) ∧ (¬ isS (.str z) tR = true) ∧ (ops.any fun y => isS (.str z) y) = true := by
    simp only [ops, List.mem_cons, List.not_mem_nil, or_false] at hz
    rcases hz with e | e | e <;> subst e <;> decide +kernel
  show (if isS (.str z) tV = true then _ else if isS (.str z) tB' = true then _ else if isS (.str z) tR = true then _ else if (ops.any fun y => isS (.str z) y) = true then isE k a && isE k b else false) = true
  rw [if_neg q.1, if_neg q.2.1, if_neg q.2.2.1, if_pos q.2.2.2, ga k (by omega) (by omega), gb k (by omega) (by omega)]
  rfl
/-- the words of rows in a tree are of A, and not too many -/
def trIn (A : List Str) (n : Nat) (d : PyData) : Prop := (rn d).length ≤ n ∧ (∀ x ∈ rn d, x ∈ A) ∧ d.bulk + 6 ≤ 16 * n
theorem trIn.mono {A : List Str} {n m : Nat} {d : PyData} (g : trIn A n d) (h : n ≤ m) : trIn A m d := ⟨Nat.le_trans g.1 h, g.2.1, Nat.le_trans g.2.2 (Nat.mul_le_mul_left _ h)⟩
theorem trIn.two {A : List Str} {n m : Nat} {z : Str} {a b : PyData} (hz : ¬ z = "row") (hl : z.cps.size ≤ 3) (ga : trIn A n a) (gb : trIn A m b) : trIn A (n + m) (.tuple [.str z, a, b]) := by
  have e : rn (.tuple [.str z, a, b]) = rn a ++ rn b := by
    show (if z = "row" then _ else rn a ++ (rn b ++ [])) = _
    rw [if_neg hz, List.append_nil]
  have e2 : PyData.bulk (.tuple [.str z, a, b]) = z.cps.size + 1 + (a.bulk + 1 + (b.bulk + 1 + 0)) := by simp only [PyData.bulk, PyData.bulkAll]
  obtain ⟨a1, a2, a3⟩ := ga
  obtain ⟨b1, b2, b3⟩ := gb
  unfold trIn
  rw [e, e2]
  refine ⟨by rw [List.length_append]; exact Nat.add_le_add a1 b1, fun x hx => ?_, by omega⟩
  rcases List.mem_append.mp hx with h | h
  · exact a2 x h
  · exact b2 x h
theorem trIn.one {A : List Str} {n : Nat} {z : Str} {a : PyData} (hz : ¬ z = "row") (hl : z.cps.size ≤ 3) (ga : trIn A n a) : trIn A (n + 1) (.tuple [.str z, a]) := by
  have e : rn (.tuple [.str z, a]) = rn a := by
    show (if z = "row" then _ else rn a ++ []) = _
    rw [if_neg hz, List.append_nil]
  have e2 : PyData.bulk (.tuple [.str z, a]) = z.cps.size + 1 + (a.bulk + 1 + 0) := by simp only [PyData.bulk, PyData.bulkAll]
  obtain ⟨a1, a2, a3⟩ := ga
  unfold trIn
  rw [e, e2]
  exact ⟨by omega, a2, by omega⟩
/-- an expression, at most n deep, its words of A -/
def gE (A : List Str) (n : Nat) (d : PyData) : Prop := gI n d ∧ trIn A (2 ^ n) d
theorem gE.mono {A : List Str} {n m : Nat} {d : PyData} (g : gE A n d) (h : n ≤ m) : gE A m d := ⟨g.1.mono h, g.2.mono (Nat.pow_le_pow_right (by decide) h)⟩
theorem gE.val {A : List Str} {i : Int} (h0 : -99 ≤ i) (h1 : i ≤ 99) : gE A 1 (.tuple [.str tV, .int i]) := by
  have e : rn (.tuple [.str tV, .int i]) = [] := by
    show (if tV = "row" then [] else rnAll [.int i]) = []
    rw [if_neg (by decide +kernel)]
    rfl
  refine ⟨.val h0 h1, ?_⟩
  have e2 : PyData.bulk (.tuple [.str tV, .int i]) = tV.cps.size + 1 + (0 + 1 + 0) := by simp only [PyData.bulk, PyData.bulkAll]
  have e3 : tV.cps.size = 5 := by decide +kernel
  unfold trIn
  rw [e, e2, e3]
  exact ⟨by decide, (fun x h => by cases h), by decide⟩
theorem gE.body {A : List Str} : gE A 1 (.tuple [.str tB']) := by
  have e : rn (.tuple [.str tB']) = [] := by
    show (if tB' = "row" then [] else rnAll []) = []
    rw [if_neg (by decide +kernel)]
    rfl
  refine ⟨.body, ?_⟩
  have e2 : PyData.bulk (.tuple [.str tB']) = tB'.cps.size + 1 + 0 := by simp only [PyData.bulk, PyData.bulkAll]
  have e3 : tB'.cps.size = 4 := by decide +kernel
  unfold trIn
  rw [e, e2, e3]
  exact ⟨by decide, (fun x h => by cases h), by decide⟩
theorem gE.row {A : List Str} {z : Str} (w : isWord (.str z) = true) (m : z ∈ A) : gE A 1 (.tuple [.str tR, .str z]) := by
  have e : rn (.tuple [.str tR, .str z]) = [z] := by
    show (if tR = "row" then [z] else rnAll [.str z]) = _
    rw [if_pos (by decide +kernel)]
  refine ⟨.row w, ?_⟩
  have e2 : PyData.bulk (.tuple [.str tR, .str z]) = tR.cps.size + 1 + (z.cps.size + 1 + 0) := by simp only [PyData.bulk, PyData.bulkAll]
  have e3 : tR.cps.size = 3 := by decide +kernel
  have wl : z.cps.size ≤ 6 := word_len w
  unfold trIn
  rw [e, e2, e3]
  refine ⟨(show 1 ≤ 2 by decide), fun x h => ?_, (show 3 + 1 + (z.cps.size + 1 + 0) + 6 ≤ 16 * 2 by omega)⟩
  have : x = z := by simpa using h
  rw [this]
  exact m
theorem gE.op {A : List Str} {n : Nat} {z : Str} {a b : PyData} (hz : z ∈ ops) (ga : gE A n a) (gb : gE A n b) (h1 : 1 ≤ n) : gE A (n + 1) (.tuple [.str z, a, b]) := by
  have q : ¬ z = "row" := by
    simp only [ops, List.mem_cons, List.not_mem_nil, or_false] at hz
    rcases hz with e | e | e <;> subst e <;> decide +kernel
  have ql : z.cps.size ≤ 3 := by
    simp only [ops, List.mem_cons, List.not_mem_nil, or_false] at hz
    rcases hz with e | e | e <;> subst e <;> decide +kernel
  exact ⟨.op hz ga.1 gb.1 h1, (trIn.two q ql ga.2 gb.2).mono (by rw [Nat.pow_succ]; omega)⟩
/-- names: a list of words -/
def NamesA (H : Hp) (l : Addr) (A : List Str) : Prop := H l = some (.lst (A.map V.str)) ∧ 0 < A.length ∧ A.length ≤ 10 ∧ ∀ z ∈ A, isWord (.str z) = true
def Names (H : Hp) (l : Addr) : Prop := ∃ A : List Str, NamesA H l A
theorem NamesA.same {A : List Str} {H H' : Hp} {p c l : Addr} {ns : List Int} {b : Nat} (P : PenAt H p c ns b) (x : NamesA H l A) (s : SameX p H H') : NamesA H' l A := ⟨s _ _ (lst_off P x.1) x.1, x.2⟩
theorem Names.same {H H' : Hp} {p c l : Addr} {ns : List Int} {b : Nat} (P : PenAt H p c ns b) (x : Names H l) (s : SameX p H H') : Names H' l := by
  obtain ⟨A, q⟩ := x
  exact ⟨A, q.same P s⟩
def spNm : Sp := fun vs H Q _ => ∃ (p c : Addr) (ns : List Int) (b : Nat), vs = [.ref p] ∧ PenAt H p c ns b ∧ ns.length ≤ 63 ∧ b < 2 ^ 39 ∧ ∀ (i : Int) (H' : Hp), (-99 ≤ i ∧ i ≤ 99) → PenAt H' p c ns (b + 3) → SameX p H H' → Q (.int i) H'
def spLeaf (K : PySem.W.Frag) : Sp := fun vs H Q _ => ∃ (p c : Addr) (ns : List Int) (b : Nat) (l : Addr) (A : List Str), vs = [.ref p, .ref l] ∧ PenAt H p c ns b ∧ ns.length ≤ 63 ∧ b < 2 ^ 39 ∧ NamesA H l A ∧
  ∀ (v : V) (d : PyData) (H' : Hp), Dw K p H' 1 v d → gE A 1 d → PenAt H' p c ns (b + 5) → SameX p H H' → Q v H'
def spE (K : PySem.W.Frag) (m : Nat) : Sp := fun vs H Q _ => ∃ (p c : Addr) (ns : List Int) (b : Nat) (l : Addr) (n : Nat) (A : List Str), vs = [.ref p, .ref l, .int n] ∧ n < m ∧ n ≤ 4 ∧ 1 ≤ n ∧ PenAt H p c ns b ∧ ns.length ≤ 63 ∧ b + 10 * 3 ^ n ≤ 2 ^ 38 ∧ NamesA H l A ∧
  ∀ (v : V) (d : PyData) (H' : Hp), Dw K p H' (n + 1) v d → gE A n d → PenAt H' p c ns (b + 10 * 3 ^ n) → SameX p H H' → Q v H'
section
variable {P : Program} {w : World} {K : PySem.W.Frag} {mg : Str → Option Value} {base : Heap}
theorem scNm : FnScope ["_law_pen_here", "_law_small"] ["_law_pen_here"] (defScope sNm) := ⟨rfl, rfl, rfl, by decide +kernel, rfl, by decide +kernel, by decide +kernel⟩
theorem ok_nm {f fD fP : Addr} {fd fdD fdP : FuncData} (F : Fun K "_law_number" "_law_number" sNm f fd)
    (GDraw : FnOk P w K mg base CX0 1 fD fdD ["_law_pen_here", "_law_many"] spDraw) (TDraw : DefT K mg "_law_draw" fD) (bDraw : Binds K fdD ["_law_pen_here", "_law_many"] [])
    (GPick : FnOk P w K mg base CX0 2 fP fdP ["_law_pen_here", "_law_items"] (spPick K)) (TPick : DefT K mg "_law_pick" fP) (bPick : Binds K fdP ["_law_pen_here", "_law_items"] []) : FnOk P w K mg base CX0 3 f fd ["_law_pen_here"] spNm := by
  refine F.ok scNm (fun vs H Q E h => ?_) (fun cdv A outer s H vs Q E hr h => ?_)
  · obtain ⟨p, c, ns, b, rfl, _⟩ := h
    rfl
  · obtain ⟨p, c, ns, b, rfl, P0, hn, hb, k⟩ := h
    refine ⟨_, (pss_cons (ps_set (i := 1) scNm.nd rfl (Or.inl rfl) (pe_op op_sub (pe_call GDraw (hr.mono (by decide)) rfl TDraw.mg TDraw.kp bDraw .nil pass0 (pa_cons (pv 0) (pa_cons pe_int pa_nil))) pe_int))
      (pss_one (ps_ret (pe_call GPick (hr.mono (by decide)) rfl TPick.mg TPick.kp bPick .nil pass0 (pa_cons (pv 0) (pa_cons (Ab.pe_lstA (pa_cons (pv 1) (pa_cons (pv 1) (pa_cons (pv 1) (pa_cons pe_int (pa_cons (pe_un un_neg pe_int) (pa_cons pe_int (pa_cons (pe_op op_sub (pe_call GDraw (hr.mono (by decide)) rfl TDraw.mg TDraw.kp bDraw .nil pass0 (pa_cons (pv 0) (pa_cons pe_int pa_nil))) pe_int) pa_nil)))))))) pa_nil)))))), ?_⟩
    refine ⟨_, rfl, p, c, ns, b, 9, rfl, P0, hn, by omega, by decide, by decide, fun r1 H1 a1 b1 P1 x1 => ⟨_, _, rfl, rfl, ?_⟩⟩
    refine ⟨_, rfl, _, rfl, _, rfl, _, rfl, _, rfl, _, rfl, p, c, ns, _, 199, rfl, P1, hn, by omega, by decide, by decide, fun r2 H2 a2 b2 P2 x2 => ⟨_, _, rfl, rfl, sz (by simp), fun l Hl fl nl sl el => ?_⟩⟩
    refine ⟨p, c, ns, _, l, _, rfl, P2.same sl, hn, by omega, el, by simp, by simp, fun v H' hv P3 x3 => ?_⟩
    have iv : ∃ i, v = .int i ∧ -99 ≤ i ∧ i ≤ 99 := by
      simp only [List.mem_cons, List.not_mem_nil, or_false] at hv
      rcases hv with e | e | e | e | e | e | e <;> exact ⟨_, e, by omega, by omega⟩
    obtain ⟨i, rfl, i0, i1⟩ := iv
    exact k i H' ⟨i0, i1⟩ P3 (((x1.trans x2).trans (Same.X sl)).trans x3)
theorem scLeaf : FnScope ["_law_pen_here", "_law_names"] ["_law_pen_here", "_law_names"] (defScope sLeaf) := ⟨rfl, rfl, rfl, by decide +kernel, rfl, by decide +kernel, by decide +kernel⟩
theorem ok_leaf {f fN fP : Addr} {fd fdN fdP : FuncData} (F : Fun K "_law_leaf" "_law_leaf" sLeaf f fd)
    (GNm : FnOk P w K mg base CX0 3 fN fdN ["_law_pen_here"] spNm) (TNm : DefT K mg "_law_number" fN) (bNm : Binds K fdN ["_law_pen_here"] [])
    (GPick : FnOk P w K mg base CX0 2 fP fdP ["_law_pen_here", "_law_items"] (spPick K)) (TPick : DefT K mg "_law_pick" fP) (bPick : Binds K fdP ["_law_pen_here", "_law_items"] []) : FnOk P w K mg base CX0 4 f fd ["_law_pen_here", "_law_names"] (spLeaf K) := by
  refine F.ok scLeaf (fun vs H Q E h => ?_) (fun cdv A outer s H vs Q E hr h => ?_)
  · obtain ⟨p, c, ns, b, l, A, rfl, _⟩ := h
    rfl
  · obtain ⟨p, c, ns, b, nl, zs, rfl, P0, hn, hb, N0, k⟩ := h
    refine ⟨_, (pss_one (ps_ret (pe_call GPick (hr.mono (by decide)) rfl TPick.mg TPick.kp bPick .nil pass0 (pa_cons (pv 0) (pa_cons (Ab.pe_lstA (pa_cons (Ab.pe_tupA (pa_cons pe_str (pa_cons (pe_call GNm (hr.mono (by decide)) rfl TNm.mg TNm.kp bNm .nil pass0 (pa_cons (pv 0) pa_nil)) pa_nil))) (pa_cons (Ab.pe_tupA (pa_cons pe_str pa_nil)) (pa_cons (Ab.pe_tupA (pa_cons pe_str (pa_cons (pe_call GPick (hr.mono (by decide)) rfl TPick.mg TPick.kp bPick .nil pass0 (pa_cons (pv 0) (pa_cons (pv 1) pa_nil))) pa_nil))) pa_nil)))) pa_nil))))), ?_⟩
    refine ⟨_, rfl, _, rfl, p, c, ns, b, rfl, P0, hn, hb, fun i H1 ib P1 x1 => ⟨sz (by simp), fun t1 G1 f1 s1 e1 => ?_⟩⟩
    refine ⟨sz (by simp), fun t2 G2 f2 s2 e2 => ?_⟩
    have Pa := (P1.same s1).same s2
    have xa := (x1.trans (Same.X s1)).trans (Same.X s2)
    obtain ⟨ez, z0, z10, zl⟩ := N0.same P0 xa
    refine ⟨_, rfl, _, rfl, p, c, ns, _, nl, _, rfl, Pa, hn, by omega, ez, by simpa using z0, by simp; omega, fun u H2 hu P2 x2 => ?_⟩
    obtain ⟨z, hz, rfl⟩ := List.mem_map.mp hu
    refine ⟨sz (by simp), fun t3 G3 f3 s3 e3 => ⟨sz (by simp), fun l Gl fl nl' sl el => ?_⟩⟩
    have o1 := PenAt.off P1 f1
    have o2 := PenAt.off (P1.same s1) f2
    have o3 := PenAt.off P2 f3
    have y3 : SameX p G3 Gl := Same.X sl
    have y2 : SameX p G2 Gl := x2.trans ((Same.X s3).trans y3)
    have y1 : SameX p G1 Gl := (Same.X s2).trans y2
    refine ⟨p, c, ns, _, l, _, rfl, (P2.same s3).same sl, hn, by omega, el, by simp, by simp, fun v H' hv P3 x3 => ?_⟩
    have all : DwAll K p H' 1 [V.ref t1, .ref t2, .ref t3] [.tuple [.str tV, .int i], .tuple [.str tB'], .tuple [.str tR, .str z]] :=
      .cons (.tup (.cons (.str _ (by decide)) (.cons (.int i) .nil)) (by simp) o1 ((y1.trans x3) _ _ o1 e1)) (.cons (.tup (.cons (.str _ (by decide)) .nil) (by simp) o2 ((y2.trans x3) _ _ o2 e2)) (.cons (.tup (.cons (.str _ (by decide)) (.cons (.str _ (Nat.le_trans (word_len (zl z hz)) (by decide))) .nil)) (by simp) o3 ((y3.trans x3) _ _ o3 e3)) .nil))
    have xz : SameX p H H' := ((xa.trans x2).trans ((Same.X s3).trans y3)).trans x3
    cases all with
    | cons w1 all =>
      cases all with
      | cons w2 all =>
        cases all with
        | cons w3 _ =>
          simp only [List.mem_cons, List.not_mem_nil, or_false] at hv
          rcases hv with e | e | e <;> subst e
          · exact k _ _ H' w1 (.val ib.1 ib.2) P3 xz
          · exact k _ _ H' w2 .body P3 xz
          · exact k _ _ H' w3 (.row (zl z hz) hz) P3 xz
theorem scE : FnScope ["_law_pen_here", "_law_names", "_law_deep"] ["_law_pen_here", "_law_names", "_law_deep"] (defScope sE) := ⟨rfl, rfl, rfl, by decide +kernel, rfl, by decide +kernel, by decide +kernel⟩
theorem ok_e {f fD fL fP : Addr} {fd fdD fdL fdP : FuncData} (F : Fun K "_law_e" "_law_e" sE f fd) (TE : DefT K mg "_law_e" f) (bE : Binds K fd ["_law_pen_here", "_law_names", "_law_deep"] [])
    (GDraw : FnOk P w K mg base CX0 1 fD fdD ["_law_pen_here", "_law_many"] spDraw) (TDraw : DefT K mg "_law_draw" fD) (bDraw : Binds K fdD ["_law_pen_here", "_law_many"] [])
    (GPick : FnOk P w K mg base CX0 2 fP fdP ["_law_pen_here", "_law_items"] (spPick K)) (TPick : DefT K mg "_law_pick" fP) (bPick : Binds K fdP ["_law_pen_here", "_law_items"] [])
    (GLeaf : FnOk P w K mg base CX0 4 fL fdL ["_law_pen_here", "_law_names"] (spLeaf K)) (TLeaf : DefT K mg "_law_leaf" fL) (bLeaf : Binds K fdL ["_law_pen_here", "_law_names"] []) : ∀ m, FnOk P w K mg base CX0 (m + 5) f fd ["_law_pen_here", "_law_names", "_law_deep"] (spE K m)
  | 0 => by
    refine F.ok scE (fun vs H Q E h => ?_) (fun cdv A outer s H vs Q E hr h => ?_)
    · obtain ⟨p, c, ns, b, l, n, A, rfl, _⟩ := h
      rfl
    · obtain ⟨p, c, ns, b, l, n, A, rfl, lt, _⟩ := h
      exact absurd lt (Nat.not_lt_zero _)
  | m + 1 => by
    have GE := ok_e F TE bE GDraw TDraw bDraw GPick TPick bPick GLeaf TLeaf bLeaf m
    refine F.ok scE (fun vs H Q E h => ?_) (fun cdv A outer s H vs Q E hr h => ?_)
    · obtain ⟨p, c, ns, b, l, n, A, rfl, _⟩ := h
      rfl
    · obtain ⟨p, c, ns, b, l, n, A, rfl, lt, n4, n0, P0, hn, hb, N0, k⟩ := h
      have three : 1 ≤ 3 ^ n := Nat.one_le_pow _ _ (by decide)
      have n1 : 1 ≤ n := n0
      have leaf : ∀ b1 H1, 1 ≤ n → b ≤ b1 → b1 ≤ b + 1 → PenAt H1 p c ns b1 → SameX p H H1 → spLeaf K [.ref p, .ref l] H1 Q E0 := by
        intro b1 H1 n1 l1 l2 P1 x1
        refine ⟨p, c, ns, b1, l, A, rfl, P1, hn, by omega, N0.same P0 x1, fun v d H' dw g P2 x2 => ?_⟩
        exact k v d H' (dw.mono (by omega)) (g.mono n1) (P2.mono (by omega)) (x1.trans x2)
      refine ⟨_, (pss_cons (ps_if (PW.pt (pw_or (pt_cmpR op_lt (pv 2) pe_int (nomark _)) (pw_or1 (pt_cmpR op_eq (pe_call GDraw (hr.mono (by omega)) rfl TDraw.mg TDraw.kp bDraw .nil pass0 (pa_cons (pv 0) (pa_cons pe_int pa_nil))) pe_int (nomark _))))) (pss_one (ps_ret (pe_call GLeaf (hr.mono (by omega)) rfl TLeaf.mg TLeaf.kp bLeaf .nil pass0 (pa_cons (pv 0) (pa_cons (pv 1) pa_nil))))) pss_nil)
      (pss_one (ps_ret (Ab.pe_tupA (pa_cons (pe_call GPick (hr.mono (by omega)) rfl TPick.mg TPick.kp bPick .nil pass0 (pa_cons (pv 0) (pa_cons (Ab.pe_lstA (pa_cons pe_str (pa_cons pe_str (pa_cons pe_str pa_nil)))) pa_nil))) (pa_cons (pe_call GE (hr.mono (by omega)) rfl TE.mg TE.kp bE .nil pass0 (pa_cons (pv 0) (pa_cons (pv 1) (pa_cons (pe_op op_sub (pv 2) pe_int) pa_nil)))) (pa_cons (pe_call GE (hr.mono (by omega)) rfl TE.mg TE.kp bE .nil pass0 (pa_cons (pv 0) (pa_cons (pv 1) (pa_cons (pe_op op_sub (pv 2) pe_int) pa_nil)))) pa_nil))))))), ?_⟩
      refine ⟨_, rfl, _, _, rfl, rfl, _, rfl, ite2 (fun h1 => ?_) (fun h1 => ?_)⟩
      · exact iteT ⟨_, rfl, _, rfl, leaf b H n1 (Nat.le_refl _) (by omega) P0 .refl⟩
      refine ⟨_, rfl, p, c, ns, b, 3, rfl, P0, hn, by omega, by decide, by decide, fun r1 H1 _ _ P1 x1 => ⟨rfl, _, rfl, ite2 (fun h2 => ?_) (fun h2 => ?_)⟩⟩
      · exact ⟨_, rfl, _, rfl, leaf (b + 1) H1 n1 (by omega) (Nat.le_refl _) P1 x1⟩
      obtain ⟨n, rfl⟩ : ∃ j, n = j + 1 := ⟨n - 1, by
        have : ¬ (n : Int) < 2 := fun z => h1 (decide_eq_true z)
        omega⟩
      have hp3 : 3 ^ n ≤ 81 := Nat.le_trans (Nat.pow_le_pow_right (by decide) (show n ≤ 4 by omega)) (by decide)
      have hp4 : 3 ^ (n + 1) = 3 * 3 ^ n := by rw [Nat.pow_succ, Nat.mul_comm]
      have one1 : 1 ≤ 3 ^ n := Nat.one_le_pow _ _ (by decide)
      refine ⟨_, rfl, sz (by simp), fun lo Ho fo no so eo => ?_⟩
      refine ⟨p, c, ns, _, lo, _, rfl, P1.same so, hn, by omega, eo, by simp, by simp, fun u H2 hu P2 x2 => ?_⟩
      have us : ∃ z : Str, u = .str z ∧ z.length ≤ 1000 ∧ z ∈ ops := by
        simp only [List.mem_cons, List.not_mem_nil, or_false] at hu
        rcases hu with e | e | e <;> exact ⟨_, e, by decide, by decide +kernel⟩
      obtain ⟨z, rfl, zl, zo⟩ := us
      have nn1 : 1 ≤ n := by
        have : ¬ ((n : Nat) + 1 : Int) < 2 := fun z => h1 (decide_eq_true (by simpa using z))
        omega
      have xa := (x1.trans (Same.X so)).trans x2
      refine ⟨_, rfl, _, rfl, _, rfl, _, _, rfl, rfl, p, c, ns, _, l, n, A, by simp, by omega, by omega, nn1, P2, hn, by omega, N0.same P0 xa, fun v1 d1 H3 w1 g1 P3 x3 => ?_⟩
      refine ⟨_, rfl, _, rfl, _, rfl, _, _, rfl, rfl, p, c, ns, _, l, n, A, by simp, by omega, by omega, nn1, P3, hn, by omega, N0.same P0 (xa.trans x3), fun v2 d2 H4 w2 g2 P4 x4 => ?_⟩
      refine ⟨sz (by simp), fun t Ht ft st et => ?_⟩
      have ot := PenAt.off P4 ft
      have D : Dw K p Ht (n + 1 + 1) (.ref t) (.tuple [.str z, d1, d2]) := .tup (.cons (.str z zl) (.cons ((w1.same x4).same (Same.X st)) (.cons (w2.same (Same.X st)) .nil))) (by simp) ot et
      exact k _ _ Ht D (.op zo g1 g2 nn1) ((P4.same st).mono (by rw [hp4]; omega)) (((xa.trans x3).trans x4).trans (Same.X st))
end
end Hd

set_option Elab.async false
set_option linter.all false
set_option maxRecDepth 100000
set_option maxHeartbeats 4000000
namespace Hd
open PySem L2 Pen RG Dat KEq
abbrev sC : Stmt := top 45
/-- a condition, at most n deep -/
def gJ (n : Nat) (d : PyData) : Prop := ∀ j, n ≤ j → 1 ≤ j → isC j d = true
theorem gJ.mono {n m : Nat} {d : PyData} (g : gJ n d) (h : n ≤ m) : gJ m d := fun j a b => g j (Nat.le_trans h a) b
theorem gJ.cmp {z : Str} {a b : PyData} (hz : z = "<" ∨ z = "=") (ga : gI 3 a) (gb : gI 2 b) : gJ 1 (.tuple [.str z, a, b]) := fun j h _ => by
  obtain ⟨k, rfl⟩ : ∃ k, j = k + 1 := ⟨j - 1, by omega⟩
  have q : ((["<", "="] : List Str).any fun y => isS (.str z) y) = true := by rcases hz with e | e <;> subst e <;> decide +kernel
  show (if ((["<", "="] : List Str).any fun y => isS (.str z) y) = true then isE 6 a && isE 6 b else _) = true
  rw [if_pos q, ga 6 (by decide) (by decide), gb 6 (by decide) (by decide)]
  rfl
theorem gJ.not {n : Nat} {a : PyData} (ga : gJ n a) (h1 : 1 ≤ n) : gJ (n + 1) (.tuple [.str "not", a]) := fun j h _ => by
  obtain ⟨k, rfl⟩ : ∃ k, j = k + 1 := ⟨j - 1, by omega⟩
  have q : ¬ ((["<", "="] : List Str).any fun y => isS (.str "not") y) = true := by decide +kernel
  have q2 : isS (.str "not") "not" = true := by decide +kernel
  show (if ((["<", "="] : List Str).any fun y => isS (.str "not") y) = true then _ else if isS (.str "not") "not" = true then isC k a else _) = true
  rw [if_neg q, if_pos q2, ga k (by omega) (by omega)]
theorem gJ.op {n : Nat} {z : Str} {a b : PyData} (hz : z = "and" ∨ z = "or") (ga : gJ n a) (gb : gJ n b) (h1 : 1 ≤ n) : gJ (n + 1) (.tuple [.str z, a, b]) := fun j h _ => by
  obtain ⟨k, rfl⟩ : ∃ k, j = k + 1 := ⟨j - 1, by omega⟩
  have q : (¬ ((["<", "="] : List Str).any fun y => isS (.str z) y) = true) ∧ (¬ isS (.str z) "not" = true) ∧ ((["and", "or"] : List Str).any fun y => isS (.str z) y) = true := by rcases hz with e | e <;> subst e <;> decide +kernel
  show (if ((["<", "="] : List Str).any fun y => isS (.str z) y) = true then _ else if isS (.str z) "not" = true then _ else if ((["and", "or"] : List Str).any fun y => isS (.str z) y) = true then isC k a && isC k b else false) = true
  rw [if_neg q.1, if_neg q.2.1, if_pos q.2.2, ga k (by omega) (by omega), gb k (by omega) (by omega)]
  rfl
/-- a condition, at most n deep, its words of A -/
def gC (A : List Str) (n : Nat) (d : PyData) : Prop := gJ n d ∧ trIn A (2 ^ (n + 3)) d
theorem gC.mono {A : List Str} {n m : Nat} {d : PyData} (g : gC A n d) (h : n ≤ m) : gC A m d := ⟨g.1.mono h, g.2.mono (Nat.pow_le_pow_right (by decide) (by omega))⟩
theorem gC.cmp {A : List Str} {z : Str} {a b : PyData} (hz : z = "<" ∨ z = "=") (ga : gE A 3 a) (gb : gE A 2 b) : gC A 1 (.tuple [.str z, a, b]) := by
  have q : ¬ z = "row" := by rcases hz with e | e <;> subst e <;> decide +kernel
  exact ⟨.cmp hz ga.1 gb.1, (trIn.two q (by rcases hz with e | e <;> subst e <;> decide +kernel) ga.2 gb.2).mono (by decide)⟩
theorem gC.not {A : List Str} {n : Nat} {a : PyData} (ga : gC A n a) (h1 : 1 ≤ n) : gC A (n + 1) (.tuple [.str "not", a]) := ⟨.not ga.1 h1, (trIn.one (by decide +kernel) (by decide +kernel) ga.2).mono (by
  have e : 2 ^ (n + 1 + 3) = 2 ^ (n + 3) * 2 := by
    rw [show n + 1 + 3 = (n + 3) + 1 by omega]
    exact Nat.pow_succ ..
  have p : 1 ≤ 2 ^ (n + 3) := Nat.one_le_two_pow
  omega)⟩
theorem gC.op {A : List Str} {n : Nat} {z : Str} {a b : PyData} (hz : z = "and" ∨ z = "or") (ga : gC A n a) (gb : gC A n b) (h1 : 1 ≤ n) : gC A (n + 1) (.tuple [.str z, a, b]) := by
  have q : ¬ z = "row" := by rcases hz with e | e <;> subst e <;> decide +kernel
  refine ⟨.op hz ga.1 gb.1 h1, (trIn.two q (by rcases hz with e | e <;> subst e <;> decide +kernel) ga.2 gb.2).mono ?_⟩
  have e : 2 ^ (n + 1 + 3) = 2 ^ (n + 3) * 2 := by
    rw [show n + 1 + 3 = (n + 3) + 1 by omega]
    exact Nat.pow_succ ..
  omega
def spC (K : PySem.W.Frag) (m : Nat) : Sp := fun vs H Q _ => ∃ (p c : Addr) (ns : List Int) (b : Nat) (l : Addr) (n : Nat) (A : List Str), vs = [.ref p, .ref l, .int n] ∧ n < m ∧ n ≤ 4 ∧ 1 ≤ n ∧ PenAt H p c ns b ∧ ns.length ≤ 63 ∧ b + 400 * 3 ^ n ≤ 2 ^ 37 ∧ NamesA H l A ∧
  ∀ (v : V) (d : PyData) (H' : Hp), Dw K p H' (n + 5) v d → gC A n d → PenAt H' p c ns (b + 400 * 3 ^ n) → SameX p H H' → Q v H'
theorem text_of {zs : List Str} {v : V} (h : v ∈ zs.map V.str) : ∃ z, z ∈ zs ∧ v = .str z := by
  obtain ⟨z, a, b⟩ := List.mem_map.mp h
  exact ⟨z, a, b.symm⟩
section
variable {P : Program} {w : World} {K : PySem.W.Frag} {mg : Str → Option Value} {base : Heap}
theorem scC : FnScope ["_law_pen_here", "_law_names", "_law_deep", "_law_way"] ["_law_pen_here", "_law_names", "_law_deep"] (defScope sC) := ⟨rfl, rfl, rfl, by decide +kernel, rfl, by decide +kernel, by decide +kernel⟩
theorem ok_c {f fD fE : Addr} {fd fdD fdE : FuncData} (F : Fun K "_law_c" "_law_c" sC f fd) (TC : DefT K mg "_law_c" f) (bC : Binds K fd ["_law_pen_here", "_law_names", "_law_deep"] [])
    (GDraw : FnOk P w K mg base CX0 1 fD fdD ["_law_pen_here", "_law_many"] spDraw) (TDraw : DefT K mg "_law_draw" fD) (bDraw : Binds K fdD ["_law_pen_here", "_law_many"] [])
    (GE : FnOk P w K mg base CX0 10 fE fdE ["_law_pen_here", "_law_names", "_law_deep"] (spE K 5)) (TE : DefT K mg "_law_e" fE) (bE : Binds K fdE ["_law_pen_here", "_law_names", "_law_deep"] []) : ∀ m, FnOk P w K mg base CX0 (m + 11) f fd ["_law_pen_here", "_law_names", "_law_deep"] (spC K m)
  | 0 => by
    refine F.ok scC (fun vs H Q E h => ?_) (fun cdv A outer s H vs Q E hr h => ?_)
    · obtain ⟨p, c, ns, b, l, n, A, rfl, _⟩ := h
      rfl
    · obtain ⟨p, c, ns, b, l, n, A, rfl, lt, _⟩ := h
      exact absurd lt (Nat.not_lt_zero _)
  | m + 1 => by
    have GC := ok_c F TC bC GDraw TDraw bDraw GE TE bE m
    refine F.ok scC (fun vs H Q E h => ?_) (fun cdv A outer s H vs Q E hr h => ?_)
    · obtain ⟨p, c, ns, b, l, n, A, rfl, _⟩ := h
      rfl
    · obtain ⟨p, c, ns, b, l, n, A, rfl, lt, n4, n0, P0, hn, hb, N0, k⟩ := h
      have three : 1 ≤ 3 ^ n := Nat.one_le_pow _ _ (by decide)
      refine ⟨_, (pss_cons (ps_set (i := 3) scC.nd rfl (Or.inl rfl) (pe_ifExp (pt_cmpR op_gt (pv 2) pe_int (nomark _)) (pe_call GDraw (hr.mono (by omega)) rfl TDraw.mg TDraw.kp bDraw .nil pass0 (pa_cons (pv 0) (pa_cons pe_int pa_nil))) (pe_call GDraw (hr.mono (by omega)) rfl TDraw.mg TDraw.kp bDraw .nil pass0 (pa_cons (pv 0) (pa_cons pe_int pa_nil)))))
      (pss_cons (ps_if (pt_cmpR op_lt (pv 3) pe_int (nomark _)) (pss_one (ps_ret (Ab.pe_tupA (pa_cons (pe_ix ix_list (Ab.pe_lstA (pa_cons pe_str (pa_cons pe_str (pa_cons pe_str pa_nil)))) (pv 3) (fun _ _ => rfl)) (pa_cons (pe_call GE (hr.mono (by omega)) rfl TE.mg TE.kp bE .nil pass0 (pa_cons (pv 0) (pa_cons (pv 1) (pa_cons pe_int pa_nil)))) (pa_cons (pe_call GE (hr.mono (by omega)) rfl TE.mg TE.kp bE .nil pass0 (pa_cons (pv 0) (pa_cons (pv 1) (pa_cons pe_int pa_nil)))) pa_nil)))))) pss_nil)
      (pss_cons (ps_if (pt_cmpR op_eq (pv 3) pe_int (nomark _)) (pss_one (ps_ret (Ab.pe_tupA (pa_cons pe_str (pa_cons (pe_call GC (hr.mono (by omega)) rfl TC.mg TC.kp bC .nil pass0 (pa_cons (pv 0) (pa_cons (pv 1) (pa_cons (pe_op op_sub (pv 2) pe_int) pa_nil)))) pa_nil))))) pss_nil)
      (pss_one (ps_ret (Ab.pe_tupA (pa_cons (pe_ix ix_list (Ab.pe_lstA (pa_cons pe_str (pa_cons pe_str pa_nil))) (pe_op op_sub (pv 3) pe_int) (fun _ _ => rfl)) (pa_cons (pe_call GC (hr.mono (by omega)) rfl TC.mg TC.kp bC .nil pass0 (pa_cons (pv 0) (pa_cons (pv 1) (pa_cons (pe_op op_sub (pv 2) pe_int) pa_nil)))) (pa_cons (pe_call GC (hr.mono (by omega)) rfl TC.mg TC.kp bC .nil pass0 (pa_cons (pv 0) (pa_cons (pv 1) (pa_cons (pe_op op_sub (pv 2) pe_int) pa_nil)))) pa_nil))))))))), ?_⟩
      refine ⟨_, rfl, _, _, rfl, rfl, _, rfl, ite2 (fun h1 => ?_) (fun h1 => ?_)⟩
      all_goals
        first
        | refine ⟨_, rfl, p, c, ns, b, 6, rfl, P0, hn, by omega, by decide, by decide, fun r H1 r0 r6 P1 x1 => ?_⟩
        | refine ⟨_, rfl, p, c, ns, b, 2, rfl, P0, hn, by omega, by decide, by decide, fun r H1 r0 r6 P1 x1 => ?_⟩
        refine ⟨_, rfl, _, _, rfl, rfl, _, rfl, ite2 (fun h2 => ?_) (fun h2 => ?_)⟩
        · have r3 : r < 3 := of_decide_eq_true h2
          refine ⟨sz (by simp), fun lo Ho fo no so eo => ?_⟩
          obtain ⟨v, hv, ha⟩ := at_mem (xs := ([Str.ofString "<", Str.ofString "=", Str.ofString "<"] : List Str).map V.str) r0 (by simpa using r3)
          obtain ⟨z, hz, rfl⟩ := text_of hv
          have zz : z = "<" ∨ z = "=" := by
            simp only [List.mem_cons, List.not_mem_nil, or_false] at hz
            rcases hz with e | e | e
            · exact .inl e
            · exact .inr e
            · exact .inl e
          have zl : z.length ≤ 1000 := by rcases zz with e | e <;> subst e <;> decide
          have xa := x1.trans (Same.X so)
          refine ⟨_, rfl, lo, _, r, _, rfl, rfl, SqL.of eo, ha, ?_⟩
          refine ⟨_, rfl, _, rfl, p, c, ns, _, l, 3, A, rfl, by omega, by omega, by omega, P1.same so, hn, by omega, N0.same P0 xa, fun v1 d1 H3 w1 g1 P3 x3 => ?_⟩
          refine ⟨_, rfl, _, rfl, p, c, ns, _, l, 2, A, rfl, by omega, by omega, by omega, P3, hn, by omega, N0.same P0 (xa.trans x3), fun v2 d2 H4 w2 g2 P4 x4 => ?_⟩
          refine ⟨sz (by simp), fun t Ht ft st et => ?_⟩
          have ot := PenAt.off P4 ft
          have D : Dw K p Ht (4 + 1) (.ref t) (.tuple [.str z, d1, d2]) := .tup (.cons (.str z zl) (.cons ((w1.same x4).same (Same.X st)) (.cons ((w2.same (Same.X st)).mono (by omega)) .nil))) (by simp) ot et
          exact k _ _ Ht (D.mono (by omega)) ((gC.cmp zz g1 g2).mono n0) ((P4.same st).mono (by omega)) (((xa.trans x3).trans x4).trans (Same.X st))
        try exact absurd (show r < 3 by omega) (fun z => h2 (decide_eq_true z))
      · obtain ⟨n, rfl⟩ : ∃ j, n = j + 1 := ⟨n - 1, by
          have : (1 : Int) < n := of_decide_eq_true h1
          omega⟩
        have nn1 : 1 ≤ n := by
          have : (1 : Int) < ((n + 1 : Nat) : Int) := of_decide_eq_true h1
          omega
        have hp4 : 3 ^ (n + 1) = 3 * 3 ^ n := by rw [Nat.pow_succ, Nat.mul_comm]
        have one1 : 1 ≤ 3 ^ n := Nat.one_le_pow _ _ (by decide)
        refine ⟨_, rfl, rfl, _, rfl, ite2 (fun h3 => ?_) (fun h3 => ?_)⟩
        · refine ⟨_, rfl, _, rfl, _, rfl, _, _, rfl, rfl, p, c, ns, _, l, n, A, by simp, by omega, by omega, nn1, P1, hn, by omega, N0.same P0 x1, fun v1 d1 H3 w1 g1 P3 x3 => ?_⟩
          refine ⟨sz (by simp), fun t Ht ft st et => ?_⟩
          have ot := PenAt.off P3 ft
          have D : Dw K p Ht (n + 5 + 1) (.ref t) (.tuple [.str "not", d1]) := .tup (.cons (.str _ (by decide)) (.cons (w1.same (Same.X st)) .nil)) (by simp) ot et
          exact k _ _ Ht (D.mono (by omega)) (.not g1 nn1) ((P3.same st).mono (by omega)) ((x1.trans x3).trans (Same.X st))
        · have h4 : ¬ r < 3 := fun z => h2 (decide_eq_true z)
          have h5 : r ≠ 3 := fun z => h3 (by rw [z]; rfl)
          refine ⟨sz (by simp), fun lo Ho fo no so eo => ?_⟩
          obtain ⟨v, hv, ha⟩ := at_mem (xs := ([Str.ofString "and", Str.ofString "or"] : List Str).map V.str) (r := r - 4) (by omega) (by simp; omega)
          obtain ⟨z, hz, rfl⟩ := text_of hv
          have zz : z = "and" ∨ z = "or" := by
            simp only [List.mem_cons, List.not_mem_nil, or_false] at hz
            exact hz
          have zl : z.length ≤ 1000 := by rcases zz with e | e <;> subst e <;> decide
          have xa := x1.trans (Same.X so)
          refine ⟨_, rfl, _, _, rfl, rfl, lo, _, _, _, rfl, rfl, SqL.of eo, ha, ?_⟩
          refine ⟨_, rfl, _, rfl, _, rfl, _, _, rfl, rfl, p, c, ns, _, l, n, A, by simp, by omega, by omega, nn1, P1.same so, hn, by omega, N0.same P0 xa, fun v1 d1 H3 w1 g1 P3 x3 => ?_⟩
          refine ⟨_, rfl, _, rfl, _, rfl, _, _, rfl, rfl, p, c, ns, _, l, n, A, by simp, by omega, by omega, nn1, P3, hn, by omega, N0.same P0 (xa.trans x3), fun v2 d2 H4 w2 g2 P4 x4 => ?_⟩
          refine ⟨sz (by simp), fun t Ht ft st et => ?_⟩
          have ot := PenAt.off P4 ft
          have D : Dw K p Ht (n + 5 + 1) (.ref t) (.tuple [.str z, d1, d2]) := .tup (.cons (.str z zl) (.cons ((w1.same x4).same (Same.X st)) (.cons (w2.same (Same.X st)) .nil))) (by simp) ot et
          exact k _ _ Ht (D.mono (by omega)) (.op zz g1 g2 nn1) ((P4.same st).mono (by omega)) (((xa.trans x3).trans x4).trans (Same.X st))
end
end Hd

set_option Elab.async false
set_option linter.all false
set_option maxRecDepth 100000
set_option maxHeartbeats 4000000
namespace Hd
open PySem L2 Pen RG Dat KEq
abbrev sWd : Stmt := top 41
/-- signs from a to z alone -/
def Lt (z : Str) : Prop := ∀ c ∈ z.cps.toList, c ∈ abc.cps.toList
theorem Lt.app {x y : Str} (a : Lt x) (b : Lt y) : Lt (x ++ y) := fun c hc => by
  rw [PySem.Str.cps_append, Array.toList_append, List.mem_append] at hc
  exact hc.elim (a c) (b c)
theorem Lt.cut {x : Str} {lo hi : Option Int} (a : Lt x) : Lt (cutS x lo hi) := fun c hc => a c (by
  unfold cutS at hc
  rw [List.toList_toArray] at hc
  exact List.mem_of_mem_drop (List.mem_of_mem_take hc))
theorem Lt.join : ∀ {ys : List Str}, (∀ y ∈ ys, Lt y) → Lt (Str.join (Str.ofString "") ys)
  | [], _ => fun c hc => by cases hc
  | [x], h => h x List.mem_cons_self
  | x :: y :: ys, h => by
    have i := Lt.join (ys := y :: ys) fun z hz => h z (List.mem_cons_of_mem _ hz)
    show Lt (x ++ Str.ofString "" ++ Str.join (Str.ofString "") (y :: ys))
    exact ((h x List.mem_cons_self).app (fun c hc => by cases hc)).app i
theorem Lt.one {k : Nat} (h : k ∈ abc.cps.toList) : Lt ⟨#[k]⟩ := fun c hc => by
  have e : c = k := by simpa using hc
  rw [e]
  exact h
theorem Lt.word {z : Str} (a : Lt z) (h1 : 1 ≤ z.length) (h6 : z.length ≤ 6) : isWord (.str z) = true := by
  show (decide (1 ≤ z.length) && decide (z.length ≤ 6) && z.cps.toList.all fun c => decide (c ∈ abc.cps.toList)) = true
  rw [decide_eq_true h1, decide_eq_true h6, List.all_eq_true.mpr fun c hc => decide_eq_true (a c hc)]
  rfl
def rAddS : R2 := fun x y H Q => ∃ i j, x = .str i ∧ y = .str j ∧ i.length + j.length ≤ sizeLine ∧ Q (.str (i ++ j)) H
def rInt1 : List V → Hp → VK → Prop := fun xs H Q => (∃ i, xs = [.int i] ∧ Q (.int i) H) ∨ ∃ k, xs = [.bl k] ∧ Q (.int (if k then 1 else 0)) H
def spPickS : Sp := fun vs H Q _ => ∃ (p c : Addr) (ns : List Int) (b : Nat) (z : Str), vs = [.ref p, .str z] ∧ PenAt H p c ns b ∧ ns.length ≤ 63 ∧ b < 2 ^ 40 ∧ 0 < z.length ∧ z.length ≤ 1000 ∧
  ∀ (k : Nat) (H' : Hp), k ∈ z.cps.toList → PenAt H' p c ns (b + 1) → SameX p H H' → Q (.str ⟨#[k]⟩) H'
def spWd : Sp := fun vs H Q _ => ∃ (p c : Addr) (ns : List Int) (b n : Nat), vs = [.ref p, .int n] ∧ PenAt H p c ns b ∧ ns.length ≤ 63 ∧ b < 2 ^ 39 ∧ 0 < n ∧ n ≤ 10 ∧
  ∀ (l : Addr) (A : List Str) (H' : Hp), H l = none → A.length = n → A.Nodup → NamesA H' l A → PenAt H' p c ns (b + 9) → SameX p H H' → Q (.ref l) H'
theorem sign_at {z : Str} {r : Int} (h0 : 0 ≤ r) (h : r < (z.length : Int)) : ∃ k, k ∈ z.cps.toList ∧ atI z.cps.toList r = some k := by
  have h3 : r.toNat < z.cps.toList.length := by
    rw [Array.length_toList]
    show r.toNat < z.length
    omega
  have := atI_nat (List.getElem?_eq_getElem h3)
  rw [Int.toNat_of_nonneg h0] at this
  exact ⟨_, List.getElem_mem h3, this⟩
/-- the two parts of a text at a place -/
theorem cut_two (z : Str) (r : Int) : (cutS z none (some r)).length + (cutS z (some r) none).length = z.length := by
  have le : ∀ d, HT.sIx z.length d (some r) ≤ z.length ∨ True := fun _ => .inr trivial
  unfold cutS Str.length
  simp only [List.size_toArray, List.length_take, List.length_drop, Array.length_toList, HT.sIx_none]
  have e : HT.sIx z.cps.size z.cps.size (some r) = HT.sIx z.cps.size 0 (some r) := rfl
  have l : HT.sIx z.cps.size 0 (some r) ≤ z.cps.size := HT.sIx_le _ _ (Nat.zero_le _) _
  rw [e]
  omega
theorem abc_at {r : Int} (h0 : 0 ≤ r) (h : r < 26) : atI abc.cps.toList r = some (97 + r.toNat) := by
  have all : ∀ k : Fin 26, abc.cps.toList[k.1]? = some (97 + k.1) := by decide +kernel
  have := atI_nat (j := r.toNat) (all ⟨r.toNat, by omega⟩)
  rw [Int.toNat_of_nonneg h0] at this
  exact this
theorem mid_eq {x y : Str} {a b : Nat} (h : x ++ (⟨#[a]⟩ : Str) ++ y = x ++ (⟨#[b]⟩ : Str) ++ y) : a = b := by
  have e := congrArg (fun z : Str => z.cps.toList) h
  simp only [PySem.Str.cps_append, Array.toList_append] at e
  have e := List.append_cancel_left (List.append_cancel_right e)
  simpa using e
theorem step_ne {f g : Int} {i j : Nat} (hg : ∀ d : Fin 10, 0 < d.1 → (g * (d.1 : Int)) % 26 ≠ 0) (hi : i < 10) (hj : j < i) : (f + g * (0 + (i : Int))) % 26 ≠ (f + g * (0 + (j : Int))) % 26 := by
  intro e
  have q := hg ⟨i - j, by omega⟩ (by show 0 < i - j; omega)
  have c : (((⟨i - j, by omega⟩ : Fin 10).1 : Nat) : Int) = (i : Int) - (j : Int) := by
    show ((i - j : Nat) : Int) = _
    omega
  rw [c, Int.mul_sub] at q
  rw [Int.zero_add, Int.zero_add] at e
  generalize g * (i : Int) = a at *
  generalize g * (j : Int) = b at *
  omega
theorem ones_sum : ∀ {ys : List Str}, (∀ y ∈ ys, y.length = 1) → (ys.map (·.length)).sum = ys.length
  | [], _ => rfl
  | y :: ys, h => by
    rw [List.map_cons, List.sum_cons, h y (List.mem_cons_self ..), ones_sum (ys := ys) fun x hx => h x (List.mem_cons_of_mem _ hx), List.length_cons]
    omega
section
variable {P : Program} {w : World} {K : PySem.W.Frag} {mg : Str → Option Value} {base : Heap}
theorem ok_pickS {f fD : Addr} {fd fdD : FuncData} (F : Fun K "_law_pick" "_law_pick" sPick f fd) (T : TxtH mg)
    (GDraw : FnOk P w K mg base CX0 1 fD fdD ["_law_pen_here", "_law_many"] spDraw) (TDraw : DefT K mg "_law_draw" fD) (bDraw : Binds K fdD ["_law_pen_here", "_law_many"] []) : FnOk P w K mg base CX0 2 f fd ["_law_pen_here", "_law_items"] spPickS := by
  refine F.ok scPick (fun vs H Q E h => ?_) (fun cdv A outer s H vs Q E hr h => ?_)
  · obtain ⟨p, c, ns, b, z, rfl, _⟩ := h
    rfl
  · obtain ⟨p, c, ns, b, z, rfl, P0, hn, hb, z0, z1, k⟩ := h
    have zl : z.length ≤ sizeLine := Nat.le_trans z1 (by decide)
    refine ⟨_, (pss_one (ps_ret (pe_ix ix_str (pv 1) (pe_call GDraw (hr.mono (by decide)) rfl TDraw.mg TDraw.kp bDraw .nil pass0 (pa_cons (pv 0) (pa_cons (pe_callB call_len_str (by rfl) T.len PySem.boot_len (pa_cons (pv 1) pa_nil)) pa_nil))) (fun _ _ => rfl)))), ?_⟩
    refine ⟨_, rfl, _, rfl, _, rfl, z, rfl, zl, p, c, ns, b, _, rfl, P0, hn, hb, by omega, by omega, fun r H' r0 r1 P1 x1 => ?_⟩
    obtain ⟨e, me, he⟩ := sign_at r0 r1
    exact ⟨z, r, e, rfl, rfl, zl, he, k e H' me P1 x1⟩
theorem scWd : FnScope ["_law_pen_here", "_law_many", "_law_letters", "_law_stem", "_law_at", "_law_first", "_law_step", "_law_k"] ["_law_pen_here", "_law_many"] (defScope sWd) := ⟨rfl, rfl, rfl, by decide +kernel, rfl, by decide +kernel, by decide +kernel⟩
theorem ok_wd {f fD fP : Addr} {fd fdD fdP : FuncData} (F : Fun K "_law_words" "_law_words" sWd f fd) (T : TxtH mg) (TR : mg "range" = none)
    (GDraw : FnOk P w K mg base CX0 1 fD fdD ["_law_pen_here", "_law_many"] spDraw) (TDraw : DefT K mg "_law_draw" fD) (bDraw : Binds K fdD ["_law_pen_here", "_law_many"] [])
    (GPickS : FnOk P w K mg base CX0 2 fP fdP ["_law_pen_here", "_law_items"] spPickS)
    (GPick : FnOk P w K mg base CX0 2 fP fdP ["_law_pen_here", "_law_items"] (spPick K)) (TPick : DefT K mg "_law_pick" fP) (bPick : Binds K fdP ["_law_pen_here", "_law_items"] []) : FnOk P w K mg base CX0 3 f fd ["_law_pen_here", "_law_many"] spWd := by
  refine F.ok scWd (fun vs H Q E h => ?_) (fun cdv A outer s H vs Q E hr h => ?_)
  · obtain ⟨p, c, ns, b, n, rfl, _⟩ := h
    rfl
  · obtain ⟨p, c, ns, b, n, rfl, P0, hn, hb, n0, n10, k⟩ := h
    refine ⟨_, (pss_cons (ps_set (i := 2) scWd.nd rfl (Or.inr rfl) pe_str)
      (pss_cons (ps_set (i := 3) scWd.nd rfl (Or.inr rfl) (pe_join pe_str (pe_lc (own := [("_law_k", 7)]) (g := gName 7) (tt := tYes) (te := (tCall spPickS [] E0 (tCons (tVar 0) (tCons (tVar 2) tNil)))) rfl scWd.nd (pi_range1 (by rfl) TR (pa_cons (pe_call GDraw (hr.mono (by decide)) rfl TDraw.mg TDraw.kp bDraw .nil pass0 (pa_cons (pv 0) (pa_cons pe_int pa_nil))) pa_nil)) (blkOk_by (N := ["_law_pen_here", "_law_many", "_law_letters", "_law_stem", "_law_at", "_law_first", "_law_step", "_law_k"]) (sc := defScope sWd) (by decide +kernel)) (fun _ _ _ _ _ => by exact (pg_name (i := 7) scWd.nd rfl (Or.inl rfl))) (fun _ _ _ _ _ => by exact pts_nil) (fun _ _ _ _ _ => by exact (pe_call GPickS (hr.mono (by decide)) rfl TPick.mg TPick.kp bPick .nil pass0 (pa_cons (pv 0) (pa_cons (pv 2) pa_nil)))))))
      (pss_cons (ps_asg (Ab.pe_tupA (pa_cons (pe_call GDraw (hr.mono (by decide)) rfl TDraw.mg TDraw.kp bDraw .nil pass0 (pa_cons (pv 0) (pa_cons (pe_op op_add (pe_callB call_len_str (by rfl) T.len PySem.boot_len (pa_cons (pv 3) pa_nil)) pe_int) pa_nil))) (pa_cons (pe_call GDraw (hr.mono (by decide)) rfl TDraw.mg TDraw.kp bDraw .nil pass0 (pa_cons (pv 0) (pa_cons pe_int pa_nil))) pa_nil))) (pg_tup (by rfl) (pgs_cons (pg_name (i := 4) scWd.nd rfl (Or.inr rfl)) (pgs_cons (pg_name (i := 5) scWd.nd rfl (Or.inr rfl)) pgs_nil))))
      (pss_cons (ps_set (i := 6) scWd.nd rfl (Or.inr rfl) (pe_call GPick (hr.mono (by decide)) rfl TPick.mg TPick.kp bPick .nil pass0 (pa_cons (pv 0) (pa_cons (Ab.pe_lstA (pa_cons pe_int (pa_cons pe_int (pa_cons pe_int (pa_cons pe_int (pa_cons pe_int (pa_cons pe_int (pa_cons pe_int (pa_cons pe_int (pa_cons pe_int (pa_cons pe_int (pa_cons pe_int (pa_cons pe_int pa_nil))))))))))))) pa_nil))))
      (pss_one (ps_ret (pe_lc (own := [("_law_k", 7)]) (g := gName 7) (tt := tYes) (te := (tOp rAddS (tOp rAddS (tSl rSlS (tVar 3) tNoPart (tPart (tVar 4))) (tOp rIxS (tVar 2) (tOp (rI (fun _ j => 0 < j) fun i j => .int (i % j)) (tCB rInt1 (tCons (tOp (rI0 fun i j => .int (i + j)) (tVar 5) (tOp (rI CMul fun i j => .int (i * j)) (tVar 6) (tVar 7))) tNil)) (tC (.int 26))))) (tSl rSlS (tVar 3) (tPart (tVar 4)) tNoPart))) rfl scWd.nd (pi_range1 (by rfl) TR (pa_cons (pv 1) pa_nil)) (blkOk_by (N := ["_law_pen_here", "_law_many", "_law_letters", "_law_stem", "_law_at", "_law_first", "_law_step", "_law_k"]) (sc := defScope sWd) (by decide +kernel)) (fun _ _ _ _ _ => by exact (pg_name (i := 7) scWd.nd rfl (Or.inl rfl))) (fun _ _ _ _ _ => by exact pts_nil) (fun _ _ _ _ _ => by exact (pe_op op_add_str (pe_op op_add_str (pe_slice sl_str (pv 3) po_none (po_some (pv 4))) (pe_ix ix_str (pv 2) (pe_op op_mod (pe_callTy call_int1 (by rfl) T.int PyProof.Rows.boot_int (pa_cons (pe_op op_add (pv 5) (pe_op op_mul (pv 6) (pv 7))) pa_nil)) pe_int) (fun _ _ => rfl))) (pe_slice sl_str (pv 3) (po_some (pv 4)) po_none)))))))))), ?_⟩
    refine ⟨⟨_, rfl⟩, _, rfl, p, c, ns, b, 6, rfl, P0, hn, by omega, by decide, by decide, fun r H1 r0 r6 P1 x1 => ⟨r, rfl, by omega, by omega, fun D hD => lc_range (n := r.toNat) (fun i H' => (∃ ys : List Str, H' D = some (.lst (ys.map V.str)) ∧ ys.length = i ∧ ∀ y ∈ ys, y.length = 1 ∧ Lt y) ∧ PenAt H' p c ns (b + 1 + i) ∧ SameX p H1 H') ⟨⟨[], upd_same, rfl, fun _ z => nomatch z⟩, P1.same (Ab.same_up hD), Same.X (Ab.same_up hD)⟩ ?_ ?_⟩⟩
    · intro i H' hi ⟨⟨ys, e, ly, one⟩, P2, x2⟩
      refine ⟨rfl, ?_⟩
      unfold tYes
      simp only [↓reduceIte]
      have oD : D ≠ p := PenAt.off P1 hD
      refine ⟨_, rfl, _, rfl, p, c, ns, _, _, rfl, P2, hn, by omega, by decide, by decide, fun q H2 mq P3 x3 => ?_⟩
      have eD := x3 _ _ oD e
      refine ⟨_, eD, szl (by simp; omega), ⟨ys ++ [⟨#[q]⟩], by rw [upd_same]; simp, by simp [ly], ?_⟩, ?_, ?_⟩
      · intro y hy
        rcases List.mem_append.mp hy with hy | hy
        · exact one y hy
        · rcases List.mem_cons.mp hy with e | hy
          · rw [e]
            exact ⟨rfl, .one mq⟩
          · cases hy
      · obtain ⟨⟨a, r', hp, q1⟩, q2⟩ := P3
        have nc : c ≠ D := by
          intro z
          rw [z] at q2
          rw [eD] at q2
          have := Option.some.inj q2
          obtain ⟨⟨_, _, _, _⟩, q3⟩ := id P1
          rw [z, hD] at q3
          cases q3
        exact ⟨⟨a, r', (upd_ne oD.symm).trans hp, q1⟩, (upd_ne nc).trans q2⟩
      · intro x o hx q'
        rw [upd_ne (ne_of_none q' hD)]
        exact x3 _ _ hx (x2 _ _ hx q')
    · intro H2 ⟨⟨ys, e, ly, one⟩, P2, x2⟩
      have sm' := ones_sum fun y hy => (one y hy).1
      refine ⟨_, D, ys, rfl, rfl, .inl (SqL.of e), by rw [sm', show (Str.ofString "").length = 0 by decide]; omega, ?_⟩
      have hst : (Txt.join (Str.ofString "") ys).length ≤ 5 := by
        have := StrLaws.join_length_le (Str.ofString "") ys
        rw [sm', show (Str.ofString "").length = 0 by decide] at this
        show (Builtin.Str.glued _ _).length ≤ 5
        rw [StrLaws.glued_eq_join]
        omega
      have lst : Lt (Txt.join (Str.ofString "") ys) := by
        have e : Txt.join (Str.ofString "") ys = Str.join (Str.ofString "") ys := StrLaws.glued_eq_join _ ys
        rw [e]
        exact .join fun y hy => (one y hy).2
      generalize hg : Txt.join (Str.ofString "") ys = stem at hst lst
      have P2' := P2.mono (b' := b + 6) (by omega)
      have sl : stem.length ≤ sizeLine := Nat.le_trans hst (by decide)
      have xa := x1.trans x2
      refine ⟨_, rfl, _, rfl, _, rfl, sl, _, _, rfl, rfl, p, c, ns, _, _, rfl, P2', hn, by omega, by omega, by omega, fun ra H3 a0 a1 P3 x3 => ?_⟩
      refine ⟨_, rfl, p, c, ns, _, 26, rfl, P3, hn, by omega, by decide, by decide, fun rf H4 f0 f1 P4 x4 => ?_⟩
      refine ⟨sz (by simp), fun t Ht ft st et => ⟨t, _, rfl, SqT.of et, rfl, _, _, rfl, _, _, rfl, rfl, ?_⟩⟩
      refine ⟨_, rfl, sz (by simp), fun lo Ho fo no so eo => ?_⟩
      refine ⟨p, c, ns, _, lo, _, rfl, (P4.same st).same so, hn, by omega, eo, by simp, by simp, fun v H5 hv P5 x5 => ?_⟩
      have iv : ∃ i : Int, v = .int i ∧ 1 ≤ i ∧ i ≤ 25 ∧ ∀ d : Fin 10, 0 < d.1 → (i * (d.1 : Int)) % 26 ≠ 0 := by
        simp only [List.mem_cons, List.not_mem_nil, or_false] at hv
        rcases hv with e | e | e | e | e | e | e | e | e | e | e | e <;> exact ⟨_, e, by decide, by decide, by decide⟩
      obtain ⟨g, rfl, g1, g2, gx⟩ := iv
      have xb : SameX p H H5 := ((((xa.trans x3).trans x4).trans (Same.X st)).trans (Same.X so)).trans x5
      refine ⟨_, rfl, n, rfl, by omega, by omega, fun D2 hD2 => lc_range (n := n) (fun i H' => (∃ zs : List Str, H' D2 = some (.lst (zs.map V.str)) ∧ zs.length = i ∧ (∀ z ∈ zs, isWord (.str z) = true) ∧ zs.Nodup ∧ ∀ z ∈ zs, ∃ j q, j < i ∧ z = cutS stem none (some ra) ++ (⟨#[q]⟩ : Str) ++ cutS stem (some ra) none ∧ q = 97 + ((rf + g * (0 + (j : Int))) % 26).toNat) ∧ Same H5 H') ⟨⟨[], upd_same, rfl, (fun _ z => nomatch z), List.nodup_nil, (fun _ z => nomatch z)⟩, Ab.same_up hD2⟩ ?_ ?_⟩
      · intro i H' hi ⟨⟨zs, e, lz, sz', nz', wz'⟩, s'⟩
        refine ⟨rfl, ?_⟩
        unfold tYes
        simp only [↓reduceIte]
        have m0 := Int.emod_nonneg (rf + g * (0 + (i : Int))) (show (26 : Int) ≠ 0 by decide)
        have m1 := Int.emod_lt_of_pos (rf + g * (0 + (i : Int))) (show (0 : Int) < 26 by decide)
        obtain ⟨q, mq, hq⟩ := sign_at (z := abc) m0 (by rw [show (abc.length : Int) = 26 by decide]; exact m1)
        have hq2 : q = 97 + ((rf + g * (0 + (i : Int))) % 26).toNat := by
          have := abc_at m0 m1
          rw [hq] at this
          exact Option.some.inj this
        have fresh : ∀ z ∈ zs, z ≠ cutS stem none (some ra) ++ (⟨#[q]⟩ : Str) ++ cutS stem (some ra) none := by
          intro z hz ez
          obtain ⟨j, q', hj, e1, e2⟩ := wz' z hz
          have qe : q' = q := mid_eq (e1.symm.trans ez)
          have n := step_ne (f := rf) gx (show i < 10 by omega) hj
          have m2 := Int.emod_nonneg (rf + g * (0 + (j : Int))) (show (26 : Int) ≠ 0 by decide)
          rw [hq2, e2] at qe
          exact n (by omega)
        have c1 := cutS_length stem none (some ra)
        have c2 := cutS_length stem (some ra) none
        have lone : (⟨#[q]⟩ : Str).length = 1 := rfl
        refine ⟨_, rfl, _, rfl, ra, rfl, stem, rfl, sl, _, rfl, _, rfl, _, rfl, _, rfl, _, _, rfl, rfl, .inl ⟨by omega, by omega⟩, _, _, rfl, rfl, .inl ⟨_, rfl, _, _, rfl, rfl, by show (0 : Int) < 26; decide, abc, _, q, rfl, rfl, by decide, hq, ?_⟩⟩
        refine ⟨_, _, rfl, rfl, sz (by rw [lone]; omega), ?_⟩
        have l2 : (cutS stem none (some ra) ++ (⟨#[q]⟩ : Str)).length ≤ 6 := by rw [Str.length_append, lone]; omega
        refine ⟨_, rfl, _, rfl, ra, rfl, stem, rfl, sl, _, _, rfl, rfl, sz (by omega), ?_⟩
        refine ⟨_, e, szl (by simp; omega), ⟨zs ++ [_], by rw [upd_same]; simp; rfl, by simp [lz], ?_, List.nodup_append.mpr ⟨nz', List.nodup_cons.mpr ⟨List.not_mem_nil, List.nodup_nil⟩, fun x hx y hy => by rw [List.mem_singleton.mp hy]; exact fresh x hx⟩, fun z hz => ?_⟩, ?_⟩
        · intro z hz
          rcases List.mem_append.mp hz with hz | hz
          · exact sz' z hz
          · rcases List.mem_cons.mp hz with e | hz
            · rw [e]
              refine Lt.word ((lst.cut.app (.one mq)).app lst.cut) ?_ ?_
              · rw [Str.length_append, Str.length_append, lone]
                omega
              · rw [Str.length_append, Str.length_append, lone]
                have := cut_two stem ra
                omega
            · cases hz
        · rcases List.mem_append.mp hz with hz | hz
          · obtain ⟨j, q', hj, e1, e2⟩ := wz' z hz
            exact ⟨j, q', by omega, e1, e2⟩
          · exact ⟨i, q, by omega, List.mem_singleton.mp hz, hq2⟩
        · intro x o q'
          rw [upd_ne (ne_of_none q' hD2)]
          exact s' _ _ q'
      · intro H' ⟨⟨zs, e, lz, sz', nz', _⟩, s'⟩
        have fr : H D2 = none := by
          cases hh : H D2 with
          | none => rfl
          | some o =>
            have o5 := PenAt.off P5 hD2
            have := xb _ _ o5 hh
            rw [hD2] at this
            cases this
        exact k D2 zs H' fr lz nz' ⟨e, by omega, by omega, sz'⟩ ((P5.same s').mono (by omega)) (xb.trans (Same.X s'))
end
end Hd

set_option Elab.async false
set_option linter.all false
set_option maxRecDepth 100000
set_option maxHeartbeats 8000000
namespace Hd
open PySem L2 Pen RG Dat KEq
abbrev sDd : Stmt := top 46
abbrev sDs : Stmt := top 47
/-- xs != [] -/
def rNeNil (K : PySem.W.Frag) : R2 := fun x y G Want => ∃ (a b : Addr) (xs : List V), x = .ref a ∧ y = .ref b ∧ SqL K G a xs ∧ 0 < xs.length ∧ SqL K G b [] ∧ Want (.bl true) G
theorem op_neNil {X : Cx} (hu : X.A.units + 1 < cLine) : OpR X (compareOp .NotEq) (rNeNil X.K) := by
  intro pins st σ G x y v u Want I rx ry h
  obtain ⟨a, b, xs, rfl, rfl, ha, hz, hb, q⟩ := h
  cases rx
  cases ry
  obtain ⟨its, r1, p1, _⟩ := I.list ha
  obtain ⟨jts, r2, p2, _⟩ := I.list hb
  have e2 : jts = [] := by cases r2; rfl
  subst e2
  cases r1 with
  | nil => cases hz
  | cons c t => exact SeqAt.RcNeAt.lists_lengths p1.isList p2.isList (by simp) (Nat.lt_of_succ_lt hu) _ _ _ _ ⟨.bl true, G, I, rfl, q⟩
abbrev kN : Key := Sum.inr ("names" : Str)
abbrev kK : Key := Sum.inr ("keys" : Str)
abbrev kD : Key := Sum.inr ("kinds" : Str)
abbrev kS : Key := Sum.inr ("sends" : Str)
abbrev kE : Key := Sum.inr ("deeds" : Str)
def pl (a b c : Addr) (s e : Int) : List (Key × V) := [(kN, .ref a), (kK, .ref b), (kD, .ref c), (kS, .int s), (kE, .int e)]
theorem pl_n (a b c : Addr) (s e : Int) : valV (pl a b c s e) kN = some (.ref a) := valV_pos rfl
theorem pl_k (a b c : Addr) (s e : Int) : valV (pl a b c s e) kK = some (.ref b) := (valV_neg (show ¬ kN = kK by decide +kernel)).trans (valV_pos rfl)
theorem pl_d (a b c : Addr) (s e : Int) : valV (pl a b c s e) kD = some (.ref c) := ((valV_neg (show ¬ kN = kD by decide +kernel)).trans (valV_neg (show ¬ kK = kD by decide +kernel))).trans (valV_pos rfl)
theorem pl_s (a b c : Addr) (s e : Int) : valV (pl a b c s e) kS = some (.int s) := (((valV_neg (show ¬ kN = kS by decide +kernel)).trans (valV_neg (show ¬ kK = kS by decide +kernel))).trans (valV_neg (show ¬ kD = kS by decide +kernel))).trans (valV_pos rfl)
theorem pl_e (a b c : Addr) (s e : Int) : valV (pl a b c s e) kE = some (.int e) := ((((valV_neg (show ¬ kN = kE by decide +kernel)).trans (valV_neg (show ¬ kK = kE by decide +kernel))).trans (valV_neg (show ¬ kD = kE by decide +kernel))).trans (valV_neg (show ¬ kS = kE by decide +kernel))).trans (valV_pos rfl)
theorem pl_putS (a b c : Addr) (s e x : Int) : putK (pl a b c s e) kS (.int x) = pl a b c x e := by
  have n1 : ¬ (("names" : Str) = "sends") := by decide +kernel
  have n2 : ¬ (("keys" : Str) = "sends") := by decide +kernel
  have n3 : ¬ (("kinds" : Str) = "sends") := by decide +kernel
  have n4 : ¬ (("deeds" : Str) = "sends") := by decide +kernel
  unfold putK pl
  simp [n1, n2, n3, n4]
theorem pl_putE (a b c : Addr) (s e x : Int) : putK (pl a b c s e) kE (.int x) = pl a b c s x := by
  have n1 : ¬ (("names" : Str) = "deeds") := by decide +kernel
  have n2 : ¬ (("keys" : Str) = "deeds") := by decide +kernel
  have n3 : ¬ (("kinds" : Str) = "deeds") := by decide +kernel
  have n4 : ¬ (("sends" : Str) = "deeds") := by decide +kernel
  unfold putK pl
  simp [n1, n2, n3, n4]
/-- the words of names, keys, kinds -/
structure Wz where
  A : List Str
  B : List Str
  C : List Str
/-- the words of a deed that is no if -/
def oneIn (Z : Wz) : PyData → Prop
  | .tuple [_, .str z, d] => z ∈ Z.A ∧ trIn Z.A 64 d
  | .tuple [_, .str z, u, d] => z ∈ Z.C ∧ (u = .none ∨ ∃ y ∈ Z.B, u = .str y) ∧ trIn Z.A 64 d
  | _ => True
/-- deeds, each by f, n in all -/
def vA (f : PyData → Nat → Prop) : List PyData → Nat → Prop
  | [], n => n = 0
  | d :: ds, n => ∃ x y, f d x ∧ vA f ds y ∧ n = x + y
/-- a deed with at most i ifs within ifs, n deeds in all -/
def vD (Z : Wz) : Nat → PyData → Nat → Prop
  | 0, d, n => isOne d = true ∧ oneIn Z d ∧ n = 1
  | i + 1, d, n => (isOne d = true ∧ oneIn Z d ∧ n = 1) ∨ ∃ c a b x y, d = .tuple [.str "if", c, .tuple a, .tuple b] ∧ isC 6 c = true ∧ trIn Z.A 128 c ∧ vA (vD Z i) a x ∧ vA (vD Z i) b y ∧ n = 1 + x + y
theorem vA.snoc {f : PyData → Nat → Prop} {d : PyData} {x : Nat} (h : f d x) : ∀ {ds : List PyData} {n : Nat}, vA f ds n → vA f (ds ++ [d]) (n + x)
  | [], n, e => ⟨x, 0, h, rfl, by have e : n = 0 := e; omega⟩
  | y :: ys, n, ⟨u, v, a, b, e⟩ => ⟨u, v + x, a, vA.snoc h b, by omega⟩
theorem vD.one {Z : Wz} {i : Nat} {d : PyData} (h : isOne d = true) (g : oneIn Z d) : vD Z i d 1 := by
  cases i with
  | zero => exact ⟨h, g, rfl⟩
  | succ i => exact .inl ⟨h, g, rfl⟩
theorem vA.room {f : PyData → Nat → Prop} {g : PyData → Nat → Option Nat} (hf : ∀ d x r, f d x → x ≤ r + 1 → 1 ≤ x ∧ g d r = some (r + 1 - x)) : ∀ {ds : List PyData} {n r : Nat}, vA f ds n → n ≤ r → roomAll g ds r = some (r - n)
  | [], n, r, e, _ => by
    have e : n = 0 := e
    subst e
    rfl
  | d :: ds, n, 0, ⟨x, y, a, b, e⟩, h => by
    have := (hf d x 0 a (by omega)).1
    omega
  | d :: ds, n, r + 1, ⟨x, y, a, b, e⟩, h => by
    obtain ⟨x1, q⟩ := hf d x r a (by omega)
    show (g d r).bind (roomAll g ds) = _
    rw [q, Option.bind_some, vA.room hf b (by omega)]
    congr 1
    omega
theorem vD.room {Z : Wz} : ∀ (i : Nat) (d : PyData) (x r : Nat), vD Z i d x → x ≤ r + 1 → 1 ≤ x ∧ deedR i d r = some (r + 1 - x)
  | 0, d, x, r, ⟨h, _, e⟩, _ => by
    subst e
    exact ⟨Nat.le_refl _, by rw [deed_one h]; rfl⟩
  | i + 1, d, x, r, h, hx => by
    rcases h with ⟨h, _, e⟩ | ⟨c, a, b, u, v, ed, hc, _, ha, hb, e⟩
    · subst e
      exact ⟨Nat.le_refl _, by rw [deed_one h]; rfl⟩
    · subst ed
      subst e
      refine ⟨by omega, ?_⟩
      have no : ¬ isOne (.tuple [.str "if", c, .tuple a, .tuple b]) = true := by
        have e1 : ¬ isS (.str "if") "set" = true := by decide +kernel
        have e2 : ¬ isS (.str "if") "send" = true := by decide +kernel
        have e3 : isS (.str "if") "fail" = false := by decide +kernel
        rw [one_cons, if_neg e1, if_neg e2, e3]
        simp
      have e4 : isS (.str "if") "if" = true := by decide +kernel
      have ra : roomR (deedR i) (.tuple a) r = some (r - u) := vA.room (vD.room (Z := Z) i) ha (by omega)
      have rb : roomR (deedR i) (.tuple b) (r - u) = some (r - u - v) := vA.room (vD.room (Z := Z) i) hb (by omega)
      rw [deed_four no, if_pos e4, if_pos hc, ra, Option.bind_some, rb]
      congr 1
      omega
theorem vA.ok {Z : Wz} {ds : List PyData} {n : Nat} (h : vA (vD Z 3) ds n) (h12 : n ≤ 12) : hOk (.tuple ds) = true := by
  have q : roomR (deedR 3) (.tuple ds) 12 = some (12 - n) := vA.room (vD.room (Z := Z) 3) h h12
  unfold hOk
  rw [q]
  rfl
/-- the place at q, beside the pen at p, e deeds left -/
structure Pl (H : Hp) (p q a b c : Addr) (e : Nat) (Z : Wz) : Prop where
  ex : ∃ s : Int, H q = some (.dK (pl a b c s (e : Int)))
  na : NamesA H a Z.A
  nb : NamesA H b Z.B
  nc : NamesA H c Z.C
  ne : p ≠ q
theorem NamesA.off {A : List Str} {H : Hp} {l q : Addr} {kvs : List (Key × V)} (x : NamesA H l A) (h : H q = some (.dK kvs)) : l ≠ q := ne_of x.1 h (by intro z; cases z)
theorem NamesA.sameY {A : List Str} {H H' : Hp} {p q c l : Addr} {ns : List Int} {b : Nat} {kvs : List (Key × V)} (P : PenAt H p c ns b) (x : NamesA H l A) (h : H q = some (.dK kvs)) (s : SameY p q H H') : NamesA H' l A := by
  have n := x.off h
  exact ⟨s _ _ (lst_off P x.1) n x.1, x.2⟩
theorem Pl.sameX {Z : Wz} {H H' : Hp} {p q a b c cc : Addr} {ns : List Int} {k : Nat} (P : PenAt H p cc ns k) {e : Nat} (x : Pl H p q a b c e Z) (s : SameX p H H') : Pl H' p q a b c e Z := by
  obtain ⟨⟨s0, h⟩, x1, x2, x3, n⟩ := x
  exact ⟨⟨s0, s _ _ n.symm h⟩, x1.same P s, x2.same P s, x3.same P s, n⟩
theorem Pl.put {Z : Wz} {H : Hp} {p q a b c cc : Addr} {ns : List Int} {k : Nat} {s : Int} {e0 e : Nat} (P : PenAt H p cc ns k) (x : Pl H p q a b c e0 Z) : Pl (upd H q (.dK (pl a b c s (e : Int)))) p q a b c e Z ∧ PenAt (upd H q (.dK (pl a b c s (e : Int)))) p cc ns k := by
  obtain ⟨⟨s0, h⟩, x1, x2, x3, n⟩ := x
  have y := SameY.upd (p := p) (q := q) (H := H) (o := .dK (pl a b c s (e : Int)))
  refine ⟨⟨⟨s, upd_same⟩, x1.sameY P h y, x2.sameY P h y, x3.sameY P h y, n⟩, ?_⟩
  obtain ⟨⟨a1, r1, hp, q1⟩, ce⟩ := P
  refine ⟨⟨a1, r1, (upd_ne n).trans hp, q1⟩, ?_⟩
  have nc : cc ≠ q := ne_of ce h (by intro z; cases z)
  exact (upd_ne nc).trans ce
def spDs (K : PySem.W.Frag) (m : Nat) : Sp := fun vs H Q _ => ∃ (p cc : Addr) (ns : List Int) (k : Nat) (q a b c : Addr) (i e : Nat) (Z : Wz), vs = [.ref p, .ref q, .int i] ∧ i < m ∧ i ≤ 4 ∧ PenAt H p cc ns k ∧ ns.length ≤ 63 ∧ k + 70000 * 8 ^ i ≤ 2 ^ 36 ∧ Pl H p q a b c e Z ∧
  ∀ (v : V) (ds : List PyData) (H' : Hp) (n f : Nat), Dw K p H' (10 + 2 * i) v (.tuple ds) → ds.length ≤ 4 → vA (vD Z i) ds n → n + f = e → PenAt H' p cc ns (k + 70000 * 8 ^ i) → Pl H' p q a b c f Z → SameY p q H H' → Q v H'
def spDd (K : PySem.W.Frag) (m : Nat) : Sp := fun vs H Q _ => ∃ (p cc : Addr) (ns : List Int) (k : Nat) (q a b c : Addr) (i e : Nat) (Z : Wz), vs = [.ref p, .ref q, .int i] ∧ i < m ∧ i ≤ 4 ∧ PenAt H p cc ns k ∧ ns.length ≤ 63 ∧ k + 20000 * 8 ^ i ≤ 2 ^ 36 ∧ Pl H p q a b c e Z ∧
  ∀ (v : V) (d : PyData) (H' : Hp) (n f : Nat), Dw K p H' (9 + 2 * i) v d → vD Z i d n → n + f = e + 1 → PenAt H' p cc ns (k + 20000 * 8 ^ i) → Pl H' p q a b c f Z → SameY p q H H' → Q v H'
section
variable {P : Program} {w : World} {K : PySem.W.Frag} {mg : Str → Option Value} {base : Heap}
theorem scDs : FnScope ["_law_pen_here", "_law_place", "_law_ifs", "_law_found", "_law_k"] ["_law_pen_here", "_law_place", "_law_ifs"] (defScope sDs) := ⟨rfl, rfl, rfl, by decide +kernel, rfl, by decide +kernel, by decide +kernel⟩
theorem ok_ds {f fD fd' : Addr} {fd fdD fdd : FuncData} (m n : Nat) (hn1 : 1 ≤ n) (F : Fun K "_law_deeds" "_law_deeds" sDs f fd) (T : TxtH mg) (TR : mg "range" = none)
    (GDraw : FnOk P w K mg base CX0 1 fD fdD ["_law_pen_here", "_law_many"] spDraw) (TDraw : DefT K mg "_law_draw" fD) (bDraw : Binds K fdD ["_law_pen_here", "_law_many"] [])
    (GDd : FnOk P w K mg base CX0 n fd' fdd ["_law_pen_here", "_law_place", "_law_ifs"] (spDd K m)) (TDd : DefT K mg "_law_deed" fd') (bDd : Binds K fdd ["_law_pen_here", "_law_place", "_law_ifs"] []) : FnOk P w K mg base CX0 (n + 1) f fd ["_law_pen_here", "_law_place", "_law_ifs"] (spDs K m) := by
  refine F.ok scDs (fun vs H Q E h => ?_) (fun cdv A outer s H vs Q E hr h => ?_)
  · obtain ⟨p, cc, ns, k, q, a, b, c, i, e, Z, rfl, _⟩ := h
    rfl
  · obtain ⟨p, cc, ns, b0, q, a, b, c, j, eA, Z, rfl, lt, j4, P0, hn, hb, L0, k⟩ := h
    have hu := hu_of hr
    have e8 : 1 ≤ 8 ^ j := Nat.one_le_pow _ _ (by decide)
    refine ⟨_, (pss_cons (ps_set (i := 3) scDs.nd rfl (Or.inl rfl) (Ab.pe_lstA pa_nil))
      (pss_cons (ps_for PassesOwn.never rfl (pi_range1 (by rfl) TR (pa_cons (pe_call GDraw (hr.mono (by omega)) rfl TDraw.mg TDraw.kp bDraw .nil pass0 (pa_cons (pv 0) (pa_cons pe_int pa_nil))) pa_nil)) (pg_name (i := 4) scDs.nd rfl (Or.inl rfl)) (pss_one (ps_if (pt_cmpR op_gt (pe_dget hu (pv 1) pe_str (fun _ _ => rfl)) pe_int (nomark _)) (pss_cons (ps_dput hu (pv 1) pe_str (pe_op op_sub (pe_dget hu (pv 1) pe_str (fun _ _ => rfl)) pe_int) rfl)
      (pss_one (ps_expr (pe_bm PySem.F.plainAttrs_list PySem.F.slot_list_append PySem.F.type_list_append mt_append (pv 3) (pa_cons (pe_call GDd (hr.mono (by omega)) rfl TDd.mg TDd.kp bDd .nil pass0 (pa_cons (pv 0) (pa_cons (pv 1) (pa_cons (pv 2) pa_nil)))) pa_nil))))) pss_nil)))
      (pss_one (ps_ret (pe_callTy call_tuple_of (by rfl) T.tuple (by decide +kernel) (pa_cons (pv 3) pa_nil)))))), ?_⟩
    refine ⟨sz (by simp), fun l H0 fl nl sl el => ?_⟩
    have ol := PenAt.off P0 fl
    have oq : l ≠ q := by
      obtain ⟨s0, hq⟩ := L0.ex
      exact (ne_of_none hq fl).symm
    refine ⟨_, rfl, p, cc, ns, b0, 4, rfl, P0.same sl, hn, by omega, by decide, by decide, fun r H1 r0 r4 P1 x1 => ⟨r, rfl, by omega, by omega, for_range (n := r.toNat) (fun i σ H' => σ.length = 5 ∧ σ[0]? = some (some (.ref p)) ∧ σ[1]? = some (some (.ref q)) ∧ σ[2]? = some (some (.int j)) ∧ σ[3]? = some (some (.ref l)) ∧ PenAt H' p cc ns (b0 + 1 + i * (20000 * 8 ^ j)) ∧
      (∃ xs ds n e, Pl H' p q a b c e Z ∧ H' l = some (.lst xs) ∧ xs.length ≤ i ∧ DwAll K p H' (9 + 2 * j) xs ds ∧ vA (vD Z j) ds n ∧ n + e = eA) ∧ ∀ x o, x ≠ p → x ≠ q → H x = some o → H' x = some o) ⟨rfl, rfl, rfl, rfl, rfl, P1.mono (by omega), ⟨[], [], 0, eA, L0.sameX P0 ((Same.X sl).trans x1), x1 _ _ ol el, Nat.le_refl _, .nil, rfl, Nat.zero_add _⟩, fun x o n1 n2 h => x1 _ _ n1 (sl _ _ h)⟩ ?_ ?_⟩⟩
    · intro i σ H' hi ⟨l0, v0, v1, v2, v3, P2, ⟨xs, ds, nn, e0, L2, ex, lx, dw, va, hne⟩, y2⟩
      have i3 : i < 4 := by omega
      have ib : i * (20000 * 8 ^ j) + 20000 * 8 ^ j ≤ 3 * (20000 * 8 ^ j) := by
        have := Nat.mul_le_mul_right (20000 * 8 ^ j) (show i + 1 ≤ 3 by omega)
        rw [Nat.add_mul, Nat.one_mul] at this
        exact this
      have z0 : (σ.set 4 (some (V.int (0 + (i : Int)))))[0]? = some (some (V.ref p)) := by simp [v0]
      have z1 : (σ.set 4 (some (V.int (0 + (i : Int)))))[1]? = some (some (V.ref q)) := by simp [v1]
      have z2 : (σ.set 4 (some (V.int (0 + (i : Int)))))[2]? = some (some (V.int j)) := by simp [v2]
      have z3 : (σ.set 4 (some (V.int (0 + (i : Int)))))[3]? = some (some (V.ref l)) := by simp [v3]
      have zl : (σ.set 4 (some (V.int (0 + (i : Int))))).length = 5 := by simp [l0]
      obtain ⟨s0, hq⟩ := L2.ex
      have ge : DGet H' q (.str "deeds") (some (.int e0)) := by
        have g := DGet.k (k := kE) hq
        rw [pl_e] at g
        exact g
      refine ⟨_, z1, q, _, rfl, ge, _, _, rfl, rfl, _, rfl, ite2 (fun h1 => ?_) (fun h1 => ?_)⟩
      · obtain ⟨e0, rfl⟩ : ∃ t, e0 = t + 1 := ⟨e0 - 1, by have := of_decide_eq_true h1; omega⟩
        have em : (((e0 + 1 : Nat) : Int) - 1) = (e0 : Int) := by omega
        have pe : DPut H' q (.str "deeds") (.int (((e0 + 1 : Nat) : Int) - 1)) (upd H' q (.dK (pl a b c s0 (e0 : Int)))) := by
          have g := DPut.k (k := kE) (v := .int (((e0 + 1 : Nat) : Int) - 1)) hq (by show 5 < sizeLine; decide)
          rw [pl_putE] at g
          rw [em] at g ⊢
          exact g
        obtain ⟨L3, P3⟩ := L2.put (s := s0) (e := e0) P2
        refine ⟨_, z1, q, _, rfl, ge, _, _, rfl, rfl, _, z1, q, _, rfl, pe, ?_⟩
        have el3 := (upd_ne (o := .dK (pl a b c s0 (e0 : Int))) (H := H') oq).trans ex
        have dw3 := dw.put noT_dK hq (SameY.upd (p := p) (o := .dK (pl a b c s0 (e0 : Int))))
        refine ⟨_, z3, .inl ⟨rfl, _, SqL.of el3⟩, _, z0, _, z1, _, z2, p, cc, ns, _, q, a, b, c, j, e0, Z, rfl, lt, j4, P3, hn, by omega, L3, fun v d H4 nd fd w4 vd hnd P4 L4 y4 => ?_⟩
        have el4 := y4 _ _ ol oq el3
        refine ⟨l, xs, _, rfl, rfl, el4, szl (by omega), ?_⟩
        have dw4 : DwAll K p H4 (9 + 2 * j) xs ds := by
          obtain ⟨s3, hq3⟩ := L3.ex
          exact dw3.put noT_dK hq3 y4
        have yl : SameY p l H4 (upd H4 l (.lst (xs ++ [v]))) := SameY.upd
        have dw5 := (dw4.app (.cons w4 .nil)).put noT_lst el4 yl
        have keep : ∀ x o, x ≠ p → x ≠ q → H x = some o → (upd H4 l (.lst (xs ++ [v]))) x = some o := by
          intro x o n1 n2 hx
          rw [upd_ne (ne_of_none hx fl)]
          refine y4 _ _ n1 n2 ?_
          rw [upd_ne n2]
          exact y2 _ _ n1 n2 hx
        have P5 : PenAt (upd H4 l (.lst (xs ++ [v]))) p cc ns (b0 + 1 + (i + 1) * (20000 * 8 ^ j)) := by
          have := P4.mono (b' := b0 + 1 + (i + 1) * (20000 * 8 ^ j)) (by rw [Nat.add_mul, Nat.one_mul]; omega)
          obtain ⟨⟨a1, r1, hp, q1⟩, ce⟩ := this
          obtain ⟨_, ce0⟩ := P0
          exact ⟨⟨a1, r1, (upd_ne ol.symm).trans hp, q1⟩, (upd_ne (ne_of_none ce0 fl)).trans ce⟩
        have L5 : Pl (upd H4 l (.lst (xs ++ [v]))) p q a b c fd Z := by
          obtain ⟨⟨s4, h4⟩, x1', x2', x3', n4⟩ := L4
          have nm : ∀ (A : List Str) t, NamesA H t A → NamesA H4 t A → NamesA (upd H4 l (.lst (xs ++ [v]))) t A := by
            intro A t ⟨e00, _⟩ ⟨e4', r⟩
            exact ⟨(upd_ne (ne_of_none e00 fl)).trans e4', r⟩
          exact ⟨⟨s4, (upd_ne oq.symm).trans h4⟩, nm _ _ L0.na x1', nm _ _ L0.nb x2', nm _ _ L0.nc x3', n4⟩
        exact ⟨zl, z0, z1, z2, z3, P5, ⟨_, _, nn + nd, fd, L5, upd_same, by simp; omega, dw5, va.snoc vd, by omega⟩, keep⟩
      · exact ⟨zl, z0, z1, z2, z3, P2.mono (by rw [Nat.add_mul, Nat.one_mul]; omega), ⟨xs, ds, nn, e0, L2, ex, by omega, dw, va, hne⟩, y2⟩
    · intro σ H' ⟨l0, v0, v1, v2, v3, P2, ⟨xs, ds, nn, e0, L2, ex, lx, dw, va, hne⟩, y2⟩
      have ib : r.toNat * (20000 * 8 ^ j) ≤ 3 * (20000 * 8 ^ j) := Nat.mul_le_mul_right _ (by omega)
      refine ⟨_, v3, l, xs, rfl, .inl ⟨SqL.of ex, fun t ft => ?_⟩⟩
      have ot := PenAt.off P2 ft
      have st := Ab.same_up (o := .tup xs) ft
      have D := Dw.tup (DwAll.same (Same.X st) dw) (by rw [← dw.len]; omega) ot upd_same
      exact k _ _ _ nn e0 (D.mono (by omega)) (by rw [← dw.len]; omega) va hne ((P2.same st).mono (by omega)) (L2.sameX P2 (Same.X st)) (fun x o n1 n2 hx => st _ _ (y2 x o n1 n2 hx))
end
end Hd

set_option Elab.async false
set_option linter.all false
set_option maxRecDepth 100000
set_option maxHeartbeats 8000000
namespace Hd
open PySem L2 Pen RG Dat KEq
theorem word_le {z : Str} (h : isWord (.str z) = true) : z.length ≤ 1000 := Nat.le_trans (word_len h) (by decide)
theorem one_fail : isOne (.tuple [.str "fail"]) = true := by decide +kernel
theorem one_set {z : Str} {n : Nat} {d : PyData} (w : isWord (.str z) = true) (g : gI n d) (h : n ≤ 6) : isOne (.tuple [.str "set", .str z, d]) = true := by
  have e1 : isS (.str "set") "set" = true := by decide +kernel
  rw [one_cons, if_pos e1]
  show (isWord (.str z) && isE 6 d) = true
  rw [w, g 6 h (by decide)]
  rfl
theorem one_send {z : Str} {n : Nat} {u d : PyData} (w : isWord (.str z) = true) (ku : isKey u = true) (g : gI n d) (h : n ≤ 6) : isOne (.tuple [.str "send", .str z, u, d]) = true := by
  have e1 : ¬ isS (.str "send") "set" = true := by decide +kernel
  have e2 : isS (.str "send") "send" = true := by decide +kernel
  rw [one_cons, if_neg e1, if_pos e2]
  show (isWord (.str z) && (isKey u && isE 6 d)) = true
  rw [w, ku, g 6 h (by decide)]
  rfl
theorem yx {p q : Addr} {H H' : Hp} (s : SameX p H H') : SameY p q H H' := fun x o n _ h => s x o n h
theorem gN {H : Hp} {q a b c : Addr} {s e : Int} (h : H q = some (.dK (pl a b c s e))) : DGet H q (.str "names") (some (.ref a)) := by
  have g := DGet.k (k := kN) h
  rw [pl_n] at g
  exact g
theorem gK {H : Hp} {q a b c : Addr} {s e : Int} (h : H q = some (.dK (pl a b c s e))) : DGet H q (.str "keys") (some (.ref b)) := by
  have g := DGet.k (k := kK) h
  rw [pl_k] at g
  exact g
theorem gD {H : Hp} {q a b c : Addr} {s e : Int} (h : H q = some (.dK (pl a b c s e))) : DGet H q (.str "kinds") (some (.ref c)) := by
  have g := DGet.k (k := kD) h
  rw [pl_d] at g
  exact g
theorem gS {H : Hp} {q a b c : Addr} {s e : Int} (h : H q = some (.dK (pl a b c s e))) : DGet H q (.str "sends") (some (.int s)) := by
  have g := DGet.k (k := kS) h
  rw [pl_s] at g
  exact g
section
variable {P : Program} {w : World} {K : PySem.W.Frag} {mg : Str → Option Value} {base : Heap}
theorem scDd : FnScope ["_law_pen_here", "_law_place", "_law_ifs", "_law_way", "_law_key", "_law_c_here"] ["_law_pen_here", "_law_place", "_law_ifs"] (defScope sDd) := ⟨rfl, rfl, rfl, by decide +kernel, rfl, by decide +kernel, by decide +kernel⟩
theorem ok_dd {f fD fP fE fC fS : Addr} {fd fdD fdP fdE fdC fdS : FuncData} (m n : Nat) (hn1 : 16 ≤ n) (F : Fun K "_law_deed" "_law_deed" sDd f fd)
    (GDraw : FnOk P w K mg base CX0 1 fD fdD ["_law_pen_here", "_law_many"] spDraw) (TDraw : DefT K mg "_law_draw" fD) (bDraw : Binds K fdD ["_law_pen_here", "_law_many"] [])
    (GPick : FnOk P w K mg base CX0 2 fP fdP ["_law_pen_here", "_law_items"] (spPick K)) (TPick : DefT K mg "_law_pick" fP) (bPick : Binds K fdP ["_law_pen_here", "_law_items"] [])
    (GE : FnOk P w K mg base CX0 10 fE fdE ["_law_pen_here", "_law_names", "_law_deep"] (spE K 5)) (TE : DefT K mg "_law_e" fE) (bE : Binds K fdE ["_law_pen_here", "_law_names", "_law_deep"] [])
    (GC : FnOk P w K mg base CX0 16 fC fdC ["_law_pen_here", "_law_names", "_law_deep"] (spC K 5)) (TC : DefT K mg "_law_c" fC) (bC : Binds K fdC ["_law_pen_here", "_law_names", "_law_deep"] [])
    (GDs : FnOk P w K mg base CX0 n fS fdS ["_law_pen_here", "_law_place", "_law_ifs"] (spDs K m)) (TDs : DefT K mg "_law_deeds" fS) (bDs : Binds K fdS ["_law_pen_here", "_law_place", "_law_ifs"] []) : FnOk P w K mg base CX0 (n + 1) f fd ["_law_pen_here", "_law_place", "_law_ifs"] (spDd K (m + 1)) := by
  refine F.ok scDd (fun vs H Q E h => ?_) (fun cdv A outer s H vs Q E hr h => ?_)
  · obtain ⟨p, cc, ns, k, q, a, b, c, i, e, Z, rfl, _⟩ := h
    rfl
  · obtain ⟨p, cc, ns, b0, q, a, b, c, j, e0, Z, rfl, lt, j4, P0, hn, hb, L0, k⟩ := h
    have hu := hu_of hr
    have e8 : 1 ≤ 8 ^ j := Nat.one_le_pow _ _ (by decide)
    refine ⟨_, (pss_cons (ps_set (i := 3) scDd.nd rfl (Or.inl rfl) (pe_call GDraw (hr.mono (by omega)) rfl TDraw.mg TDraw.kp bDraw .nil pass0 (pa_cons (pv 0) (pa_cons pe_int pa_nil))))
      (pss_cons (ps_if (PW.pt (pw_and (pt_cmpR op_lt (pv 3) pe_int (nomark _)) (pw_and (pt_cmpR (op_neNil hu) (pe_dget hu (pv 1) pe_str (fun _ _ => rfl)) (Ab.pe_lstA pa_nil) (nomark _)) (pw_and1 (pt_cmpR op_gt (pe_dget hu (pv 1) pe_str (fun _ _ => rfl)) pe_int (nomark _)))))) (pss_cons (ps_dput hu (pv 1) pe_str (pe_op op_sub (pe_dget hu (pv 1) pe_str (fun _ _ => rfl)) pe_int) rfl)
      (pss_cons (ps_set (i := 4) scDd.nd rfl (Or.inl rfl) (pe_call GPick (hr.mono (by omega)) rfl TPick.mg TPick.kp bPick .nil pass0 (pa_cons (pv 0) (pa_cons (pe_op Ab.op_catA (Ab.pe_lstA (pa_cons pe_non (pa_cons pe_non pa_nil))) (pe_dget hu (pv 1) pe_str (fun _ _ => rfl))) pa_nil))))
      (pss_one (ps_ret (Ab.pe_tupA (pa_cons pe_str (pa_cons (pe_call GPick (hr.mono (by omega)) rfl TPick.mg TPick.kp bPick .nil pass0 (pa_cons (pv 0) (pa_cons (pe_dget hu (pv 1) pe_str (fun _ _ => rfl)) pa_nil))) (pa_cons (pv 4) (pa_cons (pe_call GE (hr.mono (by omega)) rfl TE.mg TE.kp bE .nil pass0 (pa_cons (pv 0) (pa_cons (pe_dget hu (pv 1) pe_str (fun _ _ => rfl)) (pa_cons pe_int pa_nil)))) pa_nil))))))))) pss_nil)
      (pss_cons (ps_if (PW.pt (pw_and (pt_cmpR op_eq (pv 3) pe_int (nomark _)) (pw_and1 (pt_cmpR op_gt (pv 2) pe_int (nomark _))))) (pss_cons (ps_set (i := 5) scDd.nd rfl (Or.inl rfl) (pe_call GC (hr.mono (by omega)) rfl TC.mg TC.kp bC .nil pass0 (pa_cons (pv 0) (pa_cons (pe_dget hu (pv 1) pe_str (fun _ _ => rfl)) (pa_cons pe_int pa_nil)))))
      (pss_one (ps_ret (Ab.pe_tupA (pa_cons pe_str (pa_cons (pv 5) (pa_cons (pe_call GDs (hr.mono (by omega)) rfl TDs.mg TDs.kp bDs .nil pass0 (pa_cons (pv 0) (pa_cons (pv 1) (pa_cons (pe_op op_sub (pv 2) pe_int) pa_nil)))) (pa_cons (pe_call GDs (hr.mono (by omega)) rfl TDs.mg TDs.kp bDs .nil pass0 (pa_cons (pv 0) (pa_cons (pv 1) (pa_cons (pe_op op_sub (pv 2) pe_int) pa_nil)))) pa_nil)))))))) pss_nil)
      (pss_cons (ps_if (PW.pt (pw_and (pt_cmpR op_eq (pv 3) pe_int (nomark _)) (pw_and1 (pt_cmpR op_eq (pe_call GDraw (hr.mono (by omega)) rfl TDraw.mg TDraw.kp bDraw .nil pass0 (pa_cons (pv 0) (pa_cons pe_int pa_nil))) pe_int (nomark _))))) (pss_one (ps_ret (Ab.pe_tupA (pa_cons pe_str pa_nil)))) pss_nil)
      (pss_one (ps_ret (Ab.pe_tupA (pa_cons pe_str (pa_cons (pe_call GPick (hr.mono (by omega)) rfl TPick.mg TPick.kp bPick .nil pass0 (pa_cons (pv 0) (pa_cons (pe_dget hu (pv 1) pe_str (fun _ _ => rfl)) pa_nil))) (pa_cons (pe_call GE (hr.mono (by omega)) rfl TE.mg TE.kp bE .nil pass0 (pa_cons (pv 0) (pa_cons (pe_dget hu (pv 1) pe_str (fun _ _ => rfl)) (pa_cons pe_int pa_nil)))) pa_nil)))))))))), ?_⟩
    refine ⟨_, rfl, p, cc, ns, b0, 9, rfl, P0, hn, by omega, by decide, by decide, fun r H1 r0 r9 P1 x1 => ?_⟩
    have L1 := L0.sameX P0 x1
    have y1 : SameY p q H H1 := yx x1
    obtain ⟨s0, hq1⟩ := L1.ex
    refine ⟨_, rfl, _, _, rfl, rfl, _, rfl, ite2 (fun h1 => ?_) (fun h1 => ?_)⟩
    · refine ⟨_, rfl, q, _, rfl, gD hq1, by show 0 ≤ sizeLine; decide, fun l2 G2 f2 n2 s2 e2 => ?_⟩
      have P2 := P1.same s2
      have L2 := L1.sameX P1 (Same.X s2)
      have y2 := y1.trans (yx (Same.X s2))
      have hq2 := s2 _ _ hq1
      obtain ⟨ks, hks, ek, k0, _, _⟩ : ∃ ks, ks = Z.C ∧ NamesA _ _ ks := ⟨_, rfl, L2.nc⟩
      refine ⟨c, l2, _, rfl, rfl, SqL.of ek, by simpa using k0, SqL.of e2, _, rfl, iteT ?_⟩
      refine ⟨_, rfl, q, _, rfl, gS hq2, _, _, rfl, rfl, _, rfl, ite2 (fun h4 => ?_) (fun h4 => ?_)⟩
      · have pS : DPut G2 q (.str "sends") (.int (s0 - 1)) (upd G2 q (.dK (pl a b c (s0 - 1) e0))) := by
          have g := DPut.k (k := kS) (v := .int (s0 - 1)) hq2 (by show 5 < sizeLine; decide)
          rw [pl_putS] at g
          exact g
        obtain ⟨L3, P3⟩ := L2.put (s := s0 - 1) (e := e0) P2
        have y3 : SameY p q H (upd G2 q (.dK (pl a b c (s0 - 1) e0))) := y2.trans SameY.upd
        refine ⟨_, rfl, q, _, rfl, gS hq2, _, _, rfl, rfl, _, rfl, q, _, rfl, pS, ?_⟩
        have hq3 : (upd G2 q (.dK (pl a b c (s0 - 1) e0))) q = some (.dK (pl a b c (s0 - 1) e0)) := upd_same
        generalize upd G2 q (.dK (pl a b c (s0 - 1) e0)) = G3 at L3 P3 y3 hq3 ⊢
        refine ⟨_, rfl, sz (by simp), fun l4 G4 f4 n4 s4 e4 => ?_⟩
        have L4 := L3.sameX P3 (Same.X s4)
        obtain ⟨zs, hzs, ez, z0, z10, zl⟩ : ∃ zs, zs = Z.B ∧ NamesA _ _ zs := ⟨_, rfl, L4.nb⟩
        refine ⟨_, rfl, q, _, rfl, gK (s4 _ _ hq3), l4, b, _, _, rfl, rfl, e4, ez, sz (by simp; omega), fun l5 G5 f5 s5 e5 => ?_⟩
        have P5 := (P3.same s4).same s5
        have L5 := L4.sameX (P3.same s4) (Same.X s5)
        refine ⟨p, cc, ns, _, l5, _, rfl, P5, hn, by omega, e5, by simp, by simp; omega, fun u H6 hu' P6 x6 => ?_⟩
        have key : ∃ du, isKey du = true ∧ (du = .none ∨ ∃ y ∈ Z.B, du = .str y) ∧ ∀ G, Dw K p G 0 u du := by
          rcases List.mem_append.mp hu' with hu' | hu'
          · rcases List.mem_cons.mp hu' with e | hu'
            · rw [e]
              exact ⟨_, rfl, .inl rfl, fun G => .non⟩
            rcases List.mem_cons.mp hu' with e | hu'
            · rw [e]
              exact ⟨_, rfl, .inl rfl, fun G => .non⟩
            · cases hu'
          · obtain ⟨z, hz, rfl⟩ := List.mem_map.mp hu'
            exact ⟨.str z, zl z hz, .inr ⟨z, hzs ▸ hz, rfl⟩, fun G => .str z (word_le (zl z hz))⟩
        obtain ⟨du, ku, kz, wu⟩ := key
        have L6 := L5.sameX P5 x6
        obtain ⟨s6, hq6⟩ := L6.ex
        obtain ⟨ys, hys, ey, y0, y10, yl⟩ : ∃ ys, ys = Z.C ∧ NamesA _ _ ys := ⟨_, rfl, L6.nc⟩
        refine ⟨_, rfl, _, rfl, q, _, rfl, gD hq6, p, cc, ns, _, c, _, rfl, P6, hn, by omega, ey, by simpa using y0, by simp; omega, fun u7 H7 hu7 P7 x7 => ?_⟩
        obtain ⟨z7, hz7, rfl⟩ := List.mem_map.mp hu7
        have L7 := L6.sameX P6 x7
        obtain ⟨s7, hq7⟩ := L7.ex
        refine ⟨_, rfl, _, rfl, _, rfl, q, _, rfl, gN hq7, p, cc, ns, _, a, 3, Z.A, rfl, by omega, by omega, by omega, P7, hn, by omega, L7.na, fun v d H8 w8 g8 P8 x8 => ?_⟩
        refine ⟨sz (by simp), fun t Gt ft st et => ?_⟩
        have D : Dw K p Gt (4 + 1) (.ref t) (.tuple [.str "send", .str z7, du, d]) := .tup (.cons (.str _ (by decide)) (.cons (.str z7 (word_le (yl z7 hz7))) (.cons ((wu Gt).mono (by omega)) (.cons (w8.same (Same.X st)) .nil)))) (by simp) (PenAt.off P8 ft) et
        exact k _ _ Gt 1 e0 (D.mono (by omega)) (vD.one (one_send (yl z7 hz7) ku g8.1 (by decide)) ⟨hys ▸ hz7, kz, g8.2.mono (by decide)⟩) (by omega) ((P8.same st).mono (by omega)) ((L7.sameX P7 x8).sameX P8 (Same.X st)) ((((((y3.trans (yx (Same.X s4))).trans (yx (Same.X s5))).trans (yx x6)).trans (yx x7)).trans (yx x8)).trans (yx (Same.X st)))
      · refine ⟨_, rfl, rfl, _, rfl, ite2 (fun h5 => ?_) (fun h5 => ?_)⟩
        · refine ⟨_, rfl, _, _, rfl, rfl, _, rfl, ite2 (fun h6 => ?_) (fun h6 => ?_)⟩
          · obtain ⟨j, rfl⟩ : ∃ t, j = t + 1 := ⟨j - 1, by have := of_decide_eq_true h6; omega⟩
            have hp8 : 8 ^ (j + 1) = 8 * 8 ^ j := by rw [Nat.pow_succ, Nat.mul_comm]
            have one8 : 1 ≤ 8 ^ j := Nat.one_le_pow _ _ (by decide)
            obtain ⟨sa, hqa⟩ := L2.ex
            refine ⟨_, rfl, _, rfl, q, _, rfl, gN hqa, p, cc, ns, _, a, 3, Z.A, rfl, by omega, by omega, by omega, P2, hn, by omega, L2.na, fun vc dc Ha wa gc Pa xa => ?_⟩
            have La := L2.sameX P2 xa
            refine ⟨_, rfl, _, rfl, _, rfl, _, rfl, _, _, rfl, rfl, p, cc, ns, _, q, a, b, c, j, e0, Z, by simp, by omega, by omega, Pa, hn, by omega, La, fun v1 d1 Hb n1 f1 wb _ va1 hf1 Pb Lb yb => ?_⟩
            refine ⟨_, rfl, _, rfl, _, rfl, _, _, rfl, rfl, p, cc, ns, _, q, a, b, c, j, f1, Z, by simp, by omega, by omega, Pb, hn, by omega, Lb, fun v2 d2 Hc n2 f2 wc _ va2 hf2 Pc Lc yc => ?_⟩
            refine ⟨sz (by simp), fun t Gt ft st et => ?_⟩
            obtain ⟨s1, hq1⟩ := La.ex
            obtain ⟨s2, hq2⟩ := Lb.ex
            have wa' := ((wa.put noT_dK hq1 yb).put noT_dK hq2 yc).same (Same.X st)
            have wb' := (wb.put noT_dK hq2 yc).same (Same.X st)
            have D : Dw K p Gt (10 + 2 * j + 1) (.ref t) (.tuple [.str "if", dc, .tuple d1, .tuple d2]) := .tup (.cons (.str _ (by decide)) (.cons (wa'.mono (by omega)) (.cons wb' (.cons (wc.same (Same.X st)) .nil)))) (by simp) (PenAt.off Pc ft) et
            exact k _ _ Gt (1 + n1 + n2) f2 (D.mono (by omega)) (.inr ⟨_, _, _, n1, n2, rfl, gc.1 6 (by decide) (by decide), gc.2.mono (by decide), va1, va2, rfl⟩) (by omega) ((Pc.same st).mono (by rw [hp8]; omega)) (Lc.sameX Pc (Same.X st)) ((((y2.trans (yx xa)).trans yb).trans yc).trans (yx (Same.X st)))
          · refine ⟨_, rfl, rfl, _, rfl, ite2 (fun h7 => ?_) (fun h7 => ?_)⟩
            · refine ⟨_, rfl, p, cc, ns, _, 3, rfl, P2, hn, by omega, by decide, by decide, fun r2 H9 _ _ P9 x9 => ⟨rfl, _, rfl, ite2 (fun h8 => ?_) (fun h8 => ?_)⟩⟩
              · refine ⟨sz (by simp), fun t Gt ft st et => ?_⟩
                have D : Dw K p Gt (0 + 1) (.ref t) (.tuple [.str "fail"]) := .tup (.cons (.str _ (by decide)) .nil) (by simp) (PenAt.off P9 ft) et
                exact k _ _ Gt 1 e0 (D.mono (by omega)) (vD.one one_fail trivial) (by omega) ((P9.same st).mono (by omega)) ((L2.sameX P2 x9).sameX P9 (Same.X st)) ((y2.trans (yx x9)).trans (yx (Same.X st)))
              · have L9 := L2.sameX P2 x9
                have y9 := y2.trans (yx x9)
                obtain ⟨sa, hqa⟩ := L9.ex
                obtain ⟨zs, hzs, ez, z0, z10, zl⟩ : ∃ zs, zs = Z.A ∧ NamesA _ _ zs := ⟨_, rfl, L9.na⟩
                refine ⟨_, rfl, _, rfl, q, _, rfl, gN hqa, p, cc, ns, _, a, _, rfl, P9, hn, by omega, ez, by simpa using z0, by simp; omega, fun u Ha hu' Pa xa => ?_⟩
                obtain ⟨z, hz, rfl⟩ := List.mem_map.mp hu'
                have La := L9.sameX P9 xa
                obtain ⟨sb, hqb⟩ := La.ex
                refine ⟨_, rfl, _, rfl, q, _, rfl, gN hqb, p, cc, ns, _, a, 4, Z.A, rfl, by omega, by omega, by omega, Pa, hn, by omega, La.na, fun v d Hb wb gb Pb xb => ?_⟩
                refine ⟨sz (by simp), fun t Gt ft st et => ?_⟩
                have D : Dw K p Gt (5 + 1) (.ref t) (.tuple [.str "set", .str z, d]) := .tup (.cons (.str _ (by decide)) (.cons (.str z (word_le (zl z hz))) (.cons (wb.same (Same.X st)) .nil))) (by simp) (PenAt.off Pb ft) et
                exact k _ _ Gt 1 e0 (D.mono (by omega)) (vD.one (one_set (zl z hz) gb.1 (by decide)) ⟨hzs ▸ hz, gb.2.mono (by decide)⟩) (by omega) ((Pb.same st).mono (by omega)) ((La.sameX Pa xb).sameX Pb (Same.X st)) (((y9.trans (yx xa)).trans (yx xb)).trans (yx (Same.X st)))
            · obtain ⟨sa, hqa⟩ := L2.ex
              obtain ⟨zs, hzs, ez, z0, z10, zl⟩ : ∃ zs, zs = Z.A ∧ NamesA _ _ zs := ⟨_, rfl, L2.na⟩
              refine ⟨_, rfl, _, rfl, q, _, rfl, gN hqa, p, cc, ns, _, a, _, rfl, P2, hn, by omega, ez, by simpa using z0, by simp; omega, fun u Ha hu' Pa xa => ?_⟩
              obtain ⟨z, hz, rfl⟩ := List.mem_map.mp hu'
              have La := L2.sameX P2 xa
              obtain ⟨sb, hqb⟩ := La.ex
              refine ⟨_, rfl, _, rfl, q, _, rfl, gN hqb, p, cc, ns, _, a, 4, Z.A, rfl, by omega, by omega, by omega, Pa, hn, by omega, La.na, fun v d Hb wb gb Pb xb => ?_⟩
              refine ⟨sz (by simp), fun t Gt ft st et => ?_⟩
              have D : Dw K p Gt (5 + 1) (.ref t) (.tuple [.str "set", .str z, d]) := .tup (.cons (.str _ (by decide)) (.cons (.str z (word_le (zl z hz))) (.cons (wb.same (Same.X st)) .nil))) (by simp) (PenAt.off Pb ft) et
              exact k _ _ Gt 1 e0 (D.mono (by omega)) (vD.one (one_set (zl z hz) gb.1 (by decide)) ⟨hzs ▸ hz, gb.2.mono (by decide)⟩) (by omega) ((Pb.same st).mono (by omega)) ((La.sameX Pa xb).sameX Pb (Same.X st)) (((y2.trans (yx xa)).trans (yx xb)).trans (yx (Same.X st)))
        · refine ⟨_, rfl, rfl, _, rfl, ite2 (fun h7 => ?_) (fun h7 => ?_)⟩
          · refine ⟨_, rfl, p, cc, ns, _, 3, rfl, P2, hn, by omega, by decide, by decide, fun r2 H9 _ _ P9 x9 => ⟨rfl, _, rfl, ite2 (fun h8 => ?_) (fun h8 => ?_)⟩⟩
            · refine ⟨sz (by simp), fun t Gt ft st et => ?_⟩
              have D : Dw K p Gt (0 + 1) (.ref t) (.tuple [.str "fail"]) := .tup (.cons (.str _ (by decide)) .nil) (by simp) (PenAt.off P9 ft) et
              exact k _ _ Gt 1 e0 (D.mono (by omega)) (vD.one one_fail trivial) (by omega) ((P9.same st).mono (by omega)) ((L2.sameX P2 x9).sameX P9 (Same.X st)) ((y2.trans (yx x9)).trans (yx (Same.X st)))
            · have L9 := L2.sameX P2 x9
              have y9 := y2.trans (yx x9)
              obtain ⟨sa, hqa⟩ := L9.ex
              obtain ⟨zs, hzs, ez, z0, z10, zl⟩ : ∃ zs, zs = Z.A ∧ NamesA _ _ zs := ⟨_, rfl, L9.na⟩
              refine ⟨_, rfl, _, rfl, q, _, rfl, gN hqa, p, cc, ns, _, a, _, rfl, P9, hn, by omega, ez, by simpa using z0, by simp; omega, fun u Ha hu' Pa xa => ?_⟩
              obtain ⟨z, hz, rfl⟩ := List.mem_map.mp hu'
              have La := L9.sameX P9 xa
              obtain ⟨sb, hqb⟩ := La.ex
              refine ⟨_, rfl, _, rfl, q, _, rfl, gN hqb, p, cc, ns, _, a, 4, Z.A, rfl, by omega, by omega, by omega, Pa, hn, by omega, La.na, fun v d Hb wb gb Pb xb => ?_⟩
              refine ⟨sz (by simp), fun t Gt ft st et => ?_⟩
              have D : Dw K p Gt (5 + 1) (.ref t) (.tuple [.str "set", .str z, d]) := .tup (.cons (.str _ (by decide)) (.cons (.str z (word_le (zl z hz))) (.cons (wb.same (Same.X st)) .nil))) (by simp) (PenAt.off Pb ft) et
              exact k _ _ Gt 1 e0 (D.mono (by omega)) (vD.one (one_set (zl z hz) gb.1 (by decide)) ⟨hzs ▸ hz, gb.2.mono (by decide)⟩) (by omega) ((Pb.same st).mono (by omega)) ((La.sameX Pa xb).sameX Pb (Same.X st)) (((y9.trans (yx xa)).trans (yx xb)).trans (yx (Same.X st)))
          · obtain ⟨sa, hqa⟩ := L2.ex
            obtain ⟨zs, hzs, ez, z0, z10, zl⟩ : ∃ zs, zs = Z.A ∧ NamesA _ _ zs := ⟨_, rfl, L2.na⟩
            refine ⟨_, rfl, _, rfl, q, _, rfl, gN hqa, p, cc, ns, _, a, _, rfl, P2, hn, by omega, ez, by simpa using z0, by simp; omega, fun u Ha hu' Pa xa => ?_⟩
            obtain ⟨z, hz, rfl⟩ := List.mem_map.mp hu'
            have La := L2.sameX P2 xa
            obtain ⟨sb, hqb⟩ := La.ex
            refine ⟨_, rfl, _, rfl, q, _, rfl, gN hqb, p, cc, ns, _, a, 4, Z.A, rfl, by omega, by omega, by omega, Pa, hn, by omega, La.na, fun v d Hb wb gb Pb xb => ?_⟩
            refine ⟨sz (by simp), fun t Gt ft st et => ?_⟩
            have D : Dw K p Gt (5 + 1) (.ref t) (.tuple [.str "set", .str z, d]) := .tup (.cons (.str _ (by decide)) (.cons (.str z (word_le (zl z hz))) (.cons (wb.same (Same.X st)) .nil))) (by simp) (PenAt.off Pb ft) et
            exact k _ _ Gt 1 e0 (D.mono (by omega)) (vD.one (one_set (zl z hz) gb.1 (by decide)) ⟨hzs ▸ hz, gb.2.mono (by decide)⟩) (by omega) ((Pb.same st).mono (by omega)) ((La.sameX Pa xb).sameX Pb (Same.X st)) (((y2.trans (yx xa)).trans (yx xb)).trans (yx (Same.X st)))
    · refine ⟨_, rfl, rfl, _, rfl, ite2 (fun h5 => ?_) (fun h5 => ?_)⟩
      · refine ⟨_, rfl, _, _, rfl, rfl, _, rfl, ite2 (fun h6 => ?_) (fun h6 => ?_)⟩
        · obtain ⟨j, rfl⟩ : ∃ t, j = t + 1 := ⟨j - 1, by have := of_decide_eq_true h6; omega⟩
          have hp8 : 8 ^ (j + 1) = 8 * 8 ^ j := by rw [Nat.pow_succ, Nat.mul_comm]
          have one8 : 1 ≤ 8 ^ j := Nat.one_le_pow _ _ (by decide)
          obtain ⟨sa, hqa⟩ := L1.ex
          refine ⟨_, rfl, _, rfl, q, _, rfl, gN hqa, p, cc, ns, _, a, 3, Z.A, rfl, by omega, by omega, by omega, P1, hn, by omega, L1.na, fun vc dc Ha wa gc Pa xa => ?_⟩
          have La := L1.sameX P1 xa
          refine ⟨_, rfl, _, rfl, _, rfl, _, rfl, _, _, rfl, rfl, p, cc, ns, _, q, a, b, c, j, e0, Z, by simp, by omega, by omega, Pa, hn, by omega, La, fun v1 d1 Hb n1 f1 wb _ va1 hf1 Pb Lb yb => ?_⟩
          refine ⟨_, rfl, _, rfl, _, rfl, _, _, rfl, rfl, p, cc, ns, _, q, a, b, c, j, f1, Z, by simp, by omega, by omega, Pb, hn, by omega, Lb, fun v2 d2 Hc n2 f2 wc _ va2 hf2 Pc Lc yc => ?_⟩
          refine ⟨sz (by simp), fun t Gt ft st et => ?_⟩
          obtain ⟨s1, hq1⟩ := La.ex
          obtain ⟨s2, hq2⟩ := Lb.ex
          have wa' := ((wa.put noT_dK hq1 yb).put noT_dK hq2 yc).same (Same.X st)
          have wb' := (wb.put noT_dK hq2 yc).same (Same.X st)
          have D : Dw K p Gt (10 + 2 * j + 1) (.ref t) (.tuple [.str "if", dc, .tuple d1, .tuple d2]) := .tup (.cons (.str _ (by decide)) (.cons (wa'.mono (by omega)) (.cons wb' (.cons (wc.same (Same.X st)) .nil)))) (by simp) (PenAt.off Pc ft) et
          exact k _ _ Gt (1 + n1 + n2) f2 (D.mono (by omega)) (.inr ⟨_, _, _, n1, n2, rfl, gc.1 6 (by decide) (by decide), gc.2.mono (by decide), va1, va2, rfl⟩) (by omega) ((Pc.same st).mono (by rw [hp8]; omega)) (Lc.sameX Pc (Same.X st)) ((((y1.trans (yx xa)).trans yb).trans yc).trans (yx (Same.X st)))
        · refine ⟨_, rfl, rfl, _, rfl, ite2 (fun h7 => ?_) (fun h7 => ?_)⟩
          · refine ⟨_, rfl, p, cc, ns, _, 3, rfl, P1, hn, by omega, by decide, by decide, fun r2 H9 _ _ P9 x9 => ⟨rfl, _, rfl, ite2 (fun h8 => ?_) (fun h8 => ?_)⟩⟩
            · refine ⟨sz (by simp), fun t Gt ft st et => ?_⟩
              have D : Dw K p Gt (0 + 1) (.ref t) (.tuple [.str "fail"]) := .tup (.cons (.str _ (by decide)) .nil) (by simp) (PenAt.off P9 ft) et
              exact k _ _ Gt 1 e0 (D.mono (by omega)) (vD.one one_fail trivial) (by omega) ((P9.same st).mono (by omega)) ((L1.sameX P1 x9).sameX P9 (Same.X st)) ((y1.trans (yx x9)).trans (yx (Same.X st)))
            · have L9 := L1.sameX P1 x9
              have y9 := y1.trans (yx x9)
              obtain ⟨sa, hqa⟩ := L9.ex
              obtain ⟨zs, hzs, ez, z0, z10, zl⟩ : ∃ zs, zs = Z.A ∧ NamesA _ _ zs := ⟨_, rfl, L9.na⟩
              refine ⟨_, rfl, _, rfl, q, _, rfl, gN hqa, p, cc, ns, _, a, _, rfl, P9, hn, by omega, ez, by simpa using z0, by simp; omega, fun u Ha hu' Pa xa => ?_⟩
              obtain ⟨z, hz, rfl⟩ := List.mem_map.mp hu'
              have La := L9.sameX P9 xa
              obtain ⟨sb, hqb⟩ := La.ex
              refine ⟨_, rfl, _, rfl, q, _, rfl, gN hqb, p, cc, ns, _, a, 4, Z.A, rfl, by omega, by omega, by omega, Pa, hn, by omega, La.na, fun v d Hb wb gb Pb xb => ?_⟩
              refine ⟨sz (by simp), fun t Gt ft st et => ?_⟩
              have D : Dw K p Gt (5 + 1) (.ref t) (.tuple [.str "set", .str z, d]) := .tup (.cons (.str _ (by decide)) (.cons (.str z (word_le (zl z hz))) (.cons (wb.same (Same.X st)) .nil))) (by simp) (PenAt.off Pb ft) et
              exact k _ _ Gt 1 e0 (D.mono (by omega)) (vD.one (one_set (zl z hz) gb.1 (by decide)) ⟨hzs ▸ hz, gb.2.mono (by decide)⟩) (by omega) ((Pb.same st).mono (by omega)) ((La.sameX Pa xb).sameX Pb (Same.X st)) (((y9.trans (yx xa)).trans (yx xb)).trans (yx (Same.X st)))
          · obtain ⟨sa, hqa⟩ := L1.ex
            obtain ⟨zs, hzs, ez, z0, z10, zl⟩ : ∃ zs, zs = Z.A ∧ NamesA _ _ zs := ⟨_, rfl, L1.na⟩
            refine ⟨_, rfl, _, rfl, q, _, rfl, gN hqa, p, cc, ns, _, a, _, rfl, P1, hn, by omega, ez, by simpa using z0, by simp; omega, fun u Ha hu' Pa xa => ?_⟩
            obtain ⟨z, hz, rfl⟩ := List.mem_map.mp hu'
            have La := L1.sameX P1 xa
            obtain ⟨sb, hqb⟩ := La.ex
            refine ⟨_, rfl, _, rfl, q, _, rfl, gN hqb, p, cc, ns, _, a, 4, Z.A, rfl, by omega, by omega, by omega, Pa, hn, by omega, La.na, fun v d Hb wb gb Pb xb => ?_⟩
            refine ⟨sz (by simp), fun t Gt ft st et => ?_⟩
            have D : Dw K p Gt (5 + 1) (.ref t) (.tuple [.str "set", .str z, d]) := .tup (.cons (.str _ (by decide)) (.cons (.str z (word_le (zl z hz))) (.cons (wb.same (Same.X st)) .nil))) (by simp) (PenAt.off Pb ft) et
            exact k _ _ Gt 1 e0 (D.mono (by omega)) (vD.one (one_set (zl z hz) gb.1 (by decide)) ⟨hzs ▸ hz, gb.2.mono (by decide)⟩) (by omega) ((Pb.same st).mono (by omega)) ((La.sameX Pa xb).sameX Pb (Same.X st)) (((y1.trans (yx xa)).trans (yx xb)).trans (yx (Same.X st)))
      · refine ⟨_, rfl, rfl, _, rfl, ite2 (fun h7 => ?_) (fun h7 => ?_)⟩
        · refine ⟨_, rfl, p, cc, ns, _, 3, rfl, P1, hn, by omega, by decide, by decide, fun r2 H9 _ _ P9 x9 => ⟨rfl, _, rfl, ite2 (fun h8 => ?_) (fun h8 => ?_)⟩⟩
          · refine ⟨sz (by simp), fun t Gt ft st et => ?_⟩
            have D : Dw K p Gt (0 + 1) (.ref t) (.tuple [.str "fail"]) := .tup (.cons (.str _ (by decide)) .nil) (by simp) (PenAt.off P9 ft) et
            exact k _ _ Gt 1 e0 (D.mono (by omega)) (vD.one one_fail trivial) (by omega) ((P9.same st).mono (by omega)) ((L1.sameX P1 x9).sameX P9 (Same.X st)) ((y1.trans (yx x9)).trans (yx (Same.X st)))
          · have L9 := L1.sameX P1 x9
            have y9 := y1.trans (yx x9)
            obtain ⟨sa, hqa⟩ := L9.ex
            obtain ⟨zs, hzs, ez, z0, z10, zl⟩ : ∃ zs, zs = Z.A ∧ NamesA _ _ zs := ⟨_, rfl, L9.na⟩
            refine ⟨_, rfl, _, rfl, q, _, rfl, gN hqa, p, cc, ns, _, a, _, rfl, P9, hn, by omega, ez, by simpa using z0, by simp; omega, fun u Ha hu' Pa xa => ?_⟩
            obtain ⟨z, hz, rfl⟩ := List.mem_map.mp hu'
            have La := L9.sameX P9 xa
            obtain ⟨sb, hqb⟩ := La.ex
            refine ⟨_, rfl, _, rfl, q, _, rfl, gN hqb, p, cc, ns, _, a, 4, Z.A, rfl, by omega, by omega, by omega, Pa, hn, by omega, La.na, fun v d Hb wb gb Pb xb => ?_⟩
            refine ⟨sz (by simp), fun t Gt ft st et => ?_⟩
            have D : Dw K p Gt (5 + 1) (.ref t) (.tuple [.str "set", .str z, d]) := .tup (.cons (.str _ (by decide)) (.cons (.str z (word_le (zl z hz))) (.cons (wb.same (Same.X st)) .nil))) (by simp) (PenAt.off Pb ft) et
            exact k _ _ Gt 1 e0 (D.mono (by omega)) (vD.one (one_set (zl z hz) gb.1 (by decide)) ⟨hzs ▸ hz, gb.2.mono (by decide)⟩) (by omega) ((Pb.same st).mono (by omega)) ((La.sameX Pa xb).sameX Pb (Same.X st)) (((y9.trans (yx xa)).trans (yx xb)).trans (yx (Same.X st)))
        · obtain ⟨sa, hqa⟩ := L1.ex
          obtain ⟨zs, hzs, ez, z0, z10, zl⟩ : ∃ zs, zs = Z.A ∧ NamesA _ _ zs := ⟨_, rfl, L1.na⟩
          refine ⟨_, rfl, _, rfl, q, _, rfl, gN hqa, p, cc, ns, _, a, _, rfl, P1, hn, by omega, ez, by simpa using z0, by simp; omega, fun u Ha hu' Pa xa => ?_⟩
          obtain ⟨z, hz, rfl⟩ := List.mem_map.mp hu'
          have La := L1.sameX P1 xa
          obtain ⟨sb, hqb⟩ := La.ex
          refine ⟨_, rfl, _, rfl, q, _, rfl, gN hqb, p, cc, ns, _, a, 4, Z.A, rfl, by omega, by omega, by omega, Pa, hn, by omega, La.na, fun v d Hb wb gb Pb xb => ?_⟩
          refine ⟨sz (by simp), fun t Gt ft st et => ?_⟩
          have D : Dw K p Gt (5 + 1) (.ref t) (.tuple [.str "set", .str z, d]) := .tup (.cons (.str _ (by decide)) (.cons (.str z (word_le (zl z hz))) (.cons (wb.same (Same.X st)) .nil))) (by simp) (PenAt.off Pb ft) et
          exact k _ _ Gt 1 e0 (D.mono (by omega)) (vD.one (one_set (zl z hz) gb.1 (by decide)) ⟨hzs ▸ hz, gb.2.mono (by decide)⟩) (by omega) ((Pb.same st).mono (by omega)) ((La.sameX Pa xb).sameX Pb (Same.X st)) (((y1.trans (yx xa)).trans (yx xb)).trans (yx (Same.X st)))
end
end Hd

set_option Elab.async false
set_option linter.all false
set_option maxRecDepth 100000
set_option maxHeartbeats 8000000
namespace Hd
open PySem L2 Pen RG Dat KEq
abbrev sHn : Stmt := top 48
theorem merge_pl (a b c : Addr) (s e : Int) : mergeK [] [(kN, .ref a), (kK, .ref b), (kD, .ref c), (kS, .int s), (kE, .int e)] = pl a b c s e := by
  have e1 : putK [] kN (V.ref a) = [(kN, V.ref a)] := putK_new _ rfl
  have e2 : putK [(kN, V.ref a)] kK (V.ref b) = [(kN, V.ref a), (kK, V.ref b)] := putK_new _ (valV_neg (show ¬ kN = kK by decide +kernel))
  have e3 : putK [(kN, V.ref a), (kK, V.ref b)] kD (V.ref c) = [(kN, V.ref a), (kK, V.ref b), (kD, V.ref c)] := putK_new _ ((valV_neg (show ¬ kN = kD by decide +kernel)).trans (valV_neg (show ¬ kK = kD by decide +kernel)))
  have e4 : putK [(kN, V.ref a), (kK, V.ref b), (kD, V.ref c)] kS (V.int s) = [(kN, V.ref a), (kK, V.ref b), (kD, V.ref c), (kS, V.int s)] := putK_new _ (((valV_neg (show ¬ kN = kS by decide +kernel)).trans (valV_neg (show ¬ kK = kS by decide +kernel))).trans (valV_neg (show ¬ kD = kS by decide +kernel)))
  have e5 : putK [(kN, V.ref a), (kK, V.ref b), (kD, V.ref c), (kS, V.int s)] kE (V.int e) = pl a b c s e := putK_new _ ((((valV_neg (show ¬ kN = kE by decide +kernel)).trans (valV_neg (show ¬ kK = kE by decide +kernel))).trans (valV_neg (show ¬ kD = kE by decide +kernel))).trans (valV_neg (show ¬ kS = kE by decide +kernel)))
  show putK (putK (putK (putK (putK [] kN (V.ref a)) kK (V.ref b)) kD (V.ref c)) kS (V.int s)) kE (V.int e) = _
  rw [e1, e2, e3, e4, e5]
def spHn (K : PySem.W.Frag) : Sp := fun vs H Q _ => ∃ (p cc : Addr) (ns : List Int) (k : Nat) (a b c : Addr) (s : Int) (Z : Wz), vs = [.ref p, .ref a, .ref b, .ref c, .int s] ∧ PenAt H p cc ns k ∧ ns.length ≤ 63 ∧ k + 2 ^ 26 ≤ 2 ^ 36 ∧ NamesA H a Z.A ∧ NamesA H b Z.B ∧ NamesA H c Z.C ∧
  ∀ (v : V) (ds : List PyData) (H' : Hp) (n : Nat), Dw K p H' 16 v (.tuple ds) → ds.length ≤ 5 → vA (vD Z 3) ds n → n ≤ 12 → PenAt H' p cc ns (k + 2 ^ 26) → SameX p H H' → Q v H'
section
variable {P : Program} {w : World} {K : PySem.W.Frag} {mg : Str → Option Value} {base : Heap}
theorem ok_dss {f fD fP fE fC fd' : Addr} {fd fdD fdP fdE fdC fdd : FuncData} (F : Fun K "_law_deeds" "_law_deeds" sDs f fd) (FD : Fun K "_law_deed" "_law_deed" sDd fd' fdd) (T : TxtH mg) (TR : mg "range" = none)
    (GDraw : FnOk P w K mg base CX0 1 fD fdD ["_law_pen_here", "_law_many"] spDraw) (TDraw : DefT K mg "_law_draw" fD) (bDraw : Binds K fdD ["_law_pen_here", "_law_many"] [])
    (GPick : FnOk P w K mg base CX0 2 fP fdP ["_law_pen_here", "_law_items"] (spPick K)) (TPick : DefT K mg "_law_pick" fP) (bPick : Binds K fdP ["_law_pen_here", "_law_items"] [])
    (GE : FnOk P w K mg base CX0 10 fE fdE ["_law_pen_here", "_law_names", "_law_deep"] (spE K 5)) (TE : DefT K mg "_law_e" fE) (bE : Binds K fdE ["_law_pen_here", "_law_names", "_law_deep"] [])
    (GC : FnOk P w K mg base CX0 16 fC fdC ["_law_pen_here", "_law_names", "_law_deep"] (spC K 5)) (TC : DefT K mg "_law_c" fC) (bC : Binds K fdC ["_law_pen_here", "_law_names", "_law_deep"] [])
    (TDs : DefT K mg "_law_deeds" f) (bDs : Binds K fd ["_law_pen_here", "_law_place", "_law_ifs"] []) (TDd : DefT K mg "_law_deed" fd') (bDd : Binds K fdd ["_law_pen_here", "_law_place", "_law_ifs"] []) : ∀ m, FnOk P w K mg base CX0 (2 * m + 16) f fd ["_law_pen_here", "_law_place", "_law_ifs"] (spDs K m)
  | 0 => by
    refine F.ok scDs (fun vs H Q E h => ?_) (fun cdv A outer s H vs Q E hr h => ?_)
    · obtain ⟨p, cc, ns, k, q, a, b, c, i, e, Z, rfl, _⟩ := h
      rfl
    · obtain ⟨p, cc, ns, k, q, a, b, c, i, e, Z, rfl, lt, _⟩ := h
      exact absurd lt (Nat.not_lt_zero _)
  | m + 1 => ok_ds (m + 1) (2 * m + 17) (by omega) F T TR GDraw TDraw bDraw (ok_dd m (2 * m + 16) (by omega) FD GDraw TDraw bDraw GPick TPick bPick GE TE bE GC TC bC (ok_dss F FD T TR GDraw TDraw bDraw GPick TPick bPick GE TE bE GC TC bC TDs bDs TDd bDd m) TDs bDs) TDd bDd
theorem scHn : FnScope ["_law_pen_here", "_law_names", "_law_keys", "_law_kinds", "_law_sends", "_law_place", "_law_found"] ["_law_pen_here", "_law_names", "_law_keys", "_law_kinds", "_law_sends"] (defScope sHn) := ⟨rfl, rfl, rfl, by decide +kernel, rfl, by decide +kernel, by decide +kernel⟩
theorem ok_hn {f fD fP fE fS : Addr} {fd fdD fdP fdE fdS : FuncData} (F : Fun K "_law_handler" "_law_handler" sHn f fd)
    (GDraw : FnOk P w K mg base CX0 1 fD fdD ["_law_pen_here", "_law_many"] spDraw) (TDraw : DefT K mg "_law_draw" fD) (bDraw : Binds K fdD ["_law_pen_here", "_law_many"] [])
    (GPick : FnOk P w K mg base CX0 2 fP fdP ["_law_pen_here", "_law_items"] (spPick K)) (TPick : DefT K mg "_law_pick" fP) (bPick : Binds K fdP ["_law_pen_here", "_law_items"] [])
    (GE : FnOk P w K mg base CX0 10 fE fdE ["_law_pen_here", "_law_names", "_law_deep"] (spE K 5)) (TE : DefT K mg "_law_e" fE) (bE : Binds K fdE ["_law_pen_here", "_law_names", "_law_deep"] [])
    (GDs : FnOk P w K mg base CX0 24 fS fdS ["_law_pen_here", "_law_place", "_law_ifs"] (spDs K 4)) (TDs : DefT K mg "_law_deeds" fS) (bDs : Binds K fdS ["_law_pen_here", "_law_place", "_law_ifs"] []) : FnOk P w K mg base CX0 25 f fd ["_law_pen_here", "_law_names", "_law_keys", "_law_kinds", "_law_sends"] (spHn K) := by
  refine F.ok scHn (fun vs H Q E h => ?_) (fun cdv A outer s H vs Q E hr h => ?_)
  · obtain ⟨p, cc, ns, k, a, b, c, s0, Z, rfl, _⟩ := h
    rfl
  · obtain ⟨p, cc, ns, b0, a, b, c, s0, Z, rfl, P0, hn, hb, Na, Nb, Nc, k⟩ := h
    have hu := hu_of hr
    refine ⟨_, (pss_cons (ps_set (i := 5) scHn.nd rfl (Or.inl rfl) (pe_disp (pps_cons pe_str (pv 1) (pps_cons pe_str (pv 2) (pps_cons pe_str (pv 3) (pps_cons pe_str (pv 4) (pps_cons pe_str pe_int pps_nil))))) (by decide +kernel) rfl (by simp) (by decide)))
      (pss_cons (ps_set (i := 6) scHn.nd rfl (Or.inl rfl) (pe_call GDs (hr.mono (by decide)) rfl TDs.mg TDs.kp bDs .nil pass0 (pa_cons (pv 0) (pa_cons (pv 5) (pa_cons pe_int pa_nil)))))
      (pss_cons (ps_if (PW.pt (pw_and (pt_cmpR (op_neNil hu) (pv 3) (Ab.pe_lstA pa_nil) (nomark _)) (pw_and (pt_cmpR op_gt (pe_dget hu (pv 5) pe_str (fun _ _ => rfl)) pe_int (nomark _)) (pw_and1 (pt_cmpR op_gt (pe_call GDraw (hr.mono (by decide)) rfl TDraw.mg TDraw.kp bDraw .nil pass0 (pa_cons (pv 0) (pa_cons pe_int pa_nil))) pe_int (nomark _)))))) (pss_one (ps_set (i := 6) scHn.nd rfl (Or.inl rfl) (pe_op L2.op_catA (pv 6) (Ab.pe_tupA (pa_cons (Ab.pe_tupA (pa_cons pe_str (pa_cons (pe_call GPick (hr.mono (by decide)) rfl TPick.mg TPick.kp bPick .nil pass0 (pa_cons (pv 0) (pa_cons (pv 3) pa_nil))) (pa_cons pe_non (pa_cons (pe_call GE (hr.mono (by decide)) rfl TE.mg TE.kp bE .nil pass0 (pa_cons (pv 0) (pa_cons (pv 1) (pa_cons pe_int pa_nil)))) pa_nil))))) pa_nil))))) pss_nil)
      (pss_one (ps_ret (pv 6)))))), ?_⟩
    intro q hq0
    refine ⟨_, rfl, _, rfl, _, rfl, _, rfl, upd_same, [(kN, .ref a), (kK, .ref b), (kD, .ref c), (kS, .int s0), (kE, .int 11)], rfl, (by simp), ?_⟩
    rw [merge_pl]
    have oq := PenAt.off P0 hq0
    have sq : Same H (upd (upd H q (.dK [])) q (.dK (pl a b c s0 11))) := fun x o hx => by
      have n := ne_of_none hx hq0
      rw [upd_ne n, upd_ne n]
      exact hx
    have hq1 : (upd (upd H q (.dK [])) q (.dK (pl a b c s0 11))) q = some (.dK (pl a b c s0 11)) := upd_same
    generalize upd (upd H q (.dK [])) q (.dK (pl a b c s0 11)) = G at sq hq1 ⊢
    have P1 := P0.same sq
    have L1 : Pl G p q a b c 11 Z := ⟨⟨_, hq1⟩, Na.same P0 (Same.X sq), Nb.same P0 (Same.X sq), Nc.same P0 (Same.X sq), oq.symm⟩
    refine ⟨_, rfl, _, rfl, p, cc, ns, b0, q, a, b, c, 3, 11, Z, rfl, by omega, by omega, P1, hn, by omega, L1, fun v ds H2 nd fd w2 l4 va hnf P2 L2 y2 => ?_⟩
    have x2 : SameX p H H2 := fun x o n hx => y2 x o n (ne_of_none hx hq0) (sq _ _ hx)
    obtain ⟨s2, hq2⟩ := L2.ex
    obtain ⟨ks, hks, ek, k0, _, _⟩ : ∃ ks, ks = Z.C ∧ NamesA _ _ ks := ⟨_, rfl, L2.nc⟩
    have stop : ∀ G2, PenAt G2 p cc ns (b0 + 70000 * 8 ^ 3 + 1) → SameX p H2 G2 → Q v G2 := fun G2 P3 x3 => k v ds G2 nd ((w2.same x3).mono (by omega)) (by omega) va (by omega) (P3.mono (by omega)) (x2.trans x3)
    refine ⟨_, rfl, by show 0 ≤ sizeLine; decide, fun l3 G3 f3 n3 s3 e3 => ?_⟩
    refine ⟨c, l3, _, rfl, rfl, SqL.of (s3 _ _ ek), by simpa using k0, SqL.of e3, _, rfl, iteT ?_⟩
    refine ⟨_, rfl, q, _, rfl, gS (s3 _ _ hq2), _, _, rfl, rfl, _, rfl, ite2 (fun h4 => ?_) (fun h4 => ?_)⟩
    · refine ⟨_, rfl, p, cc, ns, _, 3, rfl, P2.same s3, hn, by omega, by decide, by decide, fun r H4 _ _ P4 x4 => ⟨_, _, rfl, rfl, _, rfl, ite2 (fun h5 => ?_) (fun h5 => ?_)⟩⟩
      · have x24 : SameX p H2 H4 := (Same.X s3).trans x4
        have L4 := L2.sameX P2 x24
        obtain ⟨zs, hzs, ez, z0, z10, zl⟩ : ∃ zs, zs = Z.C ∧ NamesA _ _ zs := ⟨_, rfl, L4.nc⟩
        refine ⟨_, rfl, _, rfl, _, rfl, p, cc, ns, _, c, _, rfl, P4, hn, by omega, ez, by simpa using z0, by simp; omega, fun u H5 hu' P5 x5 => ?_⟩
        obtain ⟨z, hz, rfl⟩ := List.mem_map.mp hu'
        refine ⟨_, rfl, _, rfl, p, cc, ns, _, a, 2, Z.A, rfl, by omega, by omega, by omega, P5, hn, by omega, (L4.sameX P4 x5).na, fun v6 d6 H6 w6 g6 P6 x6 => ?_⟩
        refine ⟨sz (by simp), fun t7 H7 f7 s7 e7 => ⟨sz (by simp), fun t8 H8 f8 s8 e8 => ?_⟩⟩
        have o7 := PenAt.off P6 f7
        have o8 := PenAt.off (P6.same s7) f8
        have D7 : Dw K p H8 (3 + 1) (.ref t7) (.tuple [.str "send", .str z, .none, d6]) := .tup (.cons (.str _ (by decide)) (.cons (.str z (word_le (zl z hz))) (.cons .non (.cons (w6.same (Same.X (s7.trans s8))) .nil)))) (by simp) o7 (s8 _ _ e7)
        have D8 : Dw K p H8 (3 + 1 + 1) (.ref t8) (.tuple [.tuple [.str "send", .str z, .none, d6]]) := .tup (.cons D7 .nil) (by simp) o8 e8
        have x28 : SameX p H2 H8 := (((x24.trans x5).trans x6).trans (Same.X s7)).trans (Same.X s8)
        have w8 := w2.same x28
        have vo : vD Z 3 (.tuple [.str "send", .str z, .none, d6]) 1 := vD.one (one_send (zl z hz) rfl g6.1 (by decide)) ⟨hzs ▸ hz, .inl rfl, g6.2.mono (by decide)⟩
        have P8 := (P6.same s7).same s8
        obtain ⟨rp8, sm8, dp8, tu8, tl8⟩ := w8
        cases rp8 with
        | @tup a9 xs9 _ q9 rr9 =>
          have q9' : SqT K H8 a9 xs9 := sqT_same delp_le q9
          refine ⟨a9, t8, xs9, _, rfl, rfl, q9', SqT.of e8, sz (by rw [RpAll.len rr9]; simp; omega), fun e => ?_, fun _ e => ?_, fun _ _ t9 f9 => ?_⟩
          · exact ⟨_, rfl, k _ _ _ 1 (D8.mono (by omega)) (by simp) ⟨1, 0, vo, rfl, rfl⟩ (by decide) (P8.mono (by omega)) (x2.trans x28)⟩
          · cases e
          · have o9 := PenAt.off P8 f9
            have s9 := Ab.same_up (o := .tup (xs9 ++ [V.ref t7])) f9
            have ap : ∀ {vs : List V} {es : List PyData}, RpAll K (delp p H8) vs es → smAll es = true → PyData.depthAll es ≤ 15 → tuAll es = true → tlAll es ≤ 20 → DwAll K p H8 15 vs es := by
              intro vs es r
              induction r using RpAll.rec (motive_1 := fun _ _ _ => True) with
              | nil => intro _ _ _ _; exact .nil
              | cons h t _ ih =>
                intro s1 s2 s3 s4
                have a1 := sm_cons s1
                have a2 := Nat.max_le.mp s2
                have a3 : (tu _ && tuAll _) = true := s3
                rw [Bool.and_eq_true] at a3
                have a4 := Nat.max_le.mp s4
                exact .cons ⟨h, a1.1, a2.1, a3.1, a4.1⟩ (ih a1.2 a2.2 a3.2 a4.2)
              | _ => trivial
            have DA := ap rr9 (sm_tup sm8) (by have : PyData.depthAll ds + 1 ≤ 16 := dp8; omega) tu8 (Nat.max_le.mp tl8).2
            have D8' : Dw K p H8 15 (.ref t7) (.tuple [.str "send", .str z, .none, d6]) := D7.mono (by omega)
            have D9 : Dw K p (upd H8 t9 (.tup (xs9 ++ [V.ref t7]))) (15 + 1) (.ref t9) (.tuple (ds ++ [.tuple [.str "send", .str z, .none, d6]])) := .tup (DwAll.same (Same.X s9) (DA.app (.cons D8' .nil))) (by simp; omega) o9 upd_same
            exact ⟨_, rfl, k _ _ _ (nd + 1) (D9.mono (by omega)) (by simp; omega) (va.snoc vo) (by omega) ((P8.same s9).mono (by omega)) ((x2.trans x28).trans (Same.X s9))⟩
      · exact ⟨_, rfl, stop H4 P4 ((Same.X s3).trans x4)⟩
    · exact ⟨_, rfl, stop G3 ((P2.same s3).mono (by omega)) (Same.X s3)⟩
end
end Hd

set_option Elab.async false
set_option linter.all false
set_option maxRecDepth 100000
set_option maxHeartbeats 2000000
/-! sorted(d) of a dict whose keys are pairs of texts. -/
namespace KSrt
open PySem PySem.Spec PyProof.Rows PyProof.Rows.G L2
abbrev kp (z : PySem.Str × PySem.Str) : List L2.Key := [Sum.inr z.1, Sum.inr z.2]
abbrev ordOf (z : PySem.Str × PySem.Str) : List (Int ⊕ List Nat) := [Sum.inr z.1.cps.toList, Sum.inr z.2.cps.toList]
def lt2 (a b : PySem.Str × PySem.Str) : Bool := lexLt itemOrd (ordOf a) (ordOf b)
def At2 (h : Heap) (z : PySem.Str × PySem.Str) (b : Addr) : Prop := ∃ (o : Obj) (t u : Tok) (n : Nat), h.get? b = some o ∧ o.cls = .type "tuple" ∧ o.data = .seq #[.str z.1 t, .str z.2 u] n
def dec (h : Heap) : Value → (PySem.Str × PySem.Str) × Addr
  | .ref b => match h.get? b with
    | some o => match o.data with
      | .seq xs _ => match xs.toList with
        | [.str x _, .str y _] => ((x, y), b)
        | _ => ((Str.empty, Str.empty), 0)
      | _ => ((Str.empty, Str.empty), 0)
    | none => ((Str.empty, Str.empty), 0)
  | _ => ((Str.empty, Str.empty), 0)
theorem dec_at {h : Heap} {z : PySem.Str × PySem.Str} {b : Addr} (x : At2 h z b) : dec h (.ref b) = (z, b) := by
  obtain ⟨o, t, u, n, e, c, d⟩ := x
  unfold dec
  simp only [e, d]
theorem key_at {h : Heap} {z : PySem.Str × PySem.Str} {b : Addr} (x : At2 h z b) : tupKeyC h (fun _ => true) (.ref b) = some (ordOf z) := by
  obtain ⟨o, t, u, n, e, c, d⟩ := x
  unfold tupKeyC isTupObj tupKey
  simp only [e, c, d]
  rfl
theorem At2.keep {h h' : Heap} {z : PySem.Str × PySem.Str} {b : Addr} (k : ∀ b o, h.get? b = some o → h'.get? b = some o) (x : At2 h z b) : At2 h' z b := by
  obtain ⟨o, t, u, n, e, c⟩ := x
  exact ⟨o, t, u, n, k _ _ e, c⟩
theorem ord_inj {a b : PySem.Str × PySem.Str} (h : ordOf a = ordOf b) : a = b := by
  obtain ⟨⟨x⟩, ⟨y⟩⟩ := a
  obtain ⟨⟨z⟩, ⟨w⟩⟩ := b
  simp only [ordOf, List.cons.injEq, Sum.inr.injEq, and_true] at h
  obtain ⟨h1, h2⟩ := h
  rw [Array.toList_inj.mp h1, Array.toList_inj.mp h2]
/-- the order is total: what is below neither way is the same -/
theorem lt2_total {a b : PySem.Str × PySem.Str} (h1 : lt2 a b = false) (h2 : lt2 b a = false) : a = b := ord_inj ((listOrd itemOrd).total _ _ h1 h2)
theorem tups_of {h : Heap} : ∀ {ks : List (PySem.Str × PySem.Str)} {bs : List Addr}, Paired (At2 h) ks bs → ∃ fs, TupsOf h (fun _ => true) (bs.map Value.ref) fs
  | _, _, .nil => ⟨[], .nil⟩
  | _, _, .cons x r => by
    obtain ⟨fs, g⟩ := tups_of r
    obtain ⟨o, t, u, n, e, c, d⟩ := x
    exact ⟨_ :: fs, .cons ⟨_, o, _, n, rfl, e, c, d, rfl, (fun z => absurd z (by simp)), (fun _ => ⟨_, t, rfl⟩)⟩ g⟩
theorem mem_pair {α β : Type} {F : α → β → Prop} : ∀ {xs : List α} {ys : List β} {y : β}, Paired F xs ys → y ∈ ys → ∃ x ∈ xs, F x y
  | _, _, _, .nil, h => by cases h
  | _, _, _, .cons a r, h => by
    rcases List.mem_cons.mp h with e | h
    · subst e
      exact ⟨_, List.mem_cons_self, a⟩
    · obtain ⟨x, m, f⟩ := mem_pair r h
      exact ⟨x, List.mem_cons_of_mem _ m, f⟩
theorem dec_all {h : Heap} : ∀ {ks : List (PySem.Str × PySem.Str)} {bs : List Addr}, Paired (At2 h) ks bs → (bs.map Value.ref).map (fun v => (dec h v).1) = ks
  | _, _, .nil => rfl
  | _, _, .cons x r => by
    show (dec h _).1 :: _ = _
    rw [dec_at x, dec_all r]
/-- sorted(d): a new list of the keys, ascending -/
def rSortT : List V → Hp → VK → Prop := fun xs H Q => ∃ (d : Addr) (kvs : List (List L2.Key × V)) (ks : List (PySem.Str × PySem.Str)), xs = [.ref d] ∧ Rd H d (.dT kvs) ∧ kvs.map (·.1) = ks.map kp ∧ kvs.length ≤ 1000 ∧
  ∀ (p : Addr) (zs : List (PySem.Str × PySem.Str)) (cs : List Addr), H p = none → zs.Perm ks → ks.Nodup → zs.Pairwise (fun a b => lt2 b a = false) → Paired (fun z c => H c = some (.tup [.str z.1, .str z.2])) zs cs → Q (.ref p) (L2.upd H p (.lst (cs.map V.ref)))
theorem at2_of {P : Program} {w : World} {H : Hp} {h : Heap} {b : Addr} {z : PySem.Str × PySem.Str} (x : ObjOk P w H h b (.tup [.str z.1, .str z.2])) : At2 h z b := by
  obtain ⟨_, its, v, o, e, c, n, d⟩ := x
  cases v with
  | cons r1 v =>
    cases v with
    | cons r2 v =>
      cases v
      obtain ⟨t, rfl⟩ := r1
      obtain ⟨u, rfl⟩ := r2
      exact ⟨o, t, u, n, e, c, d⟩
theorem keys_at2 {P : Program} {w : World} {H : Hp} {h : Heap} (hok : HOk P w H h) : ∀ {kvs : List (List L2.Key × V)} {xs : List (List L2.Key × Addr × Value)} {ks : List (PySem.Str × PySem.Str)}, KT H kvs xs → kvs.map (·.1) = ks.map kp →
    Paired (At2 h) ks (xs.map fun x => x.2.1) ∧ Paired (fun z c => H c = some (.tup [.str z.1, .str z.2])) ks (xs.map fun x => x.2.1) ∧ xs.map (·.1) = ks.map kp
  | _, _, [], .nil, _ => ⟨.nil, .nil, rfl⟩
  | _, _, k :: ks, .cons a r, e => by
    have e1 := (List.cons.inj e).1
    obtain ⟨i1, i2, i3⟩ := keys_at2 hok r (List.cons.inj e).2
    obtain ⟨a1, a2, a3⟩ := a
    have e1 : Prod.fst _ = kp k := e1
    rw [e1] at a2
    have a2 : H _ = some (.tup [.str k.1, .str k.2]) := a2
    refine ⟨.cons (at2_of (hok _ _ a2)) i1, .cons a2 i2, ?_⟩
    rw [List.map_cons, List.map_cons, i3, ← a1]
    exact congrArg (· :: ks.map kp) e1
  | _, _, [], .cons _ _, e => by cases e
  | _, _, _ :: _, .nil, e => by cases e
theorem paired_keep {h h' : Heap} (k : ∀ b o, h.get? b = some o → h'.get? b = some o) : ∀ {ks : List (PySem.Str × PySem.Str)} {bs : List Addr}, Paired (At2 h) ks bs → Paired (At2 h') ks bs
  | _, _, .nil => .nil
  | _, _, .cons a r => .cons (a.keep k) (paired_keep k r)
theorem paired_len {α β : Type} {F : α → β → Prop} : ∀ {xs : List α} {ys : List β}, Paired F xs ys → xs.length = ys.length
  | _, _, .nil => rfl
  | _, _, .cons _ r => congrArg (· + 1) (paired_len r)
/-- what comes out of the sort, read off -/
theorem out_of {h : Heap} {R : PySem.Str × PySem.Str → Addr → Prop} {ks : List (PySem.Str × PySem.Str)} {bs : List Addr} {arr : Array Keyed} (at_ : Paired (At2 h) ks bs) (rel : Paired R ks bs)
    (hp : arr.Perm (pairsOf (bs.map Value.ref))) (hs : SortedToK (tupKindC h fun _ => true) arr (pairsOf (bs.map Value.ref)).size) :
    ∃ (zs : List (PySem.Str × PySem.Str)) (cs : List Addr), (arr.map (·.2)).toList = cs.map Value.ref ∧ zs.Perm ks ∧ zs.Pairwise (fun a b => lt2 b a = false) ∧ Paired R zs cs := by
  have hp' : arr.toList.Perm ((bs.map Value.ref).zip (bs.map Value.ref)) := by
    rw [← pairsOf_toList]
    exact Array.perm_iff_toList_perm.mp hp
  have each : ∀ p ∈ arr.toList, ∃ z ∈ ks, ∃ b, p = (Value.ref b, Value.ref b) ∧ At2 h z b ∧ R z b := by
    intro p hm
    have hz := hp'.mem_iff.mp hm
    obtain ⟨e, hv⟩ := mem_zip_self hz
    obtain ⟨b, hb, eb⟩ := List.mem_map.mp hv
    have both : Paired (fun z b => At2 h z b ∧ R z b) ks bs := by
      clear hp hs hp' hm hz hv hb e eb
      induction at_ with
      | nil => exact .nil
      | cons a r ih =>
        cases rel with
        | cons c d => exact .cons ⟨a, c⟩ (ih d)
    obtain ⟨z, hzk, h1, h2⟩ := mem_pair both hb
    refine ⟨z, hzk, b, ?_, h1, h2⟩
    obtain ⟨p1, p2⟩ := p
    have e : p2 = p1 := Eq.symm e
    have eb : Value.ref b = p1 := eb
    rw [e, ← eb]
  refine ⟨arr.toList.map fun p => (dec h p.2).1, arr.toList.map fun p => (dec h p.2).2, ?_, ?_, ?_, ?_⟩
  · rw [Array.toList_map, List.map_map]
    refine List.map_congr_left fun p hm => ?_
    obtain ⟨z, _, b, rfl, a, _⟩ := each p hm
    show Value.ref b = Value.ref (dec h (.ref b)).2
    rw [dec_at a]
  · have q := (hp'.map fun p : Value × Value => (dec h p.2).1)
    have e : ((bs.map Value.ref).zip (bs.map Value.ref)).map (fun p : Value × Value => (dec h p.2).1) = ks := by
      rw [← dec_all at_]
      generalize bs.map Value.ref = vs
      induction vs with
      | nil => rfl
      | cons v vs ih => exact congrArg (_ :: ·) ih
    rw [e] at q
    exact q
  · rw [List.pairwise_iff_getElem]
    intro i j hi hj lt
    rw [List.length_map] at hi hj
    have hsz : arr.toList.length = (pairsOf (bs.map Value.ref)).size := by
      rw [hp'.length_eq, pairsOf_size, List.length_zip, Nat.min_self]
    have q := hs i j (Nat.le_of_lt lt) (by rw [← hsz]; exact hj)
    have kk : ∀ (i : Nat) (hi : i < arr.toList.length), KK (tupKindC h fun _ => true) arr i = ordOf (dec h (arr.toList[i]).2).1 := by
      intro i hi
      obtain ⟨z, _, b, eb, a, _⟩ := each _ (List.getElem_mem hi)
      have e1 : arr[i]? = some (Value.ref b, Value.ref b) := by
        rw [← Array.getElem?_toList, List.getElem?_eq_getElem hi, eb]
      unfold KK
      rw [e1, eb]
      show (tupKeyC h (fun _ => true) (.ref b)).getD [] = ordOf (dec h (.ref b)).1
      rw [key_at a, dec_at a]
      rfl
    rw [List.getElem_map, List.getElem_map]
    have q2 : (listOrd itemOrd).blt (KK (tupKindC h fun _ => true) arr j) (KK (tupKindC h fun _ => true) arr i) = false := q
    rw [kk i hi, kk j hj] at q2
    exact q2
  · clear hp hs hp'
    generalize arr.toList = l at each
    induction l with
    | nil => exact .nil
    | cons p l ih =>
      refine .cons ?_ (ih fun x hx => each x (List.mem_cons_of_mem _ hx))
      obtain ⟨z, _, b, rfl, a, r⟩ := each p List.mem_cons_self
      show R (dec h (.ref b)).1 (dec h (.ref b)).2
      rw [dec_at a]
      exact r
theorem nodup_of_map {α β : Type} {f : α → β} : ∀ {l : List α}, (l.map f).Nodup → l.Nodup
  | [], _ => List.nodup_nil
  | x :: l, h => by
    rw [List.map_cons, List.nodup_cons] at h
    exact List.nodup_cons.mpr ⟨fun m => h.1 (List.mem_map.mpr ⟨x, m, rfl⟩), nodup_of_map h.2⟩
theorem call_sortedT {X : Cx} (hc : X.calm = true) : CallR X (.builtin "sorted") rSortT := by
  intro pins s σ H xs us Q I r h
  obtain ⟨d, kvs, ks, rfl, hd, hks, h1000, q⟩ := h
  obtain ⟨u, rfl, rx⟩ := vals1 r
  cases rx
  obtain ⟨z, hs, xs', pr, o, es, ep, ho, hx, hdt, he, hn⟩ := (show ObjOk X.prog X.w H s.heap d (.dT kvs) from hd.ok I.hok)
  obtain ⟨at0, rel, ek⟩ := keys_at2 I.hok pr hks
  have l1 : es.size = xs'.length := size_of_entries he
  have l2 : kvs.length = xs'.length := Paired.length pr
  have nd : ks.Nodup := by
    rw [ek] at hn
    exact nodup_of_map hn
  have big : (1000 : Nat) ≤ sizeLine := by decide
  refine Calls.call_function_entry kind_sorted plain_sorted entry_sorted (args_sorted1 _) ?_
  unfold Builtin.«sorted»
  refine wpAny_bind (m := checkCount "sorted" 1 1 _) (wpAny_pure (wpAny_bind (PySem.W.kdu_collect (A := X.A.in1) (kdl_raw hs hx hdt) (I.ok.hd hc) ho (by omega) fun h' tk acc hk it => ?_)))
  have eb : acc.toList = (xs'.map fun x => x.2.1).map Value.ref := by
    have hl : acc.toList.length = xs'.length := by rw [Array.length_toList, it.1]; exact l1
    apply List.ext_getElem?
    intro j
    rw [List.map_map, List.getElem?_map]
    cases hj : acc.toList[j]? with
    | none =>
      have e1 := List.getElem?_eq_none_iff.mp hj
      rw [List.getElem?_eq_none (by omega)]
      rfl
    | some v =>
      obtain ⟨en, hen, hv⟩ := it.2 j v (by rw [← Array.getElem?_toList]; exact hj)
      have qe := entry_at he j
      rw [hen] at qe
      cases hb : xs'[j]? with
      | none =>
        rw [hb] at qe
        exact nomatch (show some en = none from qe)
      | some b =>
        rw [hb] at qe
        have e2 : en = entryOfKey (tupleKind (mixKind X.prog X.w)) b := Option.some.inj qe
        rw [hv, e2]
        rfl
  rw [eb]
  have hbl : ((xs'.map fun x => x.2.1).map Value.ref).length ≤ sizeLine := by rw [List.length_map, List.length_map]; omega
  have I1 : Inv X pins σ H { s with heap := h', toks := tk } := I.kept hk
  refine wpAny_bind (wpAny_newList ?_ hbl)
  have hoL : (h'.push (seqObj "list" ((xs'.map fun x => x.2.1).map Value.ref).toArray 0)).get? h'.objs.size = some (seqObj "list" ((xs'.map fun x => x.2.1).map Value.ref).toArray 0) := Heap.get?_push_size _ rfl
  have at1 := paired_keep (fun b o e => Heap.get?_push_of_some (seqObj "list" ((xs'.map fun x => x.2.1).map Value.ref).toArray 0) (hk b o e)) at0
  obtain ⟨fs, tf⟩ := tups_of at1
  show wpAny _ _ _ _ _ { s with heap := h'.push (seqObj "list" ((xs'.map fun x => x.2.1).map Value.ref).toArray 0), toks := tk }
  refine wpAny_bind (wpAny_holding (wpAny_call_entry slot_list_sort ⟨_, hoL, rfl⟩ entry_list_sort
    (list_sort_tups (shape := fun _ => true) (s := { s with heap := h'.push (seqObj "list" ((xs'.map fun x => x.2.1).map Value.ref).toArray 0), toks := tk }) hoL tf ?keys hbl fun st' hp hs3 hst => ⟨_, rfl, ?ret⟩) (args_list_sort _)))
  case keys =>
    intro v hv
    obtain ⟨b, hb, eb'⟩ := List.mem_map.mp hv
    obtain ⟨z', _, a⟩ := mem_pair at1 hb
    rw [← eb']
    exact ⟨_, key_at a⟩
  case ret =>
    obtain ⟨zs, cs, g1, g2, g3, g4⟩ := out_of at1 rel hp hs3
    obtain ⟨e', he'⟩ := sortedHeap_at (vs := (xs'.map fun x => x.2.1).map Value.ref) (out := (arrOf st').map (·.2)) hoL
    have hlen : (cs.map V.ref).length ≤ sizeLine := by
      rw [List.length_map, ← paired_len g4, g2.length_eq, paired_len rel, List.length_map]
      omega
    have rv : Vals (cs.map V.ref) ((arrOf st').map (·.2)).toList := by rw [g1]; exact vals_refs _
    refine wpAny_pure ⟨_, rfl, .ref h'.objs.size, L2.upd H h'.objs.size (.lst (cs.map V.ref)), I1.laid (t' := tk) (fun b u e => ?_) (Nat.le_refl _)
      (show ObjOk X.prog X.w _ _ _ (.lst (cs.map V.ref)) from ⟨hlen, ((arrOf st').map (·.2)).toList, e', rv, by rw [Array.toArray_toList]; exact he'⟩), rfl, q _ zs cs (I1.hok.fresh (Nat.le_refl _)) g2 nd g3 g4⟩
    have hb : b < h'.objs.size := Heap.lt_size e
    rw [sortedHeap_old (Nat.ne_of_lt hb) (by rw [size_push']; exact Nat.lt_succ_of_lt hb)]
    exact Heap.get?_push_of_some _ e
end KSrt

set_option Elab.async false
set_option linter.all false
set_option maxRecDepth 100000
set_option maxHeartbeats 2000000
/-! (a, b) < (c, d), texts. -/
namespace KSrt
open PySem PySem.Spec PyProof.Rows PyProof.Rows.G L2 PySem.SeqAt
def rLt2 (K : PySem.W.Frag) : R2 := fun x y H Q => ∃ (a b : Addr) (z w : PySem.Str × PySem.Str), x = .ref a ∧ y = .ref b ∧ SqT K H a [.str z.1, .str z.2] ∧ SqT K H b [.str w.1, .str w.2] ∧ Q (.bl (lt2 z w)) H
theorem lt2_is (z w : PySem.Str × PySem.Str) : lt2 z w = (if (z.1 == w.1) = false then decide (z.1.cps.toList < w.1.cps.toList) else if (z.2 == w.2) = false then decide (z.2.cps.toList < w.2.cps.toList) else false) := by
  have q : ∀ {x y : PySem.Str}, x.cps.toList = y.cps.toList → x = y := fun {x y} h => by
    obtain ⟨x⟩ := x
    obtain ⟨y⟩ := y
    exact congrArg Str.mk (Array.toList_inj.mp h)
  unfold lt2
  by_cases h1 : z.1 = w.1
  · have e1 : (Sum.inr z.1.cps.toList : Int ⊕ List Nat) = Sum.inr w.1.cps.toList := by rw [h1]
    show lexLt itemOrd (Sum.inr z.1.cps.toList :: _) (Sum.inr w.1.cps.toList :: _) = _
    rw [← e1, lex_self]
    have b1 : (z.1 == w.1) = true := beq_iff_eq.mpr h1
    rw [b1, if_neg (by simp)]
    by_cases h2 : z.2 = w.2
    · have b2 : (z.2 == w.2) = true := beq_iff_eq.mpr h2
      rw [b2, if_neg (by simp), h2]
      exact lex_irrefl _
    · have b2 : (z.2 == w.2) = false := beq_eq_false_iff_ne.mpr h2
      rw [b2, if_pos rfl]
      rw [lex_diff (O := itemOrd) (fun e => h2 (q (Sum.inr.inj e)))]
      rfl
  · have b1 : (z.1 == w.1) = false := beq_eq_false_iff_ne.mpr h1
    rw [b1, if_pos rfl]
    show lexLt itemOrd (Sum.inr z.1.cps.toList :: _) (Sum.inr w.1.cps.toList :: _) = _
    rw [lex_diff (O := itemOrd) (fun e => h1 (q (Sum.inr.inj e)))]
    rfl
theorem op_lt2 {X : Cx} (hu : X.A.units < cLine) : OpR X (compareOp .Lt) (rLt2 X.K) := by
  intro pins s σ H x y v u Q I rx ry h
  obtain ⟨a, b, z, w, rfl, rfl, ha, hb, q⟩ := h
  cases rx
  cases ry
  obtain ⟨its, r1, p1, _⟩ := I.tuple ha
  obtain ⟨its2, r2, p2, _⟩ := I.tuple hb
  cases r1 with
  | cons a1 r1 =>
    cases r1 with
    | cons a2 r1 =>
      cases r1
      cases r2 with
      | cons b1 r2 =>
        cases r2 with
        | cons b2 r2 =>
          cases r2
          obtain ⟨t1, rfl⟩ := a1
          obtain ⟨t2, rfl⟩ := a2
          obtain ⟨u1, rfl⟩ := b1
          obtain ⟨u2, rfl⟩ := b2
          have rc := RcLt.tuples (A := X.A) (s := s) (e := fun j => if j = 0 then z.1 == w.1 else z.2 == w.2) (r := fun j => if j = 0 then decide (z.1.cps.toList < w.1.cps.toList) else decide (z.2.cps.toList < w.2.cps.toList)) p1 p2 hu
            (fun j h1 h2 => match j, h1, h2 with
              | 0, _, _ => EqAt.str_str _ _ _ _
              | 1, _, _ => EqAt.str_str _ _ _ _)
            (fun j h1 h2 _ => match j, h1, h2 with
              | 0, _, _ => fun prog w' E Q h => PyProof.Rows.lt_str h
              | 1, _, _ => fun prog w' E Q h => PyProof.Rows.lt_str h)
          refine rc _ _ _ _ ⟨.bl (lt2 z w), H, I, ?_, q⟩
          show Value.bool _ = Value.bool _
          rw [lt2_is]
          cases h1 : (z.1 == w.1) <;> cases h2 : (z.2 == w.2) <;> simp [firstLt, h1, h2, List.range, List.range.loop]
end KSrt

set_option Elab.async false
set_option linter.all false
set_option maxRecDepth 100000
set_option maxHeartbeats 2000000
/-! tuple(list) as a plain tuple; dict(t) of a plain tuple of pairs whose keys are tuples. -/
namespace DpT
open PySem PySem.Spec PyProof.Rows L2
/-- a tuple of the class itself -/
def TupF (H : Hp) (a : Addr) (xs : List V) : Prop := ∃ o : Obj, o.cls = .type "tuple" ∧ o.dict = none ∧ H a = some (.frz o (.tup xs))
theorem TupF.sq {K : PySem.W.Frag} {H : Hp} {a : Addr} {xs : List V} (h : TupF H a xs) : SqT K H a xs := by
  obtain ⟨o, _, _, e⟩ := h
  exact .inl (.inr ⟨o, e⟩)
theorem call_tupleF {X : Cx} : CallR X (.type "tuple") (fun xs H Q => ∃ p ys, xs = [.ref p] ∧ SqL X.K H p ys ∧ ∀ l o, H l = none → o.cls = .type "tuple" → o.dict = none → Q (.ref l) (upd H l (.frz o (.tup ys)))) := by
  intro pins s σ H xs us Q I r h
  obtain ⟨p, ys, rfl, hq, q⟩ := h
  obtain ⟨u, rfl, rx⟩ := vals1 r
  cases rx
  obtain ⟨its, rel, pl, hz⟩ := I.list hq
  have same := rel.length
  refine call_tuple_list pl.isList (fun h' old => ?_) (by simp only [List.size_toArray] <;> omega)
  have I1 : Inv X pins σ H { s with heap := h' } := I.kept (t' := s.toks) old
  have at_ : (h'.push { cls := .type "tuple", data := .seq its.toArray }).get? h'.objs.size = some { cls := .type "tuple", data := .seq its.toArray } := Heap.get?_push_size _ rfl
  have I2 := I1.laid (t' := s.toks) (a := h'.objs.size) (o := .frz { cls := .type "tuple", data := .seq its.toArray } (.tup ys)) (h' := h'.push { cls := .type "tuple", data := .seq its.toArray }) (fun b o e => Heap.get?_push_of_some _ e) (Nat.le_refl _) ⟨at_, hz, its, rel, ⟨_, at_, rfl, _, rfl⟩⟩
  exact ⟨.ref h'.objs.size, _, I2, rfl, q _ _ (I1.hok.fresh (Nat.le_refl _)) rfl rfl⟩
/-- a pair (key, value): the key's tuple at c -/
def PairT (K : PySem.W.Frag) (H : Hp) (p : List L2.Key × V) (t : Addr) : Prop := ∃ c, SqT K H t [.ref c, p.2] ∧ H c = some (.tup (p.1.map kV))
def rDictT (K : PySem.W.Frag) : List V → Hp → VK → Prop := fun xs H Q => ∃ (a : Addr) (ts : List Addr) (kvs : List (List L2.Key × V)), xs = [.ref a] ∧ TupF H a (ts.map V.ref) ∧ Paired (PairT K H) kvs ts ∧ (kvs.map (·.1)).Nodup ∧ kvs.length ≤ 1000 ∧
  ∀ p, H p = none → Q (.ref p) (upd H p (.dT kvs))
theorem refs_of : ∀ {ts : List Addr} {its : List Value}, Vals (ts.map V.ref) its → its = ts.map Value.ref
  | [], _, .nil => rfl
  | t :: ts, _, .cons a r => by
    cases a
    rw [refs_of r]
    rfl
theorem pairs_at {X : Cx} {pins : List (Addr × Obj)} {σ : L2.St} {H : Hp} {s : Shared} (I : Inv X pins σ H s) : ∀ {kvs : List (List L2.Key × V)} {ts : List Addr}, Paired (PairT X.K H) kvs ts →
    ∃ xs : List (List L2.Key × Addr × Value), KT H kvs xs ∧ Paired (fun (x : List L2.Key × Addr × Value) t => s.heap.IsTuple t #[.ref x.2.1, x.2.2]) xs ts
  | _, _, .nil => ⟨[], .nil, .nil⟩
  | _, _, .cons a r => by
    obtain ⟨xs, k, p⟩ := pairs_at I r
    obtain ⟨c, ht, hc⟩ := a
    obtain ⟨its, rel, pl, _⟩ := I.tuple ht
    cases rel with
    | cons r1 rel =>
      cases rel with
      | cons r2 rel =>
        cases rel
        cases r1
        exact ⟨(_, c, _) :: xs, .cons ⟨rfl, hc, r2⟩ k, .cons pl p⟩
theorem stored_new {K : Type} [DecidableEq K] : ∀ (xs acc : List (K × Addr × Value)), ((acc ++ xs).map (·.1)).Nodup → storedAllH acc xs = acc ++ xs
  | [], acc, _ => by
    show acc = _
    rw [List.append_nil]
  | x :: xs, acc, h => by
    have e : storedH acc x.1 x.2.1 x.2.2 = acc ++ [x] := by
      refine storedH_new ?_ _ _
      cases q : atKey acc x.1 with
      | none => rfl
      | some p =>
        exfalso
        rw [List.map_append, List.nodup_append] at h
        have m : x.1 ∈ acc.map (·.1) := by
          unfold atKey at q
          obtain ⟨y, hy, _⟩ := Option.map_eq_some_iff.mp q
          have m1 := List.mem_of_find?_eq_some hy
          have m0 : decide (y.1 = x.1) = true := List.find?_some (p := fun z : K × Addr × Value => decide (z.1 = x.1)) hy
          have m2 := of_decide_eq_true m0
          exact List.mem_map.mpr ⟨y, m1, m2⟩
        exact h.2.2 _ m _ (List.mem_cons_self ..) rfl
    show storedAllH (storedH acc x.1 x.2.1 x.2.2) xs = _
    rw [e, stored_new xs (acc ++ [x]) (by rw [List.append_assoc]; exact h), List.append_assoc]
    rfl
theorem pair_at {h : Heap} : ∀ {xs : List (List L2.Key × Addr × Value)} {ts : List Addr} {j : Nat} {k v : Value}, Paired (fun (x : List L2.Key × Addr × Value) t => h.IsTuple t #[.ref x.2.1, x.2.2]) xs ts → (xs.map fun x => (Value.ref x.2.1, x.2.2))[j]? = some (k, v) →
    (ts.map Value.ref)[j]? = some (.ref (ts.getD j 0)) ∧ h.IsTuple (ts.getD j 0) #[k, v]
  | _, _, j, k, v, .nil, e => by simp at e
  | _, _, 0, k, v, .cons a r, e => by
    have e := Option.some.inj e
    cases e
    exact ⟨rfl, a⟩
  | _, _, j + 1, k, v, .cons a r, e => by
    obtain ⟨q1, q2⟩ := pair_at (j := j) (k := k) (v := v) r (by simpa using e)
    exact ⟨by simpa using q1, by simpa using q2⟩
theorem call_dictT {X : Cx} (hc : X.calm = true) (hu : X.A.units + 3 < cLine) : CallR X (.type "dict") (rDictT X.K) := by
  intro pins s σ H vs us Q I r h
  obtain ⟨a, ts, kvs, rfl, ⟨o, oc, od, e⟩, rows, nd, len, q⟩ := h
  obtain ⟨u, rfl, rx⟩ := vals1 r
  cases rx
  obtain ⟨at_, _, its, rel, o2, e2, c2, n, d2⟩ := I.hok a _ e
  have oe : o2 = o := Option.some.inj (e2.symm.trans at_)
  subst oe
  have ri := refs_of rel
  subst ri
  obtain ⟨xs, kt, pr⟩ := pairs_at I rows
  have l1 : kvs.length = xs.length := Paired.length kt
  have l2 : xs.length = ts.length := Paired.length pr
  have big : (1000 : Nat) ≤ sizeLine := by decide
  have keys : kvs.map (·.1) = xs.map (·.1) := by
    clear pr rows l1 l2 nd len q
    induction kt with
    | nil => rfl
    | cons a r ih => rw [List.map_cons, List.map_cons, a.1, ih]
  have arg := PairArg.tuple (prog := X.prog) (w := X.w) a (ts.map Value.ref).toArray (fun j => ts.getD j 0) (xs.map fun x => (Value.ref x.2.1, x.2.2))
  refine call_dict_pairsH (knd := tupleKind (mixKind X.prog X.w)) (ps := xs) arg (I.ok.hd hc) (show X.A.in1.in1.units < cLine from ?room) ⟨⟨o2, n, at_, oc, od, d2⟩, by simp [l2], fun j k v z => ?item⟩ ⟨by simp, fun i k v z => ?have_⟩ (fun h' keep x hx => ?stay) (by rw [List.length_map]; omega) fun h' tk dd keep => ?fin
  case room => show X.A.units + 1 + 1 < cLine; omega
  case item =>
    obtain ⟨q1, q2⟩ := pair_at pr z
    exact ⟨by simpa using q1, .inl q2⟩
  case have_ =>
    obtain ⟨x, hx, ex⟩ := Option.map_eq_some_iff.mp (by rw [← List.getElem?_map]; exact z)
    cases ex
    exact ⟨x.1, x.2.1, hx, rfl⟩
  case stay =>
    have key : ∀ x ∈ xs, H x.2.1 = some (.tup (x.1.map kV)) := by
      clear pr rows l1 l2 nd len q keys keep hx arg
      induction kt with
      | nil => exact fun x hx => nomatch hx
      | cons b r ih =>
        intro x hx
        rcases List.mem_cons.mp hx with z | z
        · subst z
          rw [← b.1]
          exact b.2.1
        · exact ih x z
    have q0 := key_of I.hok (key x hx)
    obtain ⟨ob, items, n, g, gc, gd, gi⟩ := q0
    exact ⟨ob, items, n, keep x.2.1 ob (Nat.ne_of_lt (Heap.lt_size g)) (fun m => nomatch m) g, gc, gd, gi⟩
  case fin =>
    rw [stored_new xs [] (by rw [List.nil_append, ← keys]; exact nd), List.nil_append] at dd
    obtain ⟨ob, ents, ep, g, ex, gd, ge, _, gn⟩ := dd
    have big2 : (s.heap.objs.size == sysModules) = false := beq_eq_false_iff_ne.mpr (Nat.ne_of_gt I.big)
    refine ⟨.ref s.heap.objs.size, upd H s.heap.objs.size (.dT kvs), I.laid (t' := tk) (o := .dT kvs) (fun b u z => keep b u (fun m => nomatch m) z) (Nat.le_refl _) ⟨by omega, big2, xs, ?_, ob, ents, ep, g, ex, gd, ge, gn⟩, rfl, q _ (I.hok.fresh (Nat.le_refl _))⟩
    have off : ∀ {c : Addr} {ys : List V}, H c = some (.tup ys) → (upd H s.heap.objs.size (.dT kvs)) c = some (.tup ys) := fun {c ys} z => by rw [upd_ne (ne_of_none z (I.hok.fresh (Nat.le_refl _)))]; exact z
    exact Paired.mapP kt fun x y z => ⟨z.1, off z.2.1, z.2.2⟩
end DpT

set_option Elab.async false
set_option linter.all false
set_option maxRecDepth 100000
set_option maxHeartbeats 2000000
/-! A list comprehension of any number of clauses. -/
namespace CN
open PySem PySem.Spec PyProof.Rows L2
/-- what stands behind the tests of a clause: the next clause's source and start, or the element's way into the list -/
def act (elt : Expr) (cs : List Comprehension) (scope : Scope) (pos : Pos) (k : Nat) (acc : Value) (env : Env) : Sem Unit :=
  match cs[k]? with
  | some c => do
    let x ← eval c.iter env
    standAt c.iter.pos
    let y ← foldedSetIterable c.iter env x
    let _ ← runOwn (.compStart (.ListComp elt cs scope pos) k (← holding [y] (pyIter y)) acc env) env
  | none => do let _ ← call (.builtin "list.append") [acc, ← eval elt env]
def testsOf (ifs : List Expr) (env : Env) : Sem Bool := forIn ifs true fun c r => if r = true then do let ok ← isTrue c env (eval c env); pure (ForInStep.yield ok) else pure (ForInStep.yield r)
def turnAt (elt : Expr) (cs : List Comprehension) (scope : Scope) (pos : Pos) (k : Nat) (c : Comprehension) (it acc : Value) (env : Env) : Sem Fin := do
  standAt c.iter.pos
  match ← pyNext it with
  | none => pure (.done .next)
  | some v =>
    letOwnedTupleGo c.target it v
    assign c.target env v
    let ok ← testsOf c.ifs env
    if ok then act elt cs scope pos (k + 1) acc env
    again (.compLoop (.ListComp elt cs scope pos) k it acc env)
theorem turn_at (elt : Expr) (cs : List Comprehension) (scope : Scope) (pos : Pos) (k : Nat) (c : Comprehension) (it acc : Value) (env : Env) (hk : cs[k]? = some c) (ha : c.is_async = 0) (hn : ∀ d, cs[k + 1]? = some d → d.is_async = 0) :
    compTurn (.ListComp elt cs scope pos) k it acc env = turnAt elt cs scope pos k c it acc env := by
  unfold compTurn turnAt act testsOf
  simp only [hk, ha]
  cases e : cs[k + 1]? with
  | none =>
    simp only [bne_self_eq_false, Bool.false_eq_true, if_false, bind_assoc, pure_bind]
    rfl
  | some d =>
    simp only [hn d e, bne_self_eq_false, Bool.false_eq_true, if_false, bind_assoc, pure_bind]
    rfl
/-! ### one clause's loop -/
/-- what is reached from clause k on: of the list's place, slots, heap -/
abbrev TN := Addr → L2.St → Hp → (Hp → Prop) → Prop
structure PIn (B : Cx) (elt : Expr) (cs : List Comprehension) (scope : Scope) (pos : Pos) (k : Nat) (vs : List Nat) (t : TN) : Prop where
  run : ∀ (pins : List (Addr × Obj)) (s : Shared) (σ : L2.St) (H : Hp) (D : Addr) (Nx : Hp → Prop), Inv B pins σ H s → t D σ H Nx →
    wpAny (model B.prog B.w) B.A (act elt cs scope pos k (.ref D) B.env) (fun _ z => ∃ Hz, Inv B pins (wipe σ vs) Hz z ∧ Nx Hz) (fun _ _ => False) s
def tEmit (te : TE) : TN := fun D σ H Nx => te σ H fun y H1 => ∃ acc, H1 D = some (.lst acc) ∧ acc.length < sizeLine ∧ Nx (upd H1 D (.lst (acc ++ [y])))
/-- a walk J with its measure W: it stops and Nx holds, or a turn runs the target's store, the tests, and what is within -/
def Goes (J : It) (W : Nat → Nat → Hp → Prop) (g : TG) (tt : TT) (vs : List Nat) (ti : TN) (D : Addr) (σ : L2.St) (Nx : Hp → Prop) : Prop := ∀ i m H, W i m H →
  (J.stop i H ∧ Nx H) ∨ (J.go i H ∧ ∃ N1 : Hp → Prop, (∀ Hz, N1 Hz → ∃ mz, mz < m ∧ W (i + 1) mz Hz) ∧ ∀ x Hy, J.yld i H x Hy → g x (wipe σ vs) Hy fun σ2 H2 => wipe σ2 vs = wipe σ vs ∧ tt σ2 H2 fun b H3 => if b = true then ti D σ2 H3 N1 else N1 H3)
def tNext (wi : TI) (g : TG) (tt : TT) (vs : List Nat) (ti : TN) : TN := fun D σ H Nx => wi σ H fun J H1 => ∃ W : Nat → Nat → Hp → Prop, (∃ m, W 0 m H1) ∧ Goes J W g tt vs ti D σ Nx
section
variable {B : Cx} {elt : Expr} {cs : List Comprehension} {scope : Scope} {pos : Pos} {k : Nat} {c : Comprehension} {vs vs2 : List Nat} {te : TE} {wi : TI} {g : TG} {tt : TT} {ti : TN}
theorem pin_emit (hx : B.xe = fun _ _ => False) (hk : cs[k]? = none) (he : PE B elt te) : PIn B elt cs scope pos k [] (tEmit te) := by
  refine ⟨fun pins s σ H D Nx I h => ?_⟩
  unfold act
  rw [hk]
  have q := he.run pins s σ H _ I h
  rw [hx] at q
  refine wpAny_bind (wpAny_mono q (fun x s1 z => ?_) (fun _ _ z => z))
  obtain ⟨y, H1, I1, r, acc, hD, hz, nx⟩ := z
  exact wpAny_bind (app_ok I1 hD hz r fun s2 I2 => wpAny_pure ⟨_, I2, nx⟩)
theorem loop_ok {pins : List (Addr × Obj)} {fp : List Addr} {it D : Addr} {tn : Nat → Heap → Prop} {J : It} {σ : L2.St} {W : Nat → Nat → Hp → Prop} {Nx : Hp → Prop} (hx : B.xe = fun _ _ => False) (hc : B.calm = true)
    (hk : cs[k]? = some c) (ha : c.is_async = 0) (hn : ∀ d, cs[k + 1]? = some d → d.is_async = 0) (pg : PG B c.target g) (pt : PTs B c.ifs tt) (pn : PIn B elt cs scope pos (k + 1) vs2 ti) (hv : ∀ i ∈ vs2, i ∈ vs)
    (T : Turn B.prog B.w B.K c.target J fp it tn) {H0 : Hp} (fs : ∀ b ∈ fp, FpOk B pins H0 b) (turn : Goes J W g tt vs ti D σ Nx) {m : Nat} {s : Shared} {H : Hp} (I : Inv B pins (wipe σ vs) H s) (st : tn 0 s.heap) (n0 : ∀ b ∈ fp, H b = none) (w0 : W 0 m H) :
    codeAny (model B.prog B.w) B.A (.compLoop (.ListComp elt cs scope pos) k (.ref it) (.ref D) B.env) (fun r z => match r with
      | .ok f => f = .next ∧ ∃ Hz, Inv B pins (wipe σ vs) Hz z ∧ Nx Hz
      | .error _ => False) s := by
  have stat : ∀ {Hz : Hp}, (∀ b ∈ fp, Hz b = none) → ∀ b ∈ fp, FpOk B pins Hz b := fun n b hb => ⟨n b hb, (fs b hb).2⟩
  refine codeAny_loop rfl (fun n z => ∃ i Hz, Inv B pins (wipe σ vs) Hz z ∧ tn i z.heap ∧ (∀ b ∈ fp, Hz b = none) ∧ W i n Hz) (fun n s1 hI => ?_) m ⟨0, H, I, st, n0, w0⟩
  obtain ⟨i, H1, I1, st1, n1, w1⟩ := hI
  show wpAny _ _ ((compTurn (.ListComp elt cs scope pos) k (.ref it) (.ref D) B.env).onRaise _) _ _ s1
  refine wpAny_noted (wpAny_mono (E := fun _ _ => False) (Q := fun fin z => match fin with
    | .done f => f = .next ∧ ∃ Hz, Inv B pins (wipe σ vs) Hz z ∧ Nx Hz
    | .again cc => cc = .compLoop (.ListComp elt cs scope pos) k (.ref it) (.ref D) B.env ∧ ∃ mz, mz < n ∧ ∃ i Hz, Inv B pins (wipe σ vs) Hz z ∧ tn i z.heap ∧ (∀ b ∈ fp, Hz b = none) ∧ W i mz Hz) ?_ (fun fin z q => ?_) (fun _ _ z => z.elim))
  case refine_2 =>
    cases fin with
    | done f => exact q
    | again cc => exact q
  rw [turn_at elt cs scope pos k c _ _ _ hk ha hn]
  unfold turnAt
  refine wpAny_bind (wpAny_standAt (wpAny_bind ?_))
  rcases turn i n H1 w1 with ⟨stop, nx⟩ | ⟨go, N1, hN, step⟩
  · refine thn (T.done B rfl rfl rfl hc i pins s1 _ H1 (fun _ _ => False) I1 (stat n1) st1 stop) fun r s2 z => ?_
    obtain ⟨hr, I2⟩ := z
    subst hr
    exact wpAny_pure ⟨rfl, H1, I2, nx⟩
  · refine thn (T.item B rfl rfl rfl hc i pins s1 _ H1 (fun _ _ => False) I1 (stat n1) st1 go) fun r s2 z => ?_
    obtain ⟨u, hr, h2⟩ := z
    subst hr
    refine wpAny_bind (thn h2 fun _ s3 z => ?_)
    obtain ⟨x, H3, I3, r3, y3, st3, n3⟩ := z
    have qg := pg.run _ s3 _ H3 x u _ (I3.pinned (stat n3) (T.obj _ _ st3)) r3 (step x H3 y3)
    rw [hx] at qg
    refine wpAny_bind (thn qg fun _ s4 z => ?_)
    obtain ⟨σ4, H4, I4, hw4, q4⟩ := z
    have qt := pt.run _ s4 σ4 H4 _ I4 q4
    rw [hx] at qt
    refine wpAny_bind (thn qt fun b s5 z => ?_)
    obtain ⟨H5, I5, q5⟩ := z
    have fin : ∀ {σz : L2.St} {z : Shared} {Hz : Hp}, Inv B (pins ++ pinsAt fp s3.heap) σz Hz z → (wipe σ vs).length = σz.length → (∀ (j : Nat) v, (wipe σ vs)[j]? = some (some v) → σz[j]? = some (some v)) → N1 Hz →
        ∃ mz, mz < n ∧ ∃ i Hy, Inv B pins (wipe σ vs) Hy z ∧ tn i z.heap ∧ (∀ b ∈ fp, Hy b = none) ∧ W i mz Hy := by
      intro σz z Hz Iz hl hw nz
      obtain ⟨mz, hm, wz⟩ := hN Hz nz
      have pin : ∀ b ∈ fp, ∀ o, s3.heap.get? b = some o → z.heap.get? b = some o ∧ Hz b = none := by
        intro b hb o e
        have a := Iz.pin (b, o) (List.mem_append_right _ (List.mem_append_right _ (mem_pinsAt hb e)))
        exact ⟨a.1, a.2.1⟩
      refine ⟨mz, hm, i + 1, Hz, Iz.unpinned.weak hl hw, T.keep _ _ _ st3 (fun b hb o e => (pin b hb o e).1), fun b hb => ?_, wz⟩
      obtain ⟨o, e, _⟩ := T.obj _ _ st3 b hb
      exact (pin b hb o e).2
    have hl4 : (wipe σ vs).length = σ4.length := by rw [← hw4, wipe_length]
    cases b with
    | false => exact wpAny_pure ⟨rfl, fin I5 hl4 (fun j v e => (wipe_some (by rw [hw4]; exact e)).1) q5⟩
    | true =>
      refine wpAny_bind (thn (pn.run _ s5 σ4 H5 D N1 I5 q5) fun _ s6 z => ?_)
      obtain ⟨H6, I6, nz⟩ := z
      refine wpAny_pure ⟨rfl, fin I6 (hl4.trans (wipe_length σ4 vs2).symm) (fun j v e => ?_) nz⟩
      obtain ⟨e1, e2⟩ := wipe_some (σ := σ4) (vs := vs) (by rw [hw4]; exact e)
      rw [wipe_out fun z => e2 (hv j z)]
      exact e1
theorem start_ok {prog : Program} {w : World} {A : Around} {R : Result → Shared → Prop} {s : Shared} {it : Addr} {acc : Value} {env : Env} (hk : cs[k]? = some c) (ha : c.is_async = 0)
    (self : ∀ (Q E : Value → Shared → Prop), Q (.ref it) s → wpAny (model prog w) A (pyIter (.ref it)) Q E s) (h : codeAny (model prog w) A (.compLoop (.ListComp elt cs scope pos) k (.ref it) acc env) R s) :
    codeAny (model prog w) A (.compStart (.ListComp elt cs scope pos) k (.ref it) acc env) R s := by
  refine codeAny_of_tree (M := model prog w) ?_
  show wpAny _ _ ((compStart (.ListComp elt cs scope pos) k (.ref it) acc env).onRaise _) _ _ s
  refine wpAny_notedAt (M := model prog w) ?_
  have e : clausesOf (.ListComp elt cs scope pos) = cs := rfl
  unfold compStart
  simp only [e, hk, ha, Option.elim, bne_self_eq_false, Bool.false_eq_true, if_false]
  refine wpAny_bind (wpAny_askSetting (wpAny_ite ?_))
  split
  · exact wpAny_pure (And.intro rfl h)
  · exact wpAny_bind (wpAny_rule (wpAny_bind (wpAny_standAt (wpAny_bind (self _ _ (wpAny_pure (And.intro rfl h)))))))
theorem pin_next (hx : B.xe = fun _ _ => False) (hc : B.calm = true) (hk : cs[k]? = some c) (ha : c.is_async = 0) (hn : ∀ d, cs[k + 1]? = some d → d.is_async = 0) (hi : PI B c.target c.iter wi) (pg : PG B c.target g) (pt : PTs B c.ifs tt)
    (pn : PIn B elt cs scope pos (k + 1) vs2 ti) (hv : ∀ i ∈ vs2, i ∈ vs) (hs : ∀ env x, foldedSetIterable c.iter env x = pure x) : PIn B elt cs scope pos k vs (tNext wi g tt vs ti) := by
  refine ⟨fun pins s σ H D Nx I h => ?_⟩
  unfold act
  rw [hk]
  have q := hi.run pins s σ H _ I h
  rw [hx] at q
  refine wpAny_bind (thn q fun x s1 q1 => wpAny_bind (wpAny_standAt (wpAny_bind (wpAny_of_eq (hs _ x) (wpAny_bind (wpAny_holding (thn q1 fun z s2 q2 => ?_)))))))
  obtain ⟨it, fp, tn, J, H2, e, I2, T, st2, f2, W, ⟨m, w0⟩, turn⟩ := q2
  subst e
  have lp := loop_ok hx hc hk ha hn pg pt pn hv T f2 turn (I2.weak (wipe_length σ vs) fun j v e => (wipe_some e).1) st2 (fun b hb => (f2 b hb).1) w0
  rw [← Around.mark_none (A := B.A)] at lp
  refine wpAny_bind (wpAny_runOwn (codeAny_mono (start_ok hk ha (fun Q E hq => T.self _ 0 _ Q E st2 hq) lp) fun r s3 hr => ?_))
  cases r with
  | ok f => exact wpAny_pure hr.2
  | error e => exact hr.elim
end
/-! ### the whole -/
section
variable {X : Cx} {elt tg iter : Expr} {ifs : List Expr} {rest : List Comprehension} {scope : Scope} {pos : Pos} {own : List (Str × Nat)} {vs2 : List Nat} {wi : TI} {g : TG} {tt : TT} {ti : TN}
/-- D: the new list -/
def tLcN (wi : TI) (g : TG) (tt : TT) (vs : List Nat) (ti : TN) : TE := fun σ H Q => wi σ H fun J H1 => ∀ D, H1 D = none → ∃ W : Nat → Nat → Hp → Prop, (∃ m, W 0 m (upd H1 D (.lst []))) ∧ Goes J W g tt vs ti D σ (Q (.ref D))
theorem lcN_core {pins : List (Addr × Obj)} {s : Shared} {σ : L2.St} {H : Hp} {Q : VK} {pos' : Pos} {use : Option (Value → Sem Unit)} {Qf : Value → Shared → Prop} (hc : X.calm = true) (hN : X.N.Nodup) (I : Inv X pins σ H s) (hi : PI X tg iter wi) (ok : BlkOk X.N X.env.scope scope own)
    (hg : ∀ (s : Shared) (H : Hp) (C : Addr) (cl : List (Str × Addr)) (fp : List Addr), PG (X.blk s H scope (compEnvC scope cl C X.env) fp) tg g ∧ PTs (X.blk s H scope (compEnvC scope cl C X.env) fp) ifs tt ∧ PIn (X.blk s H scope (compEnvC scope cl C X.env) fp) elt (⟨tg, iter, ifs, 0⟩ :: rest) scope pos 1 vs2 ti)
    (hv : ∀ i ∈ vs2, i ∈ own.map (·.2)) (hn : ∀ d, rest[0]? = some d → d.is_async = 0) (hs : ∀ x, foldedSetIterable iter X.env x = pure x)
    (h : tLcN wi g tt (own.map (·.2)) ti σ H Q)
    (hRR : ∀ D C s' m H', Inv X pins σ H' s' → Q (.ref D) H' → s'.heap.Ns C m → FpOk X pins H' C → compPost (model X.prog X.w) X.A X.xe use Qf (.ref D) C (.ok .next) s') :
    wpAny (model X.prog X.w) X.A (comprehension (.ListComp elt (⟨tg, iter, ifs, 0⟩ :: rest) scope pos) scope X.env pos' (newList []) false (eval iter X.env) use) Qf X.xe s := by
  have hf : ∀ y ∈ scope.names, y.2 = .free → ∃ c, X.env.cells.lookup y.1 = some c := fun y hy e => (ok.free y hy e).elim (fun z => I.ok.has _ (.inl z)) fun z => I.ok.has _ (.inr z)
  refine wpAny_comprehension_free (use := use) rfl hs (closure_ok hf) ok.kind (fun y hy e => by rw [ok.uniq y hy, e]) (thn (hi.run pins s σ H _ I h) fun xv s1 q1 => thn q1 fun itv s2 q2 => ?_)
  obtain ⟨it, fp, tn, J, H2, e, I2, T, st2, f2, q⟩ := q2
  subst e
  refine wpAny_newObj_type (newEnv_comp ?_) (show 0 ≤ sizeLine by decide)
  generalize hD : s2.heap.objs.size = D
  have fresh := I2.hok.fresh (Nat.le_of_eq hD)
  obtain ⟨W, ⟨m0, w0⟩, turn⟩ := q D fresh
  generalize hs3 : ({ s2 with heap := s2.heap.push { cls := .type "list", data := .seq ([] : List Value).toArray } } : Shared) = s3
  have h3 : s3.heap = s2.heap.push { cls := .type "list", data := .seq ([] : List Value).toArray } := by subst hs3; rfl
  have k3 : ∀ b o, s2.heap.get? b = some o → s3.heap.get? b = some o := fun b o z => by rw [h3]; exact Heap.get?_push_of_some _ z
  have I3 : Inv X pins σ (upd H2 D (.lst [])) s3 := by
    subst hs3
    exact I2.laid (t' := s2.toks) k3 (Nat.le_of_eq hD) ⟨Nat.zero_le _, [], 0, .nil, by rw [← hD]; exact Heap.get?_push_size _ rfl⟩
  have lt2 : ∀ b ∈ fp, b < s2.heap.objs.size := fun b hb => (T.obj _ _ st2 b hb).elim fun o z => Heap.lt_size z.1
  have f3 : ∀ b ∈ fp, FpOk X pins (upd H2 D (.lst [])) b ∧ b < s3.heap.objs.size := fun b hb => by
    have l := lt2 b hb
    exact ⟨⟨(upd_ne (by rw [← hD]; exact Nat.ne_of_lt l)).trans (f2 b hb).1, (f2 b hb).2⟩, by rw [h3, Heap.size_push]; exact Nat.lt_succ_of_lt l⟩
  have I4 := block_start I3 ok hN f3
  obtain ⟨pg, pt, pn⟩ := hg s3 (upd H2 D (.lst [])) s3.heap.objs.size (cellsFrom (s3.heap.objs.size + 1) scope.names (cloFrom X.env.cells scope.names [])) fp
  show codeAny _ _ (.compStart (.ListComp elt (⟨tg, iter, ifs, 0⟩ :: rest) scope pos) 0 (.ref it) (.ref D) (compEnvC scope (cellsFrom (s3.heap.objs.size + 1) scope.names (cloFrom X.env.cells scope.names [])) s3.heap.objs.size X.env)) _ { s3 with heap := pushCells (s3.heap.push { cls := .type "dict", data := .dict #[] }) scope.names }
  generalize hce : compEnvC scope (cellsFrom (s3.heap.objs.size + 1) scope.names (cloFrom X.env.cells scope.names [])) s3.heap.objs.size X.env = ce at I4 pg pt pn ⊢
  have cL : ce.locals = s3.heap.objs.size := by subst hce; rfl
  generalize hH3 : upd H2 D (.lst []) = H3 at I3 I4 pg pt pn w0 f3
  generalize hs4 : ({ s3 with heap := pushCells (s3.heap.push { cls := .type "dict", data := .dict #[] }) scope.names } : Shared) = s4 at I4 ⊢
  have st4 : tn 0 s4.heap := T.keep _ _ _ st2 fun b _ o z => by subst hs4; exact pushCells_keeps _ _ _ _ (Heap.get?_push_of_some _ (k3 b o z))
  have fB : ∀ b ∈ fp, FpOk (X.blk s3 H3 scope ce fp) [] H3 b := fun b hb =>
    ⟨(f3 b hb).1.1, (I4.ok.exf b hb).1, I4.ok.exfs b hb, .inl hb, fun x c z => (I4.ok.exf b hb).2 x c z, fun p hp => absurd (show p ∈ ([] : List (Addr × Obj)) ++ [] from hp) (by simp)⟩
  have lp := codeAny_mono (loop_ok (B := X.blk s3 H3 scope ce fp) (k := 0) (c := ⟨tg, iter, ifs, 0⟩) rfl hc rfl rfl (fun d z => hn d z) pg pt pn hv T fB turn I4 st4 (fun b hb => (f3 b hb).1.1) w0) (R' := compPost (model X.prog X.w) X.A X.xe use Qf (.ref D) s3.heap.objs.size) fun r s6 z => ?_
  · exact codeAny_compStart_list lp (T.self X.A 0 _ _ _ st4 lp)
  · cases r with
    | error e => exact z.elim
    | ok f =>
      obtain ⟨e, Hz, I6, qq⟩ := z
      subst e
      have I7 : Inv X pins σ Hz s6 := I3.call' (ch := fp) I6.os I6.base I6.hok I6.bare fun b hb => ⟨(f3 b hb).1.2.2.2.1, (f3 b hb).1.2.1, (f3 b hb).1.2.2.2.2.1, (f3 b hb).1.2.2.2.2.2⟩
      have nC : Hz s3.heap.objs.size = none := by rw [← cL]; exact I6.free
      obtain ⟨mm, hnn, _⟩ := I6.loc
      have hnn : s6.heap.Ns s3.heap.objs.size mm := by rw [← cL]; exact hnn
      exact hRR D _ s6 mm Hz I7 qq hnn (I3.fpOk (Nat.le_refl _) nC)
theorem pe_lcN (hc : X.calm = true) (hN : X.N.Nodup) (hi : PI X tg iter wi) (ok : BlkOk X.N X.env.scope scope own)
    (hg : ∀ (s : Shared) (H : Hp) (C : Addr) (cl : List (Str × Addr)) (fp : List Addr), PG (X.blk s H scope (compEnvC scope cl C X.env) fp) tg g ∧ PTs (X.blk s H scope (compEnvC scope cl C X.env) fp) ifs tt ∧ PIn (X.blk s H scope (compEnvC scope cl C X.env) fp) elt (⟨tg, iter, ifs, 0⟩ :: rest) scope pos 1 vs2 ti)
    (hv : ∀ i ∈ vs2, i ∈ own.map (·.2)) (hn : ∀ d, rest[0]? = some d → d.is_async = 0) (hs : ∀ x, foldedSetIterable iter X.env x = pure x) : PE X (.ListComp elt (⟨tg, iter, ifs, 0⟩ :: rest) scope pos) (tLcN wi g tt (own.map (·.2)) ti) := by
  refine ⟨fun pins s σ H Q I h => ?_⟩
  rw [eval_ListComp]
  refine lcN_core hc hN I hi ok hg hv hn hs h fun D C s' m H' I' q hn f => ⟨m, hn, fun h'' sb => ?_⟩
  obtain ⟨f0, f1, f2, f3, f4, f5⟩ := f
  exact ⟨.ref D, H', I'.turned (t' := s'.toks) (fun b o hb e => (sb.2 b hb).trans e) f0 f1 f3 f4 f5, rfl, q⟩
theorem ps_setLcN {i : Nat} {y : Str} {py spos : Pos} (hc : X.calm = true) (hN : X.N.Nodup) (hy : X.N[i]? = some y) (hyl : X.env.scope.names.lookup y = some .local)
    (hsw : swapsWith (.ListComp elt (⟨tg, iter, ifs, 0⟩ :: rest) scope pos) (some (.Name y py)) spos.line X.env = pure true) (hi : PI X tg iter wi) (ok : BlkOk X.N X.env.scope scope own)
    (hg : ∀ (s : Shared) (H : Hp) (C : Addr) (cl : List (Str × Addr)) (fp : List Addr), PG (X.blk s H scope (compEnvC scope cl C X.env) fp) tg g ∧ PTs (X.blk s H scope (compEnvC scope cl C X.env) fp) ifs tt ∧ PIn (X.blk s H scope (compEnvC scope cl C X.env) fp) elt (⟨tg, iter, ifs, 0⟩ :: rest) scope pos 1 vs2 ti)
    (hv : ∀ i ∈ vs2, i ∈ own.map (·.2)) (hn : ∀ d, rest[0]? = some d → d.is_async = 0) (hs : ∀ x, foldedSetIterable iter X.env x = pure x) :
    PS X (.Assign [.Name y py] (.ListComp elt (⟨tg, iter, ifs, 0⟩ :: rest) scope pos) spos) (tAsg (tLcN wi g tt (own.map (·.2)) ti) (gName i)) := by
  refine ⟨fun pins s σ H D I h => ?_⟩
  rw [exec_Assign_Name_used _ _ _ _ hsw]
  refine wpAny_bind (wpAny_standAt (wpAny_bind ?_))
  show wpAny _ X.A (do let _ ← comprehension (.ListComp elt (⟨tg, iter, ifs, 0⟩ :: rest) scope pos) scope X.env (firstIterPos (⟨tg, iter, ifs, 0⟩ :: rest) pos) (newList []) false (eval iter X.env) (some (assign (.Name y py) X.env))) _ _ s
  have h : tLcN wi g tt (own.map (·.2)) ti σ H (fun x H1 => gName i x σ H1 D.nx) := h
  refine wpAny_bind (thn (lcN_core (Qf := fun _ s' => SP X pins D .next s') hc hN I hi ok hg hv hn hs h fun L C s' m H' I' q hn f => ?_) fun _ s' hq => wpAny_pure (wpAny_pure hq))
  show wpAny _ _ (assign (.Name y py) X.env (.ref L)) _ _ _
  refine wpAny_assign_Name (store_ok2 (v := V.ref L) I' hN hy (.inl hyl) rfl (fun s2 I2 ⟨a, sb, ha⟩ => ?_) (.inr hyl))
  obtain ⟨f0, f1, f2, f3, f4, f5⟩ := f
  have haC : C ≠ a := by
    rcases ha with z | z
    · rw [z]; exact f1
    · exact fun e => f4 y a z e.symm
  refine ⟨m, hn.sameBut sb haC, fun h3 sb3 => ?_⟩
  exact ⟨_, H', I2.turned (t' := s2.toks) (fun b o hb e => (sb3.2 b hb).trans e) f0 f1 f3 f4 f5, q⟩
end
end CN

set_option Elab.async false
set_option linter.all false
set_option maxRecDepth 100000
set_option maxHeartbeats 2000000
/-! A dict comprehension whose keys are tuples. -/
namespace DcT
open PySem PySem.Spec PyProof.Rows L2
theorem put_tup {X : Cx} {pins : List (Addr × Obj)} {σ : L2.St} {H : Hp} {s : Shared} {E : Value → Shared → Prop} {D b : Addr} {kvs : List (List L2.Key × V)} {k : List L2.Key} {v : V} {r : Value} {Q : Unit → Shared → Prop} (hu : X.A.units < cLine)
    (I : Inv X pins σ H s) (hD : H D = some (.dT kvs)) (eb : H b = some (.tup (k.map kV))) (hz : kvs.length < sizeLine) (rv : RelV v r) (h : ∀ z, Inv X pins σ (L2.upd H D (.dT (putK kvs k v))) z → Q () z) : wpAny (model X.prog X.w) X.A (dictSet D (.ref b) r) Q E s := by
  obtain ⟨z, hd, xs, rel, dd⟩ := dt_of I.hok hD
  have hx : xs.length ≤ sizeLine := by rw [← Paired.length rel]; exact z
  have hl : (putK kvs k v).length ≤ sizeLine := Nat.le_trans (length_putK kvs k v) hz
  refine wpAny_dictSet_heap (hsz := hx) (knd := tupleKind (mixKind X.prog X.w)) (show X.A.units < cLine from hu) (key_of I.hok eb) dd fun h' dd' hs => h _ ?_
  obtain ⟨ob, ents, n, at_, exact_, dat, are, _, nodup⟩ := dd'
  refine d_write I (by rw [hD]; exact True.intro) hs ⟨ob, at_⟩ ⟨hl, hd, _, (rel.put k eb rv).keeps fun c ys ec => ?_, ob, ents, n, at_, exact_, dat, are, nodup⟩
  rw [upd_ne (ne_of ec hD (fun z => nomatch z))]
  exact ec
/-- D: the new dict -/
def tDcT (wi : TI) (g : TG) (tt : TT) (tk tv : TE) (vs : List Nat) : TE := fun σ H Q => wi σ H fun J H1 => ∀ D, H1 D = none → ∃ W : Nat → Nat → Hp → Prop, (∃ m, W 0 m (upd H1 D (.dT []))) ∧ ∀ i m H, W i m H →
  (J.stop i H ∧ Q (.ref D) H) ∨ (J.go i H ∧ ∃ N1 : Hp → Prop, (∀ Hz, N1 Hz → ∃ mz, mz < m ∧ W (i + 1) mz Hz) ∧ ∀ x Hy, J.yld i H x Hy → g x (wipe σ vs) Hy fun σ2 H2 => wipe σ2 vs = wipe σ vs ∧ tt σ2 H2 fun b H3 =>
    if b = true then tk σ2 H3 fun y H4 => tv σ2 H4 fun z H5 => ∃ kvs k b, y = .ref b ∧ H5 b = some (.tup (k.map kV)) ∧ H5 D = some (.dT kvs) ∧ kvs.length < sizeLine ∧ N1 (upd H5 D (.dT (putK kvs k z))) else N1 H3)
theorem pe_dcT {X : Cx} {kx vx tg iter : Expr} {ifs : List Expr} {scope : Scope} {own : List (Str × Nat)} {pos : Pos} {wi : TI} {g : TG} {tt : TT} {tk tv : TE} (hc : X.calm = true) (hN : X.N.Nodup) (hu : X.A.units < cLine) (hi : PI X tg iter wi) (ok : BlkOk X.N X.env.scope scope own)
    (hg : ∀ (s : Shared) (H : Hp) (C : Addr) (cl : List (Str × Addr)) (fp : List Addr), PG (X.blk s H scope (compEnvC scope cl C X.env) fp) tg g ∧ PTs (X.blk s H scope (compEnvC scope cl C X.env) fp) ifs tt ∧ PE (X.blk s H scope (compEnvC scope cl C X.env) fp) kx tk ∧ PE (X.blk s H scope (compEnvC scope cl C X.env) fp) vx tv)
    (hs : ∀ x, foldedSetIterable iter X.env x = pure x) : PE X (.DictComp kx vx [⟨tg, iter, ifs, 0⟩] scope pos) (tDcT wi g tt tk tv (own.map (·.2))) := by
  refine ⟨fun pins s σ H Q I h => ?_⟩
  rw [arm_eval_DictComp]
  have hf : ∀ y ∈ scope.names, y.2 = .free → ∃ c, X.env.cells.lookup y.1 = some c := fun y hy e => (ok.free y hy e).elim (fun z => I.ok.has _ (.inl z)) fun z => I.ok.has _ (.inr z)
  refine wpAny_comprehension_free (use := none) rfl hs (closure_ok hf) ok.kind (fun y hy e => by rw [ok.uniq y hy, e]) (thn (hi.run pins s σ H _ I h) fun xv s1 q1 => thn q1 fun itv s2 q2 => ?_)
  obtain ⟨it, fp, tn, J, H2, e, I2, T, st2, f2, q⟩ := q2
  subst e
  refine wpAny_newObj_type (newEnv_comp ?_)
  generalize hD : s2.heap.objs.size = D
  have fresh := I2.hok.fresh (Nat.le_of_eq hD)
  obtain ⟨W, ⟨m0, w0⟩, turn⟩ := q D fresh
  generalize hs3 : ({ s2 with heap := s2.heap.push { cls := .type "dict", data := .dict #[] } } : Shared) = s3
  have h3 : s3.heap = s2.heap.push { cls := .type "dict", data := .dict #[] } := by subst hs3; rfl
  have k3 : ∀ b o, s2.heap.get? b = some o → s3.heap.get? b = some o := fun b o z => by rw [h3]; exact Heap.get?_push_of_some _ z
  have I3 : Inv X pins σ (upd H2 D (.dT [])) s3 := by
    subst hs3
    exact I2.laid (t' := s2.toks) k3 (Nat.le_of_eq hD) (by rw [← hD]; exact dt_empty s2.heap I2.big)
  have lt2 : ∀ b ∈ fp, b < s2.heap.objs.size := fun b hb => (T.obj _ _ st2 b hb).elim fun o z => Heap.lt_size z.1
  have f3 : ∀ b ∈ fp, FpOk X pins (upd H2 D (.dT [])) b ∧ b < s3.heap.objs.size := fun b hb => by
    have l := lt2 b hb
    exact ⟨⟨(upd_ne (by rw [← hD]; exact Nat.ne_of_lt l)).trans (f2 b hb).1, (f2 b hb).2⟩, by rw [h3, Heap.size_push]; exact Nat.lt_succ_of_lt l⟩
  have I4 := block_start I3 ok hN f3
  obtain ⟨pg, pt, pk, pv⟩ := hg s3 (upd H2 D (.dT [])) s3.heap.objs.size (cellsFrom (s3.heap.objs.size + 1) scope.names (cloFrom X.env.cells scope.names [])) fp
  show codeAny _ _ (.compStart (.DictComp kx vx [⟨tg, iter, ifs, 0⟩] scope pos) 0 (.ref it) (.ref D) (compEnvC scope (cellsFrom (s3.heap.objs.size + 1) scope.names (cloFrom X.env.cells scope.names [])) s3.heap.objs.size X.env)) _ { s3 with heap := pushCells (s3.heap.push { cls := .type "dict", data := .dict #[] }) scope.names }
  generalize hce : compEnvC scope (cellsFrom (s3.heap.objs.size + 1) scope.names (cloFrom X.env.cells scope.names [])) s3.heap.objs.size X.env = ce at I4 pg pt pk pv ⊢
  have cL : ce.locals = s3.heap.objs.size := by subst hce; rfl
  generalize hH3 : upd H2 D (.dT []) = H3 at I3 I4 pg pt pk pv w0 f3
  generalize hs4 : ({ s3 with heap := pushCells (s3.heap.push { cls := .type "dict", data := .dict #[] }) scope.names } : Shared) = s4 at I4 ⊢
  have st4 : tn 0 s4.heap := T.keep _ _ _ st2 fun b _ o z => by subst hs4; exact pushCells_keeps _ _ _ _ (Heap.get?_push_of_some _ (k3 b o z))
  have stat : ∀ {Hz : Hp} {σz : L2.St} {z : Shared}, Inv (X.blk s3 H3 scope ce fp) [] σz Hz z → (∀ b ∈ fp, Hz b = none) → ∀ b ∈ fp, FpOk (X.blk s3 H3 scope ce fp) [] Hz b := fun J n b hb =>
    ⟨n b hb, (J.ok.exf b hb).1, J.ok.exfs b hb, .inl hb, fun x c z => (J.ok.exf b hb).2 x c z, fun p hp => absurd (show p ∈ ([] : List (Addr × Obj)) ++ [] from hp) (by simp)⟩
  have lp : codeAny (model X.prog X.w) X.A (.compLoop (.DictComp kx vx [⟨tg, iter, ifs, 0⟩] scope pos) 0 (.ref it) (.ref D) ce) (compPost (model X.prog X.w) X.A X.xe none (EP X pins σ Q) (.ref D) s3.heap.objs.size) s4 := by
    refine compLoop_anyD (fun n z => ∃ i Hz, Inv (X.blk s3 H3 scope ce fp) [] (wipe σ (own.map (·.2))) Hz z ∧ tn i z.heap ∧ (∀ b ∈ fp, Hz b = none) ∧ W i n Hz) (fun n s5 hI => ?_) m0 ⟨0, H3, I4, st4, fun b hb => (f3 b hb).1.1, w0⟩
    obtain ⟨i, H5, I5, st5, n5, w5⟩ := hI
    rcases turn i n H5 w5 with ⟨stop, qq⟩ | ⟨go, N1, hN1, step⟩
    · refine thnF (T.done (X.blk s3 H3 scope ce fp) rfl rfl rfl hc i [] s5 _ H5 (fun _ _ => False) I5 (stat I5 n5) st5 stop) fun r s6 z => ?_
      obtain ⟨hr, I6⟩ := z
      subst hr
      have I7 : Inv X pins σ H5 s6 := I3.call' (ch := fp) I6.os I6.base I6.hok I6.bare fun b hb => ⟨(f3 b hb).1.2.2.2.1, (f3 b hb).1.2.1, (f3 b hb).1.2.2.2.2.1, (f3 b hb).1.2.2.2.2.2⟩
      have nC : H5 s3.heap.objs.size = none := by rw [← cL]; exact I6.free
      obtain ⟨mm, hnn, _⟩ := I6.loc
      have hnn : s6.heap.Ns s3.heap.objs.size mm := by rw [← cL]; exact hnn
      obtain ⟨f0, f1, f2, f3, f4, f5⟩ := I3.fpOk (Nat.le_refl _) nC
      exact ⟨mm, hnn, fun hh sb => ⟨.ref D, H5, I7.turned (t' := s6.toks) (fun b o hb z => (sb.2 b hb).trans z) f0 f1 f3 f4 f5, rfl, qq⟩⟩
    · refine thnF (T.item (X.blk s3 H3 scope ce fp) rfl rfl rfl hc i [] s5 _ H5 (fun _ _ => False) I5 (stat I5 n5) st5 go) fun r s6 z => ?_
      obtain ⟨u, hr, h6⟩ := z
      subst hr
      refine thnF h6 fun _ s7 z => ?_
      obtain ⟨x, H7, I7, r7, y7, st7, n7⟩ := z
      refine thnF (pg.run _ s7 _ H7 x u _ (I7.pinned (stat I7 n7) (T.obj _ _ st7)) r7 (step x H7 y7)) fun _ s8 z => ?_
      obtain ⟨σ8, H8, I8, hw8, q8⟩ := z
      refine thnF (pt.run _ s8 σ8 H8 _ I8 q8) fun b s9 z => ?_
      obtain ⟨H9, I9, q9⟩ := z
      have fin : ∀ {z : Shared} {Hz : Hp}, Inv (X.blk s3 H3 scope ce fp) ([] ++ pinsAt fp s7.heap) σ8 Hz z → N1 Hz → ∃ mz, mz < n ∧ ∃ i Hy, Inv (X.blk s3 H3 scope ce fp) [] (wipe σ (own.map (·.2))) Hy z ∧ tn i z.heap ∧ (∀ b ∈ fp, Hy b = none) ∧ W i mz Hy := by
        intro z Hz Iz nz
        obtain ⟨mz, hm, wz⟩ := hN1 Hz nz
        have pin : ∀ b ∈ fp, ∀ o, s7.heap.get? b = some o → z.heap.get? b = some o ∧ Hz b = none := by
          intro b hb o e
          have a := Iz.pin (b, o) (List.mem_append_right _ (List.mem_append_right _ (mem_pinsAt hb e)))
          exact ⟨a.1, a.2.1⟩
        refine ⟨mz, hm, i + 1, Hz, (Iz.unpinned (pins := [])).weak (by rw [← hw8, wipe_length]) (fun j v e => ?_), T.keep _ _ _ st7 (fun b hb o e => (pin b hb o e).1), fun b hb => ?_, wz⟩
        · rw [← hw8] at e
          exact (wipe_some e).1
        · obtain ⟨o, e, _⟩ := T.obj _ _ st7 b hb
          exact (pin b hb o e).2
      cases b with
      | false =>
        rw [if_neg Bool.false_ne_true] at q9 ⊢
        exact fin I9 q9
      | true =>
        rw [if_pos rfl] at q9 ⊢
        refine thnF (pk.run _ s9 σ8 H9 _ I9 q9) fun ku s10 z => ?_
        obtain ⟨yk, H10, I10, r10, q10⟩ := z
        refine thnF (pv.run _ s10 σ8 H10 _ I10 q10) fun vu s11 z => ?_
        obtain ⟨yv, H11, I11, r11, kvs, k, kb, ek, hkb, hD11, hz11, nx⟩ := z
        subst ek
        obtain rfl : ku = Value.ref kb := r10
        exact put_tup (X := X.blk s3 H3 scope ce fp) hu I11 hD11 hkb hz11 r11 fun s12 I12 => fin I12 nx
  exact codeAny_compStart_dict lp (T.self X.A 0 _ _ _ st4 lp)
end DcT

set_option Elab.async false
set_option linter.all false
set_option maxRecDepth 100000
set_option maxHeartbeats 8000000
namespace Hd
open PySem L2 Pen RG Dat KEq
abbrev sRT : Stmt := top 50
/-! ### tables: rows by (name, key) -/
abbrev Z := Str × Str
abbrev kp := KSrt.kp
def lk : List (Z × Int) → Z → Option Int
  | [], _ => none
  | e :: t, z => if e.1 = z then some e.2 else lk t z
def tput : List (Z × Int) → Z → Int → List (Z × Int)
  | [], z, v => [(z, v)]
  | e :: t, z, v => if e.1 = z then (z, v) :: t else e :: tput t z v
abbrev ent (e : Z × Int) : List L2.Key × V := (kp e.1, .int e.2)
theorem kp_inj {a b : Z} (h : kp a = kp b) : a = b := by
  obtain ⟨a1, a2⟩ := a
  obtain ⟨b1, b2⟩ := b
  simp only [KSrt.kp, List.cons.injEq, Sum.inr.injEq, and_true] at h
  rw [h.1, h.2]
theorem val_ent : ∀ (t : List (Z × Int)) (z : Z), valV (t.map ent) (kp z) = (lk t z).map V.int
  | [], _ => rfl
  | e :: t, z => by
    by_cases h : e.1 = z
    · have q : lk (e :: t) z = some e.2 := if_pos h
      rw [q, List.map_cons, valV_pos (show (ent e).1 = kp z by rw [← h])]
      rfl
    · have q : lk (e :: t) z = lk t z := if_neg h
      rw [q, List.map_cons, valV_neg (fun y => h (kp_inj y)), val_ent t z]
theorem lk_none : ∀ {t : List (Z × Int)} {z : Z}, lk t z = none → z ∉ t.map (·.1)
  | [], _, _ => by simp
  | e :: t, z, h => by
    by_cases q : e.1 = z
    · rw [show lk (e :: t) z = some e.2 from if_pos q] at h
      cases h
    · rw [show lk (e :: t) z = lk t z from if_neg q] at h
      rw [List.map_cons, List.mem_cons]
      exact fun y => y.elim (fun y => q y.symm) (lk_none h)
theorem lk_some : ∀ {t : List (Z × Int)} {z : Z}, z ∈ t.map (·.1) → ∃ v, lk t z = some v ∧ (z, v) ∈ t
  | e :: t, z, h => by
    by_cases q : e.1 = z
    · exact ⟨e.2, if_pos q, by rw [← q]; exact List.mem_cons_self⟩
    · rw [List.map_cons, List.mem_cons] at h
      obtain ⟨v, a, b⟩ := lk_some (h.resolve_left fun y => q y.symm)
      exact ⟨v, by rw [show lk (e :: t) z = lk t z from if_neg q]; exact a, List.mem_cons_of_mem _ b⟩
theorem tput_keys : ∀ (t : List (Z × Int)) (z : Z) (v : Int), (tput t z v).map (·.1) = if z ∈ t.map (·.1) then t.map (·.1) else t.map (·.1) ++ [z]
  | [], z, v => by simp [tput]
  | e :: t, z, v => by
    by_cases q : e.1 = z
    · rw [show tput (e :: t) z v = (z, v) :: t from if_pos q, if_pos (by rw [List.map_cons, q]; exact List.mem_cons_self), List.map_cons, List.map_cons, q]
    · rw [show tput (e :: t) z v = e :: tput t z v from if_neg q, List.map_cons, tput_keys t z v]
      by_cases m : z ∈ t.map (·.1)
      · rw [if_pos m, if_pos (by rw [List.map_cons]; exact List.mem_cons_of_mem _ m), List.map_cons]
      · rw [if_neg m, if_neg (by rw [List.map_cons, List.mem_cons]; exact fun y => y.elim (fun y => q y.symm) m), List.map_cons, List.cons_append]
theorem tput_nodup {t : List (Z × Int)} {z : Z} {v : Int} (h : (t.map (·.1)).Nodup) : ((tput t z v).map (·.1)).Nodup := by
  rw [tput_keys]
  by_cases m : z ∈ t.map (·.1)
  · rw [if_pos m]
    exact h
  · rw [if_neg m]
    refine List.nodup_append.mpr ⟨h, List.nodup_cons.mpr ⟨by simp, List.nodup_nil⟩, fun a ha b hb e => ?_⟩
    have : b = z := by simpa using hb
    rw [e, this] at ha
    exact m ha
theorem map_same (z : Z) (v : V) : ∀ (t : List (Z × Int)), z ∉ t.map (·.1) → (t.map ent).map (fun kv => if kv.1 = kp z then (kv.1, v) else kv) = t.map ent
  | [], _ => rfl
  | e :: t, h => by
    rw [List.map_cons, List.mem_cons] at h
    rw [List.map_cons, List.map_cons, map_same z v t (fun y => h (.inr y))]
    have n : ¬ (ent e).1 = kp z := fun y => h (.inl (kp_inj y).symm)
    rw [if_neg n]
theorem put_ent : ∀ (t : List (Z × Int)) (z : Z) (v : Int), (t.map (·.1)).Nodup → putK (t.map ent) (kp z) (.int v) = (tput t z v).map ent := by
  intro t z v nd
  unfold putK
  rw [valV_any, val_ent]
  by_cases m : z ∈ t.map (·.1)
  · obtain ⟨w, hw, hm⟩ := lk_some m
    rw [hw, Option.map_some, Option.isSome_some, if_pos rfl]
    clear hw hm
    induction t with
    | nil => cases m
    | cons e t ih =>
      rw [List.map_cons, List.nodup_cons] at nd
      by_cases q : e.1 = z
      · rw [show tput (e :: t) z v = (z, v) :: t from if_pos q, List.map_cons, List.map_cons, List.map_cons, map_same z _ t (by rw [← q]; exact nd.1), if_pos (show (ent e).1 = kp z by rw [← q])]
        show (kp e.1, V.int v) :: _ = (kp z, V.int v) :: _
        rw [q]
      · rw [List.map_cons, List.mem_cons] at m
        rw [show tput (e :: t) z v = e :: tput t z v from if_neg q, List.map_cons, List.map_cons, List.map_cons, ih nd.2 (m.resolve_left fun y => q y.symm), if_neg (fun y => q (kp_inj y))]
  · have hn : lk t z = none := by
      cases q : lk t z with
      | none => rfl
      | some w =>
        exfalso
        clear nd
        induction t with
        | nil => cases q
        | cons e t ih =>
          rw [List.map_cons, List.mem_cons] at m
          by_cases y : e.1 = z
          · exact m (.inl y.symm)
          · rw [show lk (e :: t) z = lk t z from if_neg y] at q
            exact ih (fun h => m (.inr h)) q
    rw [hn, if_neg (by simp)]
    have e : tput t z v = t ++ [(z, v)] := by
      clear hn nd
      induction t with
      | nil => rfl
      | cons e t ih =>
        rw [List.map_cons, List.mem_cons] at m
        rw [show tput (e :: t) z v = e :: tput t z v from if_neg fun y => m (.inl y.symm), ih fun h => m (.inr h)]
        rfl
    rw [e, List.map_append]
    rfl
theorem keys_ent (t : List (Z × Int)) : (t.map ent).map (·.1) = (t.map (·.1)).map kp := by rw [List.map_map, List.map_map]; rfl
/-- the keys, ascending -/
structure Srt (ks zs : List Z) : Prop where
  perm : zs.Perm ks
  nd : ks.Nodup
  up : zs.Pairwise fun a b => KSrt.lt2 b a = false
/-- one order alone is ascending -/
theorem Srt.one : ∀ {ks zs ys : List Z}, Srt ks zs → Srt ks ys → zs = ys := by
  intro ks zs
  induction zs generalizing ks with
  | nil =>
    intro ys a b
    have e : ks = [] := List.Perm.eq_nil (a.perm.symm)
    have := b.perm
    rw [e] at this
    exact (List.Perm.eq_nil this).symm
  | cons z zs ih =>
    intro ys a b
    cases ys with
    | nil =>
      have e : ks = [] := List.Perm.eq_nil (b.perm.symm)
      have := a.perm
      rw [e] at this
      exact List.Perm.eq_nil this
    | cons y ys =>
      have pz := List.pairwise_cons.mp a.up
      have py := List.pairwise_cons.mp b.up
      have zy : z = y := by
        have m1 : y ∈ z :: zs := a.perm.mem_iff.mpr (b.perm.mem_iff.mp List.mem_cons_self)
        have m2 : z ∈ y :: ys := b.perm.mem_iff.mpr (a.perm.mem_iff.mp List.mem_cons_self)
        rcases List.mem_cons.mp m1 with e | m1
        · exact e.symm
        rcases List.mem_cons.mp m2 with e | m2
        · exact e
        exact KSrt.lt2_total (py.1 z m2) (pz.1 y m1)
      subst zy
      have p : zs.Perm ys := List.Perm.cons_inv (a.perm.trans b.perm.symm)
      have nd : (z :: ys).Nodup := b.perm.nodup_iff.mpr b.nd
      rw [ih (ks := ys) ⟨p, (List.nodup_cons.mp nd).2, pz.2⟩ ⟨.refl _, (List.nodup_cons.mp nd).2, py.2⟩]
/-- rows as they are told -/
def rowsOf (t : List (Z × Int)) (zs : List Z) : List (Z × Int) := (zs.filter fun z => decide ((lk t z).getD 0 ≠ 0)).map fun z => (z, (lk t z).getD 0)
/-- a row: its key at c -/
def RowT (H : Hp) (e : Z × Int) (r : Addr) : Prop := ∃ c, H r = some (.tup [.ref c, .int e.2]) ∧ H c = some (.tup [.str e.1.1, .str e.1.2])
theorem RowT.same {H G : Hp} {e : Z × Int} {r : Addr} (s : Same H G) (x : RowT H e r) : RowT G e r := by
  obtain ⟨c, a, b⟩ := x
  exact ⟨c, s _ _ a, s _ _ b⟩
theorem rows_same {H G : Hp} (s : Same H G) : ∀ {L : List (Z × Int)} {ts : List Addr}, Paired (RowT H) L ts → Paired (RowT G) L ts
  | _, _, .nil => .nil
  | _, _, .cons a r => .cons (a.same s) (rows_same s r)
/-- the rows L at r, a tuple of the class itself -/
def RowsAt (H : Hp) (r : Addr) (L : List (Z × Int)) : Prop := ∃ ts : List Addr, DpT.TupF H r (ts.map V.ref) ∧ Paired (RowT H) L ts
theorem RowsAt.same {H G : Hp} {r : Addr} {L : List (Z × Int)} (s : Same H G) (x : RowsAt H r L) : RowsAt G r L := by
  obtain ⟨ts, ⟨o, a, b, c⟩, p⟩ := x
  exact ⟨ts, ⟨o, a, b, s _ _ c⟩, rows_same s p⟩
theorem rowsOf_snoc (t : List (Z × Int)) (zs : List Z) (z : Z) : rowsOf t (zs ++ [z]) = if (lk t z).getD 0 ≠ 0 then rowsOf t zs ++ [(z, (lk t z).getD 0)] else rowsOf t zs := by
  unfold rowsOf
  by_cases h : (lk t z).getD 0 ≠ 0
  · rw [if_pos h, List.filter_append, List.map_append, List.filter_cons_of_pos (by simpa using h)]
    rfl
  · rw [if_neg h, List.filter_append, List.map_append, List.filter_cons_of_neg (by simpa using h)]
    simp
theorem pget {α β : Type} {F : α → β → Prop} : ∀ {xs : List α} {ys : List β} {i : Nat} {y : β}, Paired F xs ys → ys[i]? = some y → ∃ x, xs[i]? = some x ∧ F x y
  | _, _, _, _, .nil, h => by cases h
  | _, _, 0, _, .cons a r, h => by
    have e := Option.some.inj h
    subst e
    exact ⟨_, rfl, a⟩
  | _, _, i + 1, _, .cons a r, h => pget (i := i) r h
theorem rows_put {G : Hp} {D : Addr} {xs ys : List V} (e : G D = some (.lst xs)) : ∀ {L : List (Z × Int)} {ts : List Addr}, Paired (RowT G) L ts → Paired (RowT (upd G D (.lst ys))) L ts
  | _, _, .nil => .nil
  | _, _, .cons a r => by
    refine .cons ?_ (rows_put e r)
    obtain ⟨c, a1, a2⟩ := a
    exact ⟨c, (upd_ne (ne_of a1 e (by intro z; cases z))).trans a1, (upd_ne (ne_of a2 e (by intro z; cases z))).trans a2⟩
theorem paired_snoc {α β : Type} {F : α → β → Prop} {x : α} {y : β} (h : F x y) : ∀ {xs : List α} {ys : List β}, Paired F xs ys → Paired F (xs ++ [x]) (ys ++ [y])
  | _, _, .nil => .cons h .nil
  | _, _, .cons a r => .cons a (paired_snoc h r)
theorem paired_length {α β : Type} {F : α → β → Prop} : ∀ {xs : List α} {ys : List β}, Paired F xs ys → xs.length = ys.length
  | _, _, .nil => rfl
  | _, _, .cons _ r => congrArg (· + 1) (paired_length r)
theorem rowsOf_len (t : List (Z × Int)) (zs : List Z) : (rowsOf t zs).length ≤ zs.length := by
  unfold rowsOf
  rw [List.length_map]
  exact List.length_filter_le _ _
def spRT : Sp := fun vs H Q _ => ∃ (d : Addr) (t : List (Z × Int)), vs = [.ref d] ∧ H d = some (.dT (t.map ent)) ∧ t.length ≤ 900 ∧ (t.map (·.1)).Nodup ∧ ∀ zs r H', Srt (t.map (·.1)) zs → Same H H' → RowsAt H' r (rowsOf t zs) → Q (.ref r) H'
structure TxtS (mg : Str → Option Value) : Prop where
  tuple : mg "tuple" = none
  sorted : mg "sorted" = none
section
variable {P : Program} {w : World} {K : PySem.W.Frag} {mg : Str → Option Value} {base : Heap}
theorem scRT : FnScope ["_law_found", "_law_cell"] ["_law_found"] (defScope sRT) := ⟨rfl, rfl, rfl, by decide +kernel, rfl, by decide +kernel, by decide +kernel⟩
theorem ok_rt {f : Addr} {fd : FuncData} (F : Fun K "_law_row_tuple" "_law_row_tuple" sRT f fd) (T : TxtS mg) : FnOk P w K mg base CX0 1 f fd ["_law_found"] spRT := by
  refine F.ok scRT (fun vs H Q E h => ?_) (fun cdv A outer s H vs Q E hr h => ?_)
  · obtain ⟨d, t, rfl, _⟩ := h
    rfl
  · obtain ⟨d, t, rfl, hd, hl, nd, k⟩ := h
    have hu := hu_of hr
    refine ⟨_, (pss_one (ps_ret (pe_callTy DpT.call_tupleF (by rfl) T.tuple (by decide +kernel) (pa_cons (pe_lc (own := [("_law_cell", 1)]) (g := gName 1) (tt := (tTest (tOp rNe (tDGet (tVar 0) (tVar 1)) (tC (.int 0))))) (te := (Ab.tTupA (tCons (tVar 1) (tCons (tDGet (tVar 0) (tVar 1)) tNil)))) rfl scRT.nd (pi_list (pe_callB (KSrt.call_sortedT rfl) (by rfl) T.sorted (by decide +kernel) (pa_cons (pv 0) pa_nil))) (blkOk_by (N := ["_law_found", "_law_cell"]) (sc := defScope sRT) (by decide +kernel)) (fun _ _ _ _ _ => by exact (pg_name (i := 1) scRT.nd rfl (Or.inl rfl))) (fun _ _ _ _ _ => by exact pts_one (pt_cmpR op_ne (pe_dget hu (pv 0) (pv 1) (fun _ _ => rfl)) pe_int (nomark _))) (fun _ _ _ _ _ => by exact (Ab.pe_tupA (pa_cons (pv 1) (pa_cons (pe_dget hu (pv 0) (pv 1) (fun _ _ => rfl)) pa_nil))))) pa_nil)))), ?_⟩
    refine ⟨_, rfl, d, t.map ent, t.map (·.1), rfl, .inl hd, keys_ent t, by rw [List.length_map]; omega, fun p zs cs np pm nds up pr => ⟨p, rfl, ⟨_, SqL.of upd_same⟩, fun D hD => ?_⟩⟩
    have s0 : Same H (upd H p (.lst (cs.map V.ref))) := same_new np
    have lz : zs.length = t.length := by rw [pm.length_eq, List.length_map]
    have lc : zs.length = cs.length := paired_length pr
    refine lc_list (K := K) (a := p) (xs := cs.map V.ref) (fun i G => ∃ ts : List Addr, G D = some (.lst (ts.map V.ref)) ∧ Paired (RowT G) (rowsOf t (zs.take i)) ts ∧ Same (upd H p (.lst (cs.map V.ref))) G) ⟨[], upd_same, .nil, same_new hD⟩ (fun i G _ h => ?_) (fun i x G hx h => ?_) (fun G h => ?_)
    · obtain ⟨ts, _, _, s1⟩ := h
      exact SqL.of (s1 _ _ upd_same)
    · obtain ⟨ts, eD, rows, s1⟩ := h
      obtain ⟨c, hc, rfl⟩ : ∃ c, cs[i]? = some c ∧ V.ref c = x := by
        rw [List.getElem?_map] at hx
        obtain ⟨c, a, b⟩ := Option.map_eq_some_iff.mp hx
        exact ⟨c, a, b⟩
      obtain ⟨z, hz, hcz⟩ := pget pr hc
      have ec : G c = some (.tup [.str z.1, .str z.2]) := s1 _ _ (s0 _ _ hcz)
      have ed : G d = some (.dT (t.map ent)) := s1 _ _ (s0 _ _ hd)
      obtain ⟨v, hv, _⟩ := lk_some (t := t) (z := z) (pm.mem_iff.mp (List.mem_of_getElem? hz))
      have dg : ∀ {G2 : Hp}, Same G G2 → DGet G2 d (.ref c) (some (.int v)) := fun {G2} s2 => by
        have q := DGet.t (k := kp z) (s2 _ _ ed) (s2 _ _ ec)
        rw [val_ent, hv] at q
        exact q
      have tk : zs.take (i + 1) = zs.take i ++ [z] := take_more hz
      have il : i < 1000 := by
        have := (List.getElem?_eq_some_iff.mp hz).1
        omega
      have tl : ts.length ≤ 1000 := by
        have a := rowsOf_len t (zs.take i)
        rw [paired_length rows, List.length_take] at a
        omega
      refine ⟨rfl, _, rfl, _, rfl, d, _, rfl, dg (.refl G), rfl, _, rfl, ite2 (fun h1 => ?_) (fun h1 => ?_)⟩
      · have nz : (lk t z).getD 0 ≠ 0 := by
          rw [hv]
          intro e
          have e : v = 0 := e
          rw [e] at h1
          exact absurd h1 (by simp)
        refine ⟨_, rfl, _, rfl, _, rfl, d, _, rfl, dg (.refl G), sz (by simp), fun r G2 n2 s2 e2 => ⟨ts.map V.ref, s2 _ _ eD, ?_, ts ++ [r], ?_, ?_, ?_⟩⟩
        · rw [List.length_map]
          exact Nat.lt_of_le_of_lt tl (by decide)
        · rw [upd_same, List.map_append]
          rfl
        · rw [tk, rowsOf_snoc, if_pos nz]
          refine paired_snoc ?_ (rows_put (s2 _ _ eD) (rows_same s2 rows))
          rw [hv]
          exact ⟨c, (upd_ne (ne_of e2 (s2 _ _ eD) (by intro y; cases y))).trans e2, (upd_ne (ne_of (s2 _ _ ec) (s2 _ _ eD) (by intro y; cases y))).trans (s2 _ _ ec)⟩
        · intro b o y
          rw [upd_ne (ne_of_none y hD)]
          exact s2 _ _ (s1 _ _ y)
      · have nz : ¬ (lk t z).getD 0 ≠ 0 := by
          rw [hv]
          intro e
          have e : v ≠ 0 := e
          exact h1 (by simpa using e)
        exact ⟨ts, eD, by rw [tk, rowsOf_snoc, if_neg nz]; exact rows, s1⟩
    · obtain ⟨ts, eD, rows, s1⟩ := h
      rw [List.length_map, ← lc, List.take_length] at rows
      refine ⟨D, ts.map V.ref, rfl, SqL.of eD, fun l o nl oc od => k zs l _ ⟨pm, nds, up⟩ (s0.trans (s1.trans (same_new nl))) ⟨ts, ⟨o, oc, od, upd_same⟩, rows_same (same_new nl) rows⟩⟩
end
end Hd

set_option Elab.async false
set_option linter.all false
set_option maxRecDepth 100000
set_option maxHeartbeats 8000000
namespace Hd
open PySem L2 Pen RG Dat KEq
abbrev sRows : Stmt := top 49
/-- words, values within the bounds -/
def TbOk (t : List (Z × Int)) : Prop := ∀ e ∈ t, isWord (.str e.1.1) = true ∧ isWord (.str e.1.2) = true ∧ -99 ≤ e.2 ∧ e.2 ≤ 99
structure RowsOk (L : List (Z × Int)) : Prop where
  ok : TbOk L
  nz : ∀ e ∈ L, e.2 ≠ 0
  up : L.Pairwise fun a b => KSrt.lt2 a.1 b.1 = true
theorem TbOk.put {t : List (Z × Int)} {z : Z} {v : Int} (h : TbOk t) (w1 : isWord (.str z.1) = true) (w2 : isWord (.str z.2) = true) (v0 : -99 ≤ v) (v1 : v ≤ 99) : TbOk (tput t z v) := by
  induction t with
  | nil =>
    intro e he
    have : e = (z, v) := by simpa [tput] using he
    rw [this]
    exact ⟨w1, w2, v0, v1⟩
  | cons a t ih =>
    intro e he
    have ht : TbOk t := fun x hx => h x (List.mem_cons_of_mem _ hx)
    by_cases q : a.1 = z
    · rw [show tput (a :: t) z v = (z, v) :: t from if_pos q] at he
      rcases List.mem_cons.mp he with y | y
      · rw [y]
        exact ⟨w1, w2, v0, v1⟩
      · exact ht e y
    · rw [show tput (a :: t) z v = a :: tput t z v from if_neg q] at he
      rcases List.mem_cons.mp he with y | y
      · rw [y]
        exact h a List.mem_cons_self
      · exact ih ht e y
theorem tput_len (t : List (Z × Int)) (z : Z) (v : Int) : (tput t z v).length ≤ t.length + 1 := by
  have e := congrArg List.length (tput_keys t z v)
  rw [List.length_map] at e
  rw [e]
  split
  · rw [List.length_map]
    omega
  · rw [List.length_append, List.length_map]
    exact Nat.le_refl _
theorem lk_val {t : List (Z × Int)} {z : Z} {v : Int} (h : TbOk t) (e : lk t z = some v) : isWord (.str z.1) = true ∧ isWord (.str z.2) = true ∧ -99 ≤ v ∧ v ≤ 99 := by
  have m : z ∈ t.map (·.1) := by
    apply Classical.byContradiction
    intro n
    have : lk t z = none := by
      clear h e
      induction t with
      | nil => rfl
      | cons a t ih =>
        rw [List.map_cons, List.mem_cons] at n
        rw [show lk (a :: t) z = lk t z from if_neg fun y => n (.inl y.symm)]
        exact ih fun y => n (.inr y)
    rw [this] at e
    cases e
  obtain ⟨w, a, b⟩ := lk_some m
  rw [a] at e
  cases e
  exact h _ b
theorem rows_ok {t : List (Z × Int)} {zs : List Z} (h : TbOk t) (s : Srt (t.map (·.1)) zs) : RowsOk (rowsOf t zs) := by
  have nd : zs.Nodup := s.perm.nodup_iff.mpr s.nd
  have val : ∀ e ∈ rowsOf t zs, e.1 ∈ zs ∧ (lk t e.1).getD 0 = e.2 ∧ e.2 ≠ 0 := by
    intro e he
    obtain ⟨z, hz, rfl⟩ := List.mem_map.mp he
    obtain ⟨a, b⟩ := List.mem_filter.mp hz
    exact ⟨a, rfl, of_decide_eq_true b⟩
  refine ⟨fun e he => ?_, fun e he => (val e he).2.2, ?_⟩
  · obtain ⟨a, b, c⟩ := val e he
    obtain ⟨v, hv, _⟩ := lk_some (s.perm.mem_iff.mp a)
    rw [hv] at b
    have b : v = e.2 := b
    rw [← b]
    exact lk_val h hv
  · unfold rowsOf
    rw [List.pairwise_map]
    have strict : zs.Pairwise fun a b => KSrt.lt2 a b = true := by
      have both : zs.Pairwise fun a b => a ≠ b ∧ KSrt.lt2 b a = false := List.pairwise_and_iff.mpr ⟨nd, s.up⟩
      refine both.imp fun {a b} y => ?_
      cases q : KSrt.lt2 a b with
      | true => rfl
      | false => exact absurd (KSrt.lt2_total q y.2) y.1
    exact strict.filter _
/-- names and keys of rows are drawn words -/
def CellIn (A B : List Str) (t : List (Z × Int)) : Prop := ∀ e ∈ t, e.1.1 ∈ A ∧ e.1.2 ∈ B
theorem CellIn.put {A B : List Str} {t : List (Z × Int)} {z : Z} {v : Int} (h : CellIn A B t) (h1 : z.1 ∈ A) (h2 : z.2 ∈ B) : CellIn A B (tput t z v) := by
  intro e he
  have m : e.1 ∈ (tput t z v).map (·.1) := List.mem_map.mpr ⟨e, he, rfl⟩
  rw [tput_keys] at m
  have old : e.1 ∈ t.map (·.1) → e.1.1 ∈ A ∧ e.1.2 ∈ B := fun y => by
    obtain ⟨x, hx, ex⟩ := List.mem_map.mp y
    have := h x hx
    rw [ex] at this
    exact this
  split at m
  · exact old m
  · rcases List.mem_append.mp m with y | y
    · exact old y
    · rw [List.mem_singleton.mp y]
      exact ⟨h1, h2⟩
theorem cell_rows {A B : List Str} {t : List (Z × Int)} {zs : List Z} (s : Srt (t.map (·.1)) zs) (h : CellIn A B t) : CellIn A B (rowsOf t zs) := by
  intro e he
  obtain ⟨z, hz, rfl⟩ := List.mem_map.mp he
  obtain ⟨x, hx, ex⟩ := List.mem_map.mp (s.perm.mem_iff.mp (List.mem_filter.mp hz).1)
  have := h x hx
  rw [ex] at this
  exact this
/-- the walk's state: the slots, the table at d of at most m rows, the pen -/
structure RwSt (A B : List Str) (H : Hp) (p c l1 l2 d : Addr) (ns : List Int) (b m : Nat) (σ : L2.St) (G : Hp) : Prop where
  ln : σ.length = 6
  s0 : σ[0]? = some (some (.ref p))
  s1 : σ[1]? = some (some (.ref l1))
  s2 : σ[2]? = some (some (.ref l2))
  s3 : σ[3]? = some (some (.ref d))
  pen : PenAt G p c ns (b + 8 * m)
  tab : ∃ t : List (Z × Int), G d = some (.dT (t.map ent)) ∧ t.length ≤ m ∧ (t.map (·.1)).Nodup ∧ TbOk t ∧ CellIn A B t
  fr : SameX p H G
theorem RwSt.set {A B : List Str} {H G : Hp} {p c l1 l2 d : Addr} {ns : List Int} {b m i : Nat} {σ : L2.St} {v : V} (x : RwSt A B H p c l1 l2 d ns b m σ G) (h : 4 ≤ i) : RwSt A B H p c l1 l2 d ns b m (σ.set i (some v)) G := by
  obtain ⟨a, b0, b1, b2, b3, q, q2, q3⟩ := x
  have n : ∀ j, j < 4 → (σ.set i (some v))[j]? = σ[j]? := fun j hj => List.getElem?_set_ne (by omega)
  exact ⟨by rw [List.length_set]; exact a, by rw [n 0 (by decide)]; exact b0, by rw [n 1 (by decide)]; exact b1, by rw [n 2 (by decide)]; exact b2, by rw [n 3 (by decide)]; exact b3, q, q2, q3⟩
theorem RwSt.more {A B : List Str} {H G : Hp} {p c l1 l2 d : Addr} {ns : List Int} {b m n : Nat} {σ : L2.St} (x : RwSt A B H p c l1 l2 d ns b m σ G) (h : m ≤ n) : RwSt A B H p c l1 l2 d ns b n σ G := by
  obtain ⟨a, b0, b1, b2, b3, q, ⟨t, e, l, r⟩, f⟩ := x
  exact ⟨a, b0, b1, b2, b3, q.mono (by omega), ⟨t, e, by omega, r⟩, f⟩
def spRows : Sp := fun vs H Q _ => ∃ (p c : Addr) (ns : List Int) (b : Nat) (l1 l2 : Addr) (A B : List Str), vs = [.ref p, .ref l1, .ref l2] ∧ PenAt H p c ns b ∧ ns.length ≤ 63 ∧ b < 2 ^ 38 ∧ NamesA H l1 A ∧ NamesA H l2 B ∧
  ∀ (r : Addr) (L : List (Z × Int)) (H' : Hp), RowsAt H' r L → RowsOk L → CellIn A B L → L.length ≤ A.length * B.length → PenAt H' p c ns (b + 1000) → SameX p H H' → Q (.ref r) H'
section
variable {P : Program} {w : World} {K : PySem.W.Frag} {mg : Str → Option Value} {base : Heap}
theorem scRows : FnScope ["_law_pen_here", "_law_names", "_law_keys", "_law_found", "_law_name", "_law_key"] ["_law_pen_here", "_law_names", "_law_keys"] (defScope sRows) := ⟨rfl, rfl, rfl, by decide +kernel, rfl, by decide +kernel, by decide +kernel⟩
theorem ok_rows {f fD fN fR : Addr} {fd fdD fdN fdR : FuncData} (F : Fun K "_law_rows" "_law_rows" sRows f fd)
    (GDraw : FnOk P w K mg base CX0 1 fD fdD ["_law_pen_here", "_law_many"] spDraw) (TDraw : DefT K mg "_law_draw" fD) (bDraw : Binds K fdD ["_law_pen_here", "_law_many"] [])
    (GNm : FnOk P w K mg base CX0 3 fN fdN ["_law_pen_here"] spNm) (TNm : DefT K mg "_law_number" fN) (bNm : Binds K fdN ["_law_pen_here"] [])
    (GRT : FnOk P w K mg base CX0 1 fR fdR ["_law_found"] spRT) (TRT : DefT K mg "_law_row_tuple" fR) (bRT : Binds K fdR ["_law_found"] []) : FnOk P w K mg base CX0 4 f fd ["_law_pen_here", "_law_names", "_law_keys"] spRows := by
  refine F.ok scRows (fun vs H Q E h => ?_) (fun cdv A outer s H vs Q E hr h => ?_)
  · obtain ⟨p, c, ns, b, l1, l2, A, B, rfl, _⟩ := h
    rfl
  · obtain ⟨p, c, ns, b, l1, l2, zs1, zs2, rfl, P0, hn, hb, N1, N2, k⟩ := h
    have hu := hu_of hr
    refine ⟨_, (pss_cons (ps_set (i := 3) scRows.nd rfl (Or.inl rfl) pe_dnewT)
      (pss_cons (ps_for PassesOwn.never rfl (pi_list (pv 1)) (pg_name (i := 4) scRows.nd rfl (Or.inl rfl)) (pss_one (ps_for PassesOwn.never rfl (pi_list (pv 2)) (pg_name (i := 5) scRows.nd rfl (Or.inl rfl)) (pss_one (ps_if (pt_cmpR op_gt (pe_call GDraw (hr.mono (by decide)) rfl TDraw.mg TDraw.kp bDraw .nil pass0 (pa_cons (pv 0) (pa_cons pe_int pa_nil))) pe_int (nomark _)) (pss_one (ps_dput hu (pv 3) (Ab.pe_tupA (pa_cons (pv 4) (pa_cons (pv 5) pa_nil))) (pe_call GNm (hr.mono (by decide)) rfl TNm.mg TNm.kp bNm .nil pass0 (pa_cons (pv 0) pa_nil)) rfl)) pss_nil)))))
      (pss_one (ps_ret (pe_call GRT (hr.mono (by decide)) rfl TRT.mg TRT.kp bRT .nil pass0 (pa_cons (pv 3) pa_nil)))))), ?_⟩
    obtain ⟨e1, p1, q1, w1⟩ := id N1
    obtain ⟨e2, p2, q2, w2⟩ := id N2
    intro d hd0
    have od : d ≠ p := PenAt.off P0 hd0
    have st0 : Same H (upd H d (.dT [])) := same_new hd0
    have o1 : l1 ≠ p := lst_off P0 e1
    have o2 : l2 ≠ p := lst_off P0 e2
    have c100 : zs1.length * zs2.length ≤ 100 := Nat.mul_le_mul q1 q2
    refine ⟨_, rfl, l1, rfl, ⟨_, SqL.of (st0 _ _ e1)⟩, for_list (K := K) (xs := zs1.map V.str) (fun i σ G => RwSt zs1 zs2 H p c l1 l2 d ns b (i * zs2.length) σ G) ⟨rfl, rfl, rfl, rfl, rfl, by rw [Nat.zero_mul]; exact P0.same st0, ⟨[], upd_same, Nat.zero_le _, List.nodup_nil, (fun _ h => by cases h), fun _ h => by cases h⟩, Same.X st0⟩ (fun i σ G _ x => SqL.of (x.fr _ _ o1 e1)) (fun i x σ G hx S => ?_) (fun σ G S => ?_)⟩
    · obtain ⟨a, ha, rfl⟩ := text_of (List.mem_of_getElem? hx)
      have wa := w1 a ha
      have S4 := S.set (i := 4) (v := .str a) (Nat.le_refl _)
      have v4 : (σ.set 4 (some (V.str a)))[4]? = some (some (V.str a)) := by simp [S.ln]
      have hi : i < zs1.length := by
        have := (List.getElem?_eq_some_iff.mp hx).1
        rw [List.length_map] at this
        exact this
      have im : i * zs2.length + zs2.length ≤ zs1.length * zs2.length := by
        have := Nat.mul_le_mul_right zs2.length (show i + 1 ≤ zs1.length from hi)
        rw [Nat.add_mul, Nat.one_mul] at this
        exact this
      refine ⟨_, S4.s2, l2, rfl, ⟨_, SqL.of (S4.fr _ _ o2 e2)⟩, for_list (K := K) (xs := zs2.map V.str) (fun j τ G => RwSt zs1 zs2 H p c l1 l2 d ns b (i * zs2.length + j) τ G ∧ τ[4]? = some (some (.str a))) ⟨S4, v4⟩ (fun j τ G _ x => SqL.of (x.1.fr _ _ o2 e2)) (fun j x τ G hy S => ?_) (fun τ G S => ?_)⟩
      · obtain ⟨S, t4⟩ := S
        obtain ⟨y, hyy, rfl⟩ := text_of (List.mem_of_getElem? hy)
        have wy := w2 y hyy
        have hj : j < zs2.length := by
          have := (List.getElem?_eq_some_iff.mp hy).1
          rw [List.length_map] at this
          exact this
        have S5 := S.set (i := 5) (v := .str y) (by decide)
        have u4 : (τ.set 5 (some (V.str y)))[4]? = some (some (V.str a)) := by rw [List.getElem?_set_ne (by decide)]; exact t4
        have u5 : (τ.set 5 (some (V.str y)))[5]? = some (some (V.str y)) := by simp [S.ln]
        refine ⟨_, S5.s0, p, c, ns, _, 3, rfl, S5.pen, hn, by omega, by decide, by decide, fun r G2 r0 r3 P2 x2 => ⟨_, _, rfl, rfl, _, rfl, ite2 (fun h1 => ?_) (fun h1 => ?_)⟩⟩
        · refine ⟨_, S5.s0, p, c, ns, _, rfl, P2, hn, by omega, fun v G3 vb P3 x3 => ?_⟩
          refine ⟨_, S5.s3, _, u4, _, u5, sz (by simp), fun kt G4 n4 s4 e4 => ?_⟩
          obtain ⟨t, ed, lt, nd, ok, ci⟩ := S5.tab
          have ed4 : G4 d = some (.dT (t.map ent)) := s4 _ _ (x3 _ _ od (x2 _ _ od ed))
          have pd : DPut G4 d (.ref kt) (.int v) (upd G4 d (.dT ((tput t (a, y) v).map ent))) := by
            have g := DPut.t (k := kp (a, y)) (v := .int v) ed4 e4 (by rw [List.length_map]; exact Nat.lt_of_le_of_lt (show t.length ≤ 100 by omega) (by decide))
            rw [put_ent t (a, y) v nd] at g
            exact g
          have fin : SameX p H (upd G4 d (.dT ((tput t (a, y) v).map ent))) := fun z o nz hz => by
            rw [upd_ne (ne_of_none hz hd0)]
            exact s4 _ _ (x3 _ _ nz (x2 _ _ nz (S5.fr _ _ nz hz)))
          have P4 : PenAt (upd G4 d (.dT ((tput t (a, y) v).map ent))) p c ns (b + 8 * (i * zs2.length + (j + 1))) := by
            obtain ⟨⟨a1, r1, hp, z1⟩, ce⟩ := (P3.same s4).mono (b' := b + 8 * (i * zs2.length + (j + 1))) (by omega)
            obtain ⟨_, ce0⟩ := P0
            exact ⟨⟨a1, r1, (upd_ne od.symm).trans hp, z1⟩, (upd_ne (ne_of_none ce0 hd0)).trans ce⟩
          refine ⟨d, _, rfl, pd, ?_⟩
          exact ⟨⟨S5.ln, S5.s0, S5.s1, S5.s2, S5.s3, P4, ⟨_, upd_same, Nat.le_trans (tput_len t (a, y) v) (by omega), tput_nodup nd, ok.put wa wy vb.1 vb.2, ci.put ha hyy⟩, fin⟩, u4⟩
        · obtain ⟨t, ed, lt, nd, ok, ci⟩ := S5.tab
          exact ⟨⟨S5.ln, S5.s0, S5.s1, S5.s2, S5.s3, P2.mono (by omega), ⟨t, x2 _ _ od ed, by omega, nd, ok, ci⟩, S5.fr.trans x2⟩, u4⟩
      · obtain ⟨S, t4⟩ := S
        rw [List.length_map] at S
        show RwSt zs1 zs2 H p c l1 l2 d ns b ((i + 1) * zs2.length) τ G
        rw [Nat.add_mul, Nat.one_mul]
        exact S
    · rw [List.length_map] at S
      obtain ⟨t, ed, lt, nd, ok, ci⟩ := S.tab
      refine ⟨_, S.s3, d, t, rfl, ed, by omega, nd, fun zs r G2 srt s2 rows => ?_⟩
      refine k r _ G2 rows (rows_ok ok srt) (cell_rows srt ci) ?_ ((S.pen.same s2).mono (by omega)) (S.fr.trans (Same.X s2))
      have a := rowsOf_len t zs
      have b' := srt.perm.length_eq
      rw [List.length_map] at b'
      omega
end
end Hd

set_option Elab.async false
set_option linter.all false
set_option maxRecDepth 100000
set_option maxHeartbeats 8000000
namespace Hd
open PySem L2 Pen RG Dat KEq
def cl (i : Int) : Int := if i > 99 then 99 else if i < -99 then -99 else i
def opE (h : PyData) (a b : Int) : Int := if isS h "+" = true then a + b else if isS h "-" = true then a - b else a * b
/-- an expression's worth: the table, the key, the body -/
def evE (t : List (Z × Int)) (key : Str) (body : Int) : Nat → PyData → Int
  | 0, _ => 0
  | n + 1, .tuple (h :: tl) =>
    if isS h tV = true then (match tl with | [.int i] => i | _ => 0)
    else if isS h tB' = true then body
    else if isS h tR = true then (match tl with | [.str z] => (lk t (z, key)).getD 0 | _ => 0)
    else (match tl with | [a, b] => cl (opE h (evE t key body n a) (evE t key body n b)) | _ => 0)
  | _ + 1, _ => 0
theorem cl_in (i : Int) : -99 ≤ cl i ∧ cl i ≤ 99 := by
  unfold cl
  split
  · omega
  · split <;> omega
theorem val_is {d : PyData} (h : isVal d = true) : ∃ i, d = .int i ∧ -99 ≤ i ∧ i ≤ 99 := by
  cases d <;> first | cases h | skip
  rename_i i
  have a : (decide (-99 ≤ i) && decide (i ≤ 99)) = true := h
  rw [Bool.and_eq_true, decide_eq_true_eq, decide_eq_true_eq] at a
  exact ⟨i, rfl, a⟩
theorem word_is {d : PyData} (h : isWord d = true) : ∃ z, d = .str z := by
  cases d <;> first | cases h | skip
  exact ⟨_, rfl⟩
/-- what an expression is -/
theorem e_cases {n : Nat} {d : PyData} (h : isE n d = true) : ∃ m hd tl, n = m + 1 ∧ d = .tuple (hd :: tl) ∧
    ((isS hd tV = true ∧ ∃ i, tl = [.int i] ∧ -99 ≤ i ∧ i ≤ 99) ∨ (¬ isS hd tV = true ∧ isS hd tB' = true ∧ tl = []) ∨
     (¬ isS hd tV = true ∧ ¬ isS hd tB' = true ∧ isS hd tR = true ∧ ∃ z, tl = [.str z] ∧ isWord (.str z) = true) ∨
     (¬ isS hd tV = true ∧ ¬ isS hd tB' = true ∧ ¬ isS hd tR = true ∧ (ops.any fun z => isS hd z) = true ∧ ∃ a b, tl = [a, b] ∧ isE m a = true ∧ isE m b = true)) := by
  cases n with
  | zero => cases h
  | succ m =>
    cases d with
    | tuple ds =>
      cases ds with
      | nil => cases h
      | cons hd tl =>
        refine ⟨m, hd, tl, rfl, rfl, ?_⟩
        unfold isE at h
        by_cases h1 : isS hd tV = true
        · rw [if_pos h1] at h
          obtain ⟨a, rfl⟩ : ∃ a, tl = [a] := by
            match tl, h with
            | [a], _ => exact ⟨a, rfl⟩
          obtain ⟨i, rfl, b⟩ := val_is h
          exact .inl ⟨h1, i, rfl, b⟩
        rw [if_neg h1] at h
        by_cases h2 : isS hd tB' = true
        · rw [if_pos h2] at h
          obtain rfl : tl = [] := by
            match tl, h with
            | [], _ => rfl
          exact .inr (.inl ⟨h1, h2, rfl⟩)
        rw [if_neg h2] at h
        by_cases h3 : isS hd tR = true
        · rw [if_pos h3] at h
          obtain ⟨a, rfl⟩ : ∃ a, tl = [a] := by
            match tl, h with
            | [a], _ => exact ⟨a, rfl⟩
          obtain ⟨z, rfl⟩ := word_is h
          exact .inr (.inr (.inl ⟨h1, h2, h3, z, rfl, h⟩))
        rw [if_neg h3] at h
        by_cases h4 : (ops.any fun z => isS hd z) = true
        · rw [if_pos h4] at h
          obtain ⟨a, b, rfl⟩ : ∃ a b, tl = [a, b] := by
            match tl, h with
            | [a, b], _ => exact ⟨a, b, rfl⟩
          have h : (isE m a && isE m b) = true := h
          rw [Bool.and_eq_true] at h
          exact .inr (.inr (.inr ⟨h1, h2, h3, h4, a, b, rfl, h⟩))
        · rw [if_neg h4] at h
          cases h
    | _ => cases h
theorem ev_in {t : List (Z × Int)} {key : Str} {body : Int} (ht : TbOk t) (b0 : -99 ≤ body) (b1 : body ≤ 99) {n : Nat} {d : PyData} (h : isE n d = true) : -99 ≤ evE t key body n d ∧ evE t key body n d ≤ 99 := by
  obtain ⟨m, hd, tl, rfl, rfl, q⟩ := e_cases h
  unfold evE
  rcases q with ⟨h1, i, rfl, a⟩ | ⟨h1, h2, rfl⟩ | ⟨h1, h2, h3, z, rfl, _⟩ | ⟨h1, h2, h3, h4, a, b, rfl, _⟩
  · rw [if_pos h1]
    exact a
  · rw [if_neg h1, if_pos h2]
    exact ⟨b0, b1⟩
  · rw [if_neg h1, if_neg h2, if_pos h3]
    show -99 ≤ (lk t (z, key)).getD 0 ∧ (lk t (z, key)).getD 0 ≤ 99
    cases q : lk t (z, key) with
    | none => exact ⟨by decide, by decide⟩
    | some v => exact (lk_val ht q).2.2
  · rw [if_neg h1, if_neg h2, if_neg h3]
    exact cl_in _
def spW (K : PySem.W.Frag) (m : Nat) : Sp := fun vs H Q _ => ∃ (v : V) (dd : PyData) (j : Nat) (d : Addr) (t : List (Z × Int)) (key : Str) (body : Int), vs = [v, .ref d, .str key, .int body] ∧ j < m ∧ Rp K H v dd ∧ isE j dd = true ∧ H d = some (.dT (t.map ent)) ∧ TbOk t ∧ (-99 ≤ body ∧ body ≤ 99) ∧
  ∀ H', Same H H' → Q (.int (evE t key body j dd)) H'
end Hd

set_option Elab.async false
set_option linter.all false
set_option maxRecDepth 100000
set_option maxHeartbeats 8000000
namespace Hd
open PySem L2 Pen RG Dat KEq
/-- whether a condition holds -/
def evC (t : List (Z × Int)) (key : Str) (body : Int) : Nat → PyData → Bool
  | n + 1, .tuple [h, a, b] => if isS h "and" = true then evC t key body n a && evC t key body n b else if isS h "or" = true then evC t key body n a || evC t key body n b
      else if isS h "<" = true then decide (evE t key body 6 a < evE t key body 6 b) else decide (evE t key body 6 a = evE t key body 6 b)
  | n + 1, .tuple [_, a] => !evC t key body n a
  | _, _ => false
theorem isS_is {d : PyData} {z : Str} (h : isS d z = true) : d = .str z := by
  cases d <;> first | cases h | skip
  rename_i x
  have h : decide (x = z) = true := h
  rw [of_decide_eq_true h]
/-- what a condition is -/
theorem c_cases {n : Nat} {d : PyData} (h : isC n d = true) : ∃ m, n = m + 1 ∧
    ((∃ (z : Str) (a b : PyData), (z = "<" ∨ z = "=") ∧ d = .tuple [.str z, a, b] ∧ isE 6 a = true ∧ isE 6 b = true) ∨ (∃ a, d = .tuple [.str "not", a] ∧ isC m a = true) ∨
     (∃ (z : Str) (a b : PyData), (z = "and" ∨ z = "or") ∧ d = .tuple [.str z, a, b] ∧ isC m a = true ∧ isC m b = true)) := by
  cases n with
  | zero => cases h
  | succ m =>
    refine ⟨m, rfl, ?_⟩
    cases d with
    | tuple ds =>
      cases ds with
      | nil => cases h
      | cons hd tl =>
        unfold isC at h
        by_cases h1 : ((["<", "="] : List Str).any fun z => isS hd z) = true
        · rw [if_pos h1] at h
          obtain ⟨a, b, rfl⟩ : ∃ a b, tl = [a, b] := by
            match tl, h with
            | [a, b], _ => exact ⟨a, b, rfl⟩
          have h : (isE 6 a && isE 6 b) = true := h
          rw [Bool.and_eq_true] at h
          obtain ⟨z, m1, m2⟩ := List.any_eq_true.mp h1
          rw [isS_is m2]
          exact .inl ⟨z, a, b, by simpa using m1, rfl, h⟩
        rw [if_neg h1] at h
        by_cases h2 : isS hd "not" = true
        · rw [if_pos h2] at h
          obtain ⟨a, rfl⟩ : ∃ a, tl = [a] := by
            match tl, h with
            | [a], _ => exact ⟨a, rfl⟩
          rw [isS_is h2]
          exact .inr (.inl ⟨a, rfl, h⟩)
        rw [if_neg h2] at h
        by_cases h3 : ((["and", "or"] : List Str).any fun z => isS hd z) = true
        · rw [if_pos h3] at h
          obtain ⟨a, b, rfl⟩ : ∃ a b, tl = [a, b] := by
            match tl, h with
            | [a, b], _ => exact ⟨a, b, rfl⟩
          have h : (isC m a && isC m b) = true := h
          rw [Bool.and_eq_true] at h
          obtain ⟨z, m1, m2⟩ := List.any_eq_true.mp h3
          rw [isS_is m2]
          exact .inr (.inr ⟨z, a, b, by simpa using m1, rfl, h⟩)
        · rw [if_neg h3] at h
          cases h
    | _ => cases h
def spH (K : PySem.W.Frag) (m : Nat) : Sp := fun vs H Q _ => ∃ (v : V) (dd : PyData) (j : Nat) (d : Addr) (t : List (Z × Int)) (key : Str) (body : Int), vs = [v, .ref d, .str key, .int body] ∧ j < m ∧ Rp K H v dd ∧ isC j dd = true ∧ H d = some (.dT (t.map ent)) ∧ TbOk t ∧ (-99 ≤ body ∧ body ≤ 99) ∧
  ∀ H', Same H H' → Q (.bl (evC t key body j dd)) H'
end Hd

set_option Elab.async false
set_option linter.all false
set_option maxRecDepth 100000
set_option maxHeartbeats 8000000
namespace Hd
open PySem L2 Pen RG Dat KEq
/-- a run's state: the table, what is sent -/
structure Sta where
  t : List (Z × Int)
  ss : List (Str × Str × Int)
def strOf : PyData → Str
  | .str z => z
  | _ => tV
def keyOf (key : Str) : PyData → Str
  | .str z => z
  | _ => key
def runAll (f : PyData → Sta → Bool × Sta) : List PyData → Sta → Bool × Sta
  | [], s => (true, s)
  | d :: ds, s => if (f d s).1 = true then runAll f ds (f d s).2 else f d s
def tupOf : PyData → List PyData
  | .tuple ds => ds
  | _ => []
/-- one deed done -/
def deedE (key : Str) (body : Int) : Nat → PyData → Sta → Bool × Sta
  | _, .tuple [_, n, e], s => (true, ⟨tput s.t (strOf n, key) (evE s.t key body 6 e), s.ss⟩)
  | i, .tuple [h, a, b, c], s => if isS h "send" = true then (true, ⟨s.t, s.ss ++ [(strOf a, keyOf key b, evE s.t key body 6 c)]⟩) else
    match i with
    | 0 => (false, s)
    | i + 1 => runAll (deedE key body i) (tupOf (if evC s.t key body 6 a = true then b else c)) s
  | _, _, s => (false, s)
theorem key_is {d : PyData} (h : isKey d = true) : d = .none ∨ ∃ z, d = .str z := by
  cases d <;> first | exact .inl rfl | exact .inr ⟨_, rfl⟩ | cases h
/-- what a deed is -/
theorem deed_cases {i r r' : Nat} {d : PyData} (h : deedR i d r = some r') :
    (d = .tuple [.str "fail"] ∧ r' = r) ∨ (∃ n e, d = .tuple [.str "set", .str n, e] ∧ isWord (.str n) = true ∧ isE 6 e = true ∧ r' = r) ∨
    (∃ n k e, d = .tuple [.str "send", .str n, k, e] ∧ isWord (.str n) = true ∧ isKey k = true ∧ isE 6 e = true ∧ r' = r) ∨
    (∃ j c as bs r1, i = j + 1 ∧ d = .tuple [.str "if", c, .tuple as, .tuple bs] ∧ isC 6 c = true ∧ roomAll (deedR j) as r = some r1 ∧ roomAll (deedR j) bs r1 = some r') := by
  by_cases o : isOne d = true
  · rw [deed_one o] at h
    have e := (Option.some.inj h).symm
    cases d with
    | tuple ds =>
      cases ds with
      | nil => cases o
      | cons hd tl =>
        rw [one_cons] at o
        by_cases h1 : isS hd "set" = true
        · rw [if_pos h1] at o
          obtain ⟨a, b, rfl⟩ : ∃ a b, tl = [a, b] := by
            match tl, o with
            | [a, b], _ => exact ⟨a, b, rfl⟩
          have o : (isWord a && isE 6 b) = true := o
          rw [Bool.and_eq_true] at o
          obtain ⟨z, rfl⟩ := word_is o.1
          rw [isS_is h1]
          exact .inr (.inl ⟨z, b, rfl, o.1, o.2, e⟩)
        rw [if_neg h1] at o
        by_cases h2 : isS hd "send" = true
        · rw [if_pos h2] at o
          obtain ⟨a, b, c, rfl⟩ : ∃ a b c, tl = [a, b, c] := by
            match tl, o with
            | [a, b, c], _ => exact ⟨a, b, c, rfl⟩
          have o : (isWord a && (isKey b && isE 6 c)) = true := o
          rw [Bool.and_eq_true, Bool.and_eq_true] at o
          obtain ⟨z, rfl⟩ := word_is o.1
          rw [isS_is h2]
          exact .inr (.inr (.inl ⟨z, b, c, rfl, o.1, o.2.1, o.2.2, e⟩))
        rw [if_neg h2, Bool.and_eq_true] at o
        obtain rfl : tl = [] := by
          match tl, o with
          | [], _ => rfl
        rw [isS_is o.1]
        exact .inl ⟨rfl, e⟩
    | _ => cases o
  · cases i with
    | zero =>
      rw [deed_zero o] at h
      cases h
    | succ j =>
      by_cases h4 : isTof d 4 = false
      · rw [deed_ne o h4] at h
        cases h
      · obtain ⟨hd, c, a, b, rfl⟩ : ∃ hd c a b, d = .tuple [hd, c, a, b] := by
          cases d with
          | tuple ds =>
            rcases ds with _ | ⟨x1, _ | ⟨x2, _ | ⟨x3, _ | ⟨x4, _ | ⟨x5, t⟩⟩⟩⟩⟩
            · exact absurd rfl h4
            · exact absurd rfl h4
            · exact absurd rfl h4
            · exact absurd rfl h4
            · exact ⟨x1, x2, x3, x4, rfl⟩
            · refine absurd ?_ h4
              show decide (((x1 :: x2 :: x3 :: x4 :: x5 :: t).length : Int) = 4) = false
              exact decide_eq_false (by simp; omega)
          | _ => exact absurd rfl h4
        rw [deed_four o] at h
        by_cases h5 : isS hd "if" = true
        · rw [if_pos h5] at h
          by_cases h6 : isC 6 c = true
          · rw [if_pos h6] at h
            obtain ⟨r1, a1, a2⟩ := Option.bind_eq_some_iff.mp h
            rw [isS_is h5]
            cases a <;> first | cases a1 | skip
            cases b <;> first | cases a2 | skip
            exact .inr (.inr (.inr ⟨j, c, _, _, r1, rfl, rfl, h6, a1, a2⟩))
          · rw [if_neg h6] at h
            cases h
        · rw [if_neg h5] at h
          cases h
theorem roomAll_le {f : PyData → Nat → Option Nat} (hf : ∀ d r r', f d r = some r' → r' ≤ r) : ∀ {ds : List PyData} {r r' : Nat}, roomAll f ds r = some r' → r' ≤ r
  | [], r, r', h => Nat.le_of_eq (Option.some.inj h).symm
  | _ :: _, 0, _, h => by cases h
  | d :: ds, r + 1, r', h => by
    have h : (f d r).bind (roomAll f ds) = some r' := h
    obtain ⟨r1, a, b⟩ := Option.bind_eq_some_iff.mp h
    have := roomAll_le hf b
    have := hf _ _ _ a
    omega
theorem deedR_le : ∀ (i : Nat) (d : PyData) (r r' : Nat), deedR i d r = some r' → r' ≤ r
  | 0, d, r, r', h => by
    rcases deed_cases h with ⟨_, e⟩ | ⟨_, _, _, _, _, e⟩ | ⟨_, _, _, _, _, _, _, e⟩ | ⟨j, _, _, _, _, z, _⟩
    · omega
    · omega
    · omega
    · cases z
  | i + 1, d, r, r', h => by
    rcases deed_cases h with ⟨_, e⟩ | ⟨_, _, _, _, _, e⟩ | ⟨_, _, _, _, _, _, _, e⟩ | ⟨j, _, _, _, r1, z, _, _, a, b⟩
    · omega
    · omega
    · omega
    · cases z
      have := roomAll_le (deedR_le i) a
      have := roomAll_le (deedR_le i) b
      omega
/-- a message sent -/
def SndT (H : Hp) (e : Str × Str × Int) (r : Addr) : Prop := H r = some (.tup [.str e.1, .str e.2.1, .int e.2.2])
/-- the state at the table d and the list sl -/
structure StAt (G : Hp) (d sl : Addr) (st : Sta) : Prop where
  tab : G d = some (.dT (st.t.map ent))
  nd : (st.t.map (·.1)).Nodup
  ok : TbOk st.t
  lst : ∃ ts : List Addr, G sl = some (.lst (ts.map V.ref)) ∧ Paired (SndT G) st.ss ts
theorem cut_le {G : Hp} {a b : Addr} : Same (delp b (delp a G)) G := fun z o h => delp_le z o (delp_le z o h)
theorem Same.Y {G G' : Hp} {a b : Addr} (s : Same G G') : SameY a b G G' := fun z o _ _ h => s z o h
theorem noT_dT {kvs : List (List L2.Key × V)} : NoT (.dT kvs) := ⟨(fun _ z => nomatch z), (fun _ _ z => nomatch z)⟩
theorem snds_y {G G' : Hp} {a b : Addr} {oa ob : HO} (s : SameY a b G G') (ea : G a = some oa) (na : NoT oa) (eb : G b = some ob) (nb : NoT ob) : ∀ {L : List (Str × Str × Int)} {ts : List Addr}, Paired (SndT G) L ts → Paired (SndT G') L ts
  | _, _, .nil => .nil
  | _, _, .cons x r => .cons (s _ _ (ne_of x ea (fun z => na.1 _ z.symm)) (ne_of x eb (fun z => nb.1 _ z.symm)) x) (snds_y s ea na eb nb r)
theorem StAt.same {G G' : Hp} {d sl : Addr} {st : Sta} (s : Same G G') (x : StAt G d sl st) : StAt G' d sl st := by
  obtain ⟨a, b, c, ts, e, p⟩ := x
  exact ⟨s _ _ a, b, c, ts, s _ _ e, snds_y (Same.Y s) a noT_dT e noT_lst p⟩
theorem StAt.ne {G : Hp} {d sl : Addr} {st : Sta} (x : StAt G d sl st) : d ≠ sl := by
  obtain ⟨a, b, c, ts, e, p⟩ := x
  exact ne_of a e (by intro z; cases z)
theorem deed_fail {key : Str} {body : Int} {i : Nat} {s : Sta} : deedE key body i (.tuple [.str "fail"]) s = (false, s) := by cases i <;> rfl
theorem deed_set1 {key n : Str} {body : Int} {i : Nat} {s : Sta} {e : PyData} : deedE key body i (.tuple [.str "set", .str n, e]) s = (true, ⟨tput s.t (n, key) (evE s.t key body 6 e), s.ss⟩) := by cases i <;> rfl
theorem deed_send1 {key n : Str} {body : Int} {i : Nat} {s : Sta} {b e : PyData} : deedE key body i (.tuple [.str "send", .str n, b, e]) s = (true, ⟨s.t, s.ss ++ [(n, keyOf key b, evE s.t key body 6 e)]⟩) := by
  cases i <;> exact if_pos (by decide +kernel)
theorem deed_if1 {key : Str} {body : Int} {i : Nat} {s : Sta} {c : PyData} {as bs : List PyData} : deedE key body (i + 1) (.tuple [.str "if", c, .tuple as, .tuple bs]) s = runAll (deedE key body i) (if evC s.t key body 6 c = true then as else bs) s := by
  have e : deedE key body (i + 1) (.tuple [.str "if", c, .tuple as, .tuple bs]) s = runAll (deedE key body i) (tupOf (if evC s.t key body 6 c = true then .tuple as else .tuple bs)) s := if_neg (by decide +kernel)
  rw [e]
  split <;> rfl
theorem cut_same {G G' : Hp} {a b : Addr} (s : SameY a b G G') : Same (delp b (delp a G)) (delp b (delp a G')) := by
  intro c o h
  have n1 : c ≠ b := fun z => by
    rw [z] at h
    have h' : (if b = b then none else delp a G b) = some o := h
    rw [if_pos rfl] at h'
    cases h'
  rw [delp_ne n1] at h
  have n2 : c ≠ a := fun z => by
    rw [z] at h
    have h' : (if a = a then none else G a) = some o := h
    rw [if_pos rfl] at h'
    cases h'
  rw [delp_ne n2] at h
  rw [delp_ne n1, delp_ne n2]
  exact s c o n2 n1 h
def spD (K : PySem.W.Frag) (m : Nat) : Sp := fun vs H Q _ => ∃ (v : V) (ds : List PyData) (i : Nat) (d sl : Addr) (key : Str) (body : Int) (st : Sta) (r r' : Nat), vs = [v, .ref d, .ref sl, .str key, .int body] ∧ i < m ∧ Rp K (delp sl (delp d H)) v (.tuple ds) ∧ roomAll (deedR i) ds r = some r' ∧ StAt H d sl st ∧
  st.ss.length + r ≤ 100 ∧ st.t.length + r ≤ 900 ∧ isWord (.str key) = true ∧ (-99 ≤ body ∧ body ≤ 99) ∧
  ∀ H', StAt H' d sl (runAll (deedE key body i) ds st).2 → (runAll (deedE key body i) ds st).2.ss.length + r' ≤ st.ss.length + r → (runAll (deedE key body i) ds st).2.t.length + r' ≤ st.t.length + r → SameY d sl H H' → Q (.bl (runAll (deedE key body i) ds st).1) H'
end Hd

set_option Elab.async false
set_option linter.all false
set_option maxRecDepth 100000
set_option maxHeartbeats 8000000
namespace Hd
open PySem L2 Pen RG Dat KEq
theorem units3 {k : Nat} {A : Around} (r : Room k A) : A.units + 3 < cLine := by have := r.un; omega
theorem rows_nodup {L : List (Z × Int)} (h : RowsOk L) : (L.map (·.1)).Nodup := by
  rw [List.nodup_iff_pairwise_ne, List.pairwise_map]
  refine h.up.imp fun {a b} x e => ?_
  rw [e] at x
  have n : KSrt.lt2 b.1 b.1 = false := by
    rw [KSrt.lt2_is]
    simp
  rw [n] at x
  cases x
theorem hand_is {d : PyData} (h : hOk d = true) : ∃ ds r', d = .tuple ds ∧ roomAll (deedR 3) ds 12 = some r' := by
  obtain ⟨r', e⟩ := Option.isSome_iff_exists.mp (show (roomR (deedR 3) d 12).isSome = true from h)
  cases d <;> first | cases e | skip
  exact ⟨_, r', rfl, e⟩
theorem fresh_cut {H G : Hp} {d sl : Addr} (s : Same H G) (h1 : H d = none) (h2 : H sl = none) : Same H (delp sl (delp d G)) := fun z o h => by
  rw [delp_ne (ne_of_none h h2), delp_ne (ne_of_none h h1)]
  exact s _ _ h
theorem pairT_of {K : PySem.W.Frag} {H : Hp} : ∀ {L : List (Z × Int)} {ts : List Addr}, Paired (RowT H) L ts → Paired (DpT.PairT K H) (L.map ent) ts
  | _, _, .nil => .nil
  | _, _, .cons x r => .cons (by
      obtain ⟨c, a1, a2⟩ := x
      exact ⟨c, SqT.of a1, a2⟩) (pairT_of r)
theorem ent_nodup {t : List (Z × Int)} (h : (t.map (·.1)).Nodup) : ((t.map ent).map (·.1)).Nodup := by
  rw [List.nodup_iff_pairwise_ne, List.map_map, List.pairwise_map]
  rw [List.nodup_iff_pairwise_ne, List.pairwise_map] at h
  exact h.imp fun {a b} n e => n (kp_inj e)
/-- what a run tells -/
inductive RunAt (H : Hp) (res : Addr) (x : Bool × Sta) : Prop
  | failed : x.1 = false → H res = some (.tup [.str "failed"]) → RunAt H res x
  | done (zs : List Z) (ra sa : Addr) (ts : List Addr) : x.1 = true → Srt (x.2.t.map (·.1)) zs → H res = some (.tup [.str "done", .ref ra, .ref sa]) → RowsAt H ra (rowsOf x.2.t zs) → DpT.TupF H sa (ts.map V.ref) → Paired (SndT H) x.2.ss ts → RunAt H res x
def spU (K : PySem.W.Frag) : Sp := fun vs H Q _ => ∃ (v : V) (dd : PyData) (ds : List PyData) (r' : Nat) (ra ma : Addr) (L : List (Z × Int)) (kd : V) (key : Str) (body : Int), vs = [v, .ref ra, .ref ma] ∧ Rp K H v (.tuple ds) ∧ roomAll (deedR 3) ds 12 = some r' ∧ RowsAt H ra L ∧ RowsOk L ∧ L.length ≤ 800 ∧
  SqT K H ma [kd, .str key, .int body] ∧ isWord (.str key) = true ∧ (-99 ≤ body ∧ body ≤ 99) ∧
  ∀ res H', RunAt H' res (runAll (deedE key body 3) ds ⟨L, []⟩) → Same H H' → Q (.ref res) H'
end Hd

set_option Elab.async false
set_option linter.all false
set_option maxRecDepth 100000
set_option maxHeartbeats 8000000
namespace Hd
open PySem L2 Pen RG Dat KEq
abbrev sMs : Stmt := top 12
abbrev sRw : Stmt := top 13
abbrev rowD (e : Z × Int) : PyData := .tuple [.tuple [.str e.1.1, .str e.1.2], .int e.2]
theorem rp_row {K : PySem.W.Frag} {H : Hp} {e : Z × Int} {r : Addr} (x : RowT H e r) : Rp K H (.ref r) (rowD e) := by
  obtain ⟨c, a, b⟩ := x
  exact .tup (SqT.of a) (.cons (.tup (SqT.of b) (.cons (.str _) (.cons (.str _) .nil))) (.cons (.int _) .nil))
def spMs (K : PySem.W.Frag) : Sp := fun vs H Q _ => ∃ (ma : Addr) (k1 k2 : Str) (i : Int), vs = [.ref ma] ∧ SqT K H ma [.str k1, .str k2, .int i] ∧ isWord (.str k1) = true ∧ isWord (.str k2) = true ∧ (-99 ≤ i ∧ i ≤ 99) ∧ ∀ H', Same H H' → Q (.bl true) H'
def spRw : Sp := fun vs H Q _ => ∃ (r : Addr) (e : Z × Int), vs = [.ref r] ∧ RowT H e r ∧ isWord (.str e.1.1) = true ∧ isWord (.str e.1.2) = true ∧ (-99 ≤ e.2 ∧ e.2 ≤ 99) ∧ e.2 ≠ 0 ∧ ∀ H', Same H H' → Q (.bl true) H'
theorem val_of {i : Int} (h : -99 ≤ i ∧ i ≤ 99) : isVal (.int i) = true := by
  show (decide (-99 ≤ i) && decide (i ≤ 99)) = true
  rw [decide_eq_true h.1, decide_eq_true h.2]
  rfl
theorem word_sm {z : Str} (h : isWord (.str z) = true) : sm (.str z) = true := decide_eq_true (Nat.le_trans (word_len h) (by decide))
section
variable {P : Program} {w : World} {K : PySem.W.Frag} {mg : Str → Option Value} {base : Heap}
theorem scMs : FnScope ["value"] ["value"] (defScope sMs) := ⟨rfl, rfl, rfl, by decide +kernel, rfl, by decide +kernel, by decide +kernel⟩
theorem scRw : FnScope ["value", "name", "key", "held"] ["value"] (defScope sRw) := ⟨rfl, rfl, rfl, by decide +kernel, rfl, by decide +kernel, by decide +kernel⟩
theorem ok_ms {f fT fW fV : Addr} {fd fdT fdW fdV : FuncData} (F : Fun K "is_message" "is_message" sMs f fd)
    (GTof : FnOk P w K mg base CX0 1 fT fdT ["value", "length"] (spTof K)) (TTof : DefT K mg "is_tuple_of" fT) (bTof : Binds K fdT ["value", "length"] [])
    (GWord : FnOk P w K mg base CX0 1 fW fdW ["value"] (spWord K)) (TWord : DefT K mg "is_word" fW) (bWord : Binds K fdW ["value"] [])
    (GVal : FnOk P w K mg base CX0 2 fV fdV ["value"] (spVal K)) (TVal : DefT K mg "is_value" fV) (bVal : Binds K fdV ["value"] []) : FnOk P w K mg base CX0 3 f fd ["value"] (spMs K) := by
  refine F.ok scMs (fun vs H Q E h => ?_) (fun cdv A outer s H vs Q E hr h => ?_)
  · obtain ⟨ma, k1, k2, i, rfl, _⟩ := h
    rfl
  · obtain ⟨ma, k1, k2, i, rfl, qm, w1, w2, hv, k⟩ := h
    refine ⟨_, (pss_one (ps_ret (pe_and (pe_call GTof (hr.mono (by decide)) rfl TTof.mg TTof.kp bTof .nil pass0 (pa_cons (pv 0) (pa_cons pe_int pa_nil))) (pe_and (pe_call GWord (hr.mono (by decide)) rfl TWord.mg TWord.kp bWord .nil pass0 (pa_cons (pe_ix ix_tup (pv 0) pe_int (fun _ _ => rfl)) pa_nil)) (pe_and (pe_call GWord (hr.mono (by decide)) rfl TWord.mg TWord.kp bWord .nil pass0 (pa_cons (pe_ix ix_tup (pv 0) pe_int (fun _ _ => rfl)) pa_nil)) (pe_one (pe_call GVal (hr.mono (by decide)) rfl TVal.mg TVal.kp bVal .nil pass0 (pa_cons (pe_ix ix_tup (pv 0) pe_int (fun _ _ => rfl)) pa_nil)))))))), ?_⟩
    have rp : Rp K H (.ref ma) (.tuple [.str k1, .str k2, .int i]) := .tup qm (.cons (.str _) (.cons (.str _) (.cons (.int _) .nil)))
    refine ⟨_, rfl, _, _, 3, rfl, rp, true, rfl, iteT ?_⟩
    refine ⟨_, rfl, ma, _, 0, _, rfl, rfl, qm, atI_nat (j := 0) rfl, _, _, rfl, .str _, word_sm w1, fun H1 s1 => ?_⟩
    rw [w1]
    refine ⟨true, rfl, iteT ?_⟩
    refine ⟨_, rfl, ma, _, 1, _, rfl, rfl, sqT_same s1 qm, atI_nat (j := 1) rfl, _, _, rfl, .str _, word_sm w2, fun H2 s2 => ?_⟩
    rw [w2]
    refine ⟨true, rfl, iteT ?_⟩
    refine ⟨_, rfl, ma, _, 2, _, rfl, rfl, sqT_same (s1.trans s2) qm, atI_nat (j := 2) rfl, _, _, rfl, .int _, ?_⟩
    rw [val_of hv]
    exact k _ (s1.trans s2)
theorem ok_rw {f fT fW fV : Addr} {fd fdT fdW fdV : FuncData} (F : Fun K "is_row" "is_row" sRw f fd)
    (GTof : FnOk P w K mg base CX0 1 fT fdT ["value", "length"] (spTof K)) (TTof : DefT K mg "is_tuple_of" fT) (bTof : Binds K fdT ["value", "length"] [])
    (GWord : FnOk P w K mg base CX0 1 fW fdW ["value"] (spWord K)) (TWord : DefT K mg "is_word" fW) (bWord : Binds K fdW ["value"] [])
    (GVal : FnOk P w K mg base CX0 2 fV fdV ["value"] (spVal K)) (TVal : DefT K mg "is_value" fV) (bVal : Binds K fdV ["value"] []) : FnOk P w K mg base CX0 3 f fd ["value"] spRw := by
  refine F.ok scRw (fun vs H Q E h => ?_) (fun cdv A outer s H vs Q E hr h => ?_)
  · obtain ⟨r, e, rfl, _⟩ := h
    rfl
  · obtain ⟨r, e, rfl, row, w1, w2, hv, nz, k⟩ := h
    refine ⟨_, (pss_cons (ps_if (PW.pt (pw_or (pt_not (pt_val (pe_call GTof (hr.mono (by decide)) rfl TTof.mg TTof.kp bTof .nil pass0 (pa_cons (pv 0) (pa_cons pe_int pa_nil))))) (pw_or1 (pt_not (pt_val (pe_call GTof (hr.mono (by decide)) rfl TTof.mg TTof.kp bTof .nil pass0 (pa_cons (pe_ix ix_tup (pv 0) pe_int (fun _ _ => rfl)) (pa_cons pe_int pa_nil)))))))) (pss_one (ps_ret pe_bl)) pss_nil)
      (pss_cons (ps_asg (pv 0) (pg_tup (by rfl) (pgs_cons (pg_tup (by rfl) (pgs_cons (pg_name (i := 1) scRw.nd rfl (Or.inl rfl)) (pgs_cons (pg_name (i := 2) scRw.nd rfl (Or.inl rfl)) pgs_nil))) (pgs_cons (pg_name (i := 3) scRw.nd rfl (Or.inl rfl)) pgs_nil))))
      (pss_one (ps_ret (pe_and (pe_call GWord (hr.mono (by decide)) rfl TWord.mg TWord.kp bWord .nil pass0 (pa_cons (pv 1) pa_nil)) (pe_and (pe_call GWord (hr.mono (by decide)) rfl TWord.mg TWord.kp bWord .nil pass0 (pa_cons (pv 2) pa_nil)) (pe_and (pe_call GVal (hr.mono (by decide)) rfl TVal.mg TVal.kp bVal .nil pass0 (pa_cons (pv 3) pa_nil)) (pe_one (pe_cmpR op_ne (pv 3) pe_int (nomark _)))))))))), ?_⟩
    have rp : Rp K H (.ref r) (rowD e) := rp_row row
    obtain ⟨c, e1, e2⟩ := row
    refine ⟨_, rfl, _, _, 2, rfl, rp, true, rfl, iteF ?_⟩
    refine ⟨_, rfl, r, _, 0, _, rfl, rfl, SqT.of e1, atI_nat (j := 0) rfl, _, _, 2, rfl, .tup (SqT.of e2) (.cons (.str _) (.cons (.str _) .nil)), true, rfl, iteF ?_⟩
    refine ⟨_, rfl, r, _, rfl, SqT.of e1, rfl, _, _, rfl, c, _, rfl, SqT.of e2, rfl, _, _, rfl, _, _, rfl, rfl, _, _, rfl, rfl, ?_⟩
    refine ⟨_, rfl, _, _, rfl, .str _, word_sm w1, fun H1 s1 => ?_⟩
    rw [w1]
    refine ⟨true, rfl, iteT ?_⟩
    refine ⟨_, rfl, _, _, rfl, .str _, word_sm w2, fun H2 s2 => ?_⟩
    rw [w2]
    refine ⟨true, rfl, iteT ?_⟩
    refine ⟨_, rfl, _, _, rfl, .int _, ?_⟩
    rw [val_of hv]
    refine ⟨true, rfl, iteT ?_⟩
    refine ⟨_, rfl, rfl, ?_⟩
    have e : (!decide (V.int e.2 = V.int 0)) = true := by simpa using nz
    rw [e]
    exact k _ (s1.trans s2)
end
end Hd

set_option Elab.async false
set_option linter.all false
set_option maxRecDepth 100000
set_option maxHeartbeats 8000000
namespace Hd
open PySem L2 Pen RG Dat KEq
abbrev sRs : Stmt := top 14
theorem cut_from1 {xs : List V} {i : Nat} : cutV xs (some (i : Int)) none = xs.drop i := by
  unfold cutV
  rw [HT.sIx_none, HT.sIx_nat]
  by_cases h : i ≤ xs.length
  · rw [Nat.min_eq_left h]
    exact List.take_of_length_le (by rw [List.length_drop]; exact Nat.le_refl _)
  · rw [Nat.min_eq_right (by omega), List.drop_length, List.drop_eq_nil_of_le (by omega)]
    exact List.take_nil
/-- over zip(p, q), q no longer than p -/
theorem lc_zip {K : PySem.W.Frag} {a b : Addr} {xs ys : List V} {g : TG} {tt : TT} {te : TE} {vs : List Nat} {σ : L2.St} {H1 : Hp} {D : Addr} {Qd : Hp → Prop} (le : ys.length ≤ xs.length) (Pv : Nat → Hp → Prop) (h0 : Pv 0 (upd H1 D (.lst []))) (hl : ∀ i H, i ≤ ys.length → Pv i H → SqL K H a xs ∧ SqL K H b ys)
    (hs : ∀ i x y H t, xs[i]? = some x → ys[i]? = some y → Pv i H → H t = none → g (.ref t) (wipe σ vs) (upd H t (.tup [x, y])) fun σ2 H2 => wipe σ2 vs = wipe σ vs ∧ tt σ2 H2 fun b H3 =>
      if b = true then te σ2 H3 fun y H4 => ∃ acc, H4 D = some (.lst acc) ∧ acc.length < sizeLine ∧ Pv (i + 1) (upd H4 D (.lst (acc ++ [y]))) else Pv (i + 1) H3) (hd : ∀ H, Pv ys.length H → Qd H) :
    ∃ W : Nat → Nat → Hp → Prop, (∃ m, W 0 m (upd H1 D (.lst []))) ∧ ∀ i m H, W i m H →
      ((Itz K a b).stop i H ∧ Qd H) ∨ ((Itz K a b).go i H ∧ ∃ Nx : Hp → Prop, (∀ H', Nx H' → ∃ m', m' < m ∧ W (i + 1) m' H') ∧ ∀ x H', (Itz K a b).yld i H x H' → g x (wipe σ vs) H' fun σ2 H2 => wipe σ2 vs = wipe σ vs ∧ tt σ2 H2 fun b H3 =>
        if b = true then te σ2 H3 fun y H4 => ∃ acc, H4 D = some (.lst acc) ∧ acc.length < sizeLine ∧ Nx (upd H4 D (.lst (acc ++ [y]))) else Nx H3) := by
  refine ⟨fun i m H => m = ys.length - i ∧ i ≤ ys.length ∧ Pv i H, ⟨ys.length, by simp, Nat.zero_le _, h0⟩, ?_⟩
  rintro i m H ⟨rfl, hi, p⟩
  obtain ⟨q1, q2⟩ := hl i H hi p
  by_cases hlt : i < ys.length
  · have hlx : i < xs.length := Nat.lt_of_lt_of_le hlt le
    refine .inr ⟨⟨xs, ys, xs[i], ys[i], q1, q2, by simp [hlx], by simp [hlt]⟩, Pv (i + 1), fun H' p' => ⟨ys.length - (i + 1), by omega, rfl, hlt, p'⟩, fun x H' y => ?_⟩
    obtain ⟨t, x1, y1, rfl, nt, rfl, e1, e2⟩ := y
    exact hs i x1 y1 H t (e1 xs q1) (e2 ys q2) p nt
  · have e : i = ys.length := by omega
    subst e
    exact .inl ⟨⟨xs, ys, q1, q2, .inr (Nat.le_refl _)⟩, hd H p⟩
abbrev rowsD (L : List (Z × Int)) : PyData := .tuple (L.map rowD)
theorem rp_rowsAll {K : PySem.W.Frag} {H : Hp} : ∀ {L : List (Z × Int)} {ts : List Addr}, Paired (RowT H) L ts → RpAll K H (ts.map V.ref) (L.map rowD)
  | _, _, .nil => .nil
  | _, _, .cons x r => .cons (rp_row x) (rp_rowsAll r)
theorem rp_rows {K : PySem.W.Frag} {H : Hp} {L : List (Z × Int)} {r : Addr} (x : RowsAt H r L) : Rp K H (.ref r) (rowsD L) := by
  obtain ⟨ts, tf, pr⟩ := x
  exact .tup tf.sq (rp_rowsAll pr)
/-- the rows L at r, a tuple -/
def RowsQ (K : PySem.W.Frag) (H : Hp) (r : Addr) (L : List (Z × Int)) : Prop := ∃ ts : List Addr, SqT K H r (ts.map V.ref) ∧ Paired (RowT H) L ts
theorem RowsQ.same {K : PySem.W.Frag} {H G : Hp} {r : Addr} {L : List (Z × Int)} (s : Same H G) (x : RowsQ K H r L) : RowsQ K G r L := by
  obtain ⟨ts, a, p⟩ := x
  exact ⟨ts, sqT_same s a, rows_same s p⟩
theorem RowsAt.q {K : PySem.W.Frag} {H : Hp} {r : Addr} {L : List (Z × Int)} (x : RowsAt H r L) : RowsQ K H r L := by
  obtain ⟨ts, a, p⟩ := x
  exact ⟨ts, a.sq, p⟩
def KeyT (H : Hp) (e : Z × Int) (c : Addr) : Prop := H c = some (.tup [.str e.1.1, .str e.1.2])
def spRs (K : PySem.W.Frag) : Sp := fun vs H Q _ => ∃ (r : Addr) (L : List (Z × Int)), vs = [.ref r] ∧ RowsQ K H r L ∧ RowsOk L ∧ L.length ≤ 900 ∧ ∀ H', Same H H' → Q (.bl true) H'
section
variable {P : Program} {w : World} {K : PySem.W.Frag} {mg : Str → Option Value} {base : Heap}
theorem scRs : FnScope ["value", "places", "row", "one", "other"] ["value"] (defScope sRs) := ⟨rfl, rfl, rfl, by decide +kernel, rfl, by decide +kernel, by decide +kernel⟩
theorem ok_rs {f fR : Addr} {fd fdR : FuncData} (F : Fun K "is_rows" "is_rows" sRs f fd) (T : TxtH mg) (TZ : mg "zip" = none)
    (GRw : FnOk P w K mg base CX0 3 fR fdR ["value"] spRw) (TRw : DefT K mg "is_row" fR) (bRw : Binds K fdR ["value"] []) : FnOk P w K mg base CX0 4 f fd ["value"] (spRs K) := by
  refine F.ok scRs (fun vs H Q E h => ?_) (fun cdv A outer s H vs Q E hr h => ?_)
  · obtain ⟨r, L, rfl, _⟩ := h
    rfl
  · obtain ⟨r, L, rfl, rows, rok, ll, k⟩ := h
    have hu := hu_of hr
    refine ⟨_, (pss_cons (ps_if (PW.pt (pw_or (pt_not (pt_val (pe_callB call_isi (by rfl) T.isinstance (by decide +kernel) (pa_cons (pv 0) (pa_cons (pe_bltn (v := V.ty "tuple") (by rfl) T.tuple (by decide +kernel) rfl) pa_nil))))) (pw_or1 (pt_not (pt_val (pe_callB (cr_all rfl) (by rfl) T.all (by decide +kernel) (pa_cons (pe_lc (own := [("row", 2)]) (g := gName 2) (tt := tYes) (te := (tCall spRw [] E0 (tCons (tVar 2) tNil))) rfl scRs.nd (pi_tup (pv 0)) (blkOk_by (N := ["value", "places", "row", "one", "other"]) (sc := defScope sRs) (by decide +kernel)) (fun _ _ _ _ _ => by exact (pg_name (i := 2) scRs.nd rfl (Or.inl rfl))) (fun _ _ _ _ _ => by exact pts_nil) (fun _ _ _ _ _ => by exact (pe_call GRw (hr.mono (by decide)) rfl TRw.mg TRw.kp bRw .nil pass0 (pa_cons (pv 2) pa_nil)))) pa_nil))))))) (pss_one (ps_ret pe_bl)) pss_nil)
      (pss_cons (ps_setLc (i := 1) (own := [("row", 2)]) (g := gName 2) (tt := tYes) (te := (tOp (rIxT K) (tVar 2) (tC (.int 0)))) rfl scRs.nd rfl rfl (by rfl) (pi_tup (pv 0)) (blkOk_by (N := ["value", "places", "row", "one", "other"]) (sc := defScope sRs) (by decide +kernel)) (fun _ _ _ _ _ => by exact (pg_name (i := 2) scRs.nd rfl (Or.inl rfl))) (fun _ _ _ _ _ => by exact pts_nil) (fun _ _ _ _ _ => by exact (pe_ix ix_tup (pv 2) pe_int (fun _ _ => rfl))))
      (pss_one (ps_ret (pe_callB (cr_all rfl) (by rfl) T.all (by decide +kernel) (pa_cons (pe_lc (own := [("one", 3), ("other", 4)]) (g := gTup K 2 (gCons (gName 3) (gCons (gName 4) gNil))) (tt := tYes) (te := (tOp (KSrt.rLt2 K) (tVar 3) (tVar 4))) rfl scRs.nd (pi_zip (by rfl) TZ (pa_cons (pv 1) (pa_cons (pe_slice sl_list (pv 1) (po_some pe_int) po_none) pa_nil))) (blkOk_by (N := ["value", "places", "row", "one", "other"]) (sc := defScope sRs) (by decide +kernel)) (fun _ _ _ _ _ => by exact (pg_tup (by rfl) (pgs_cons (pg_name (i := 3) scRs.nd rfl (Or.inl rfl)) (pgs_cons (pg_name (i := 4) scRs.nd rfl (Or.inl rfl)) pgs_nil)))) (fun _ _ _ _ _ => by exact pts_nil) (fun _ _ _ _ _ => by exact (pe_cmpR (KSrt.op_lt2 (Nat.lt_of_succ_lt hu)) (pv 3) (pv 4) (nomark _)))) pa_nil)))))), ?_⟩
    obtain ⟨ts, tf, pr⟩ := rows
    have rp : Rp K H (.ref r) (rowsD L) := .tup tf (rp_rowsAll pr)
    have len : L.length = ts.length := paired_length pr
    have sq := tf
    refine ⟨_, rfl, .ref r, .ty "tuple", _, _, _, rfl, .ty _, rp_ty rp, kit_tup _, _, rfl, ite2 (fun h1 => absurd (show false = true from h1) (by decide)) (fun _ => ?_)⟩
    refine ⟨_, rfl, r, rfl, ⟨_, sq⟩, fun D hD => lc_tup (xs := ts.map V.ref) (fun i G => G D = some (.lst ((List.replicate i true).map V.bl)) ∧ Same H G) ⟨upd_same, same_new hD⟩ (fun i G _ h => sqT_same h.2 sq) (fun i x G hx h => ?_) (fun G h => ?_)⟩
    · obtain ⟨e, s1⟩ := h
      obtain ⟨c, hc, rfl⟩ : ∃ c, ts[i]? = some c ∧ V.ref c = x := by
        rw [List.getElem?_map] at hx
        obtain ⟨c, a, b⟩ := Option.map_eq_some_iff.mp hx
        exact ⟨c, a, b⟩
      obtain ⟨e0, he, row⟩ := pget pr hc
      have m := List.mem_of_getElem? he
      have ilt : i < 900 := by
        have := (List.getElem?_eq_some_iff.mp he).1
        omega
      obtain ⟨w1, w2, v0, v1⟩ := rok.ok e0 m
      refine ⟨rfl, ?_⟩
      unfold tYes
      simp only [↓reduceIte]
      refine ⟨_, rfl, c, e0, rfl, RowT.same s1 row, w1, w2, ⟨v0, v1⟩, rok.nz e0 m, fun G2 s2 => ⟨_, s2 _ _ e, ?_, ?_, fun b o q => ?_⟩⟩
      · rw [List.length_map, List.length_replicate]
        exact Nat.lt_trans ilt (by decide)
      · rw [upd_same, List.replicate_succ', List.map_append]
        rfl
      · rw [upd_ne (ne_of_none q hD)]
        exact s2 _ _ (s1 _ _ q)
    obtain ⟨eD, s1⟩ := h
    refine ⟨D, _, rfl, SqL.of eD, ?_⟩
    rw [show ∀ n, (List.replicate n true).all id = true from fun n => by simp]
    refine ⟨true, rfl, iteF ?_⟩
    refine ⟨_, rfl, r, rfl, ⟨_, sqT_same s1 sq⟩, fun D2 hD2 => lc_tup (xs := ts.map V.ref) (fun i G2 => ∃ cs : List Addr, G2 D2 = some (.lst (cs.map V.ref)) ∧ Paired (KeyT H) (L.take i) cs ∧ Same G G2) ⟨[], upd_same, .nil, same_new hD2⟩ (fun i G2 _ h => by
      obtain ⟨_, _, _, s2⟩ := h
      exact sqT_same (s1.trans s2) sq) (fun i x G2 hx h => ?_) (fun G2 h => ?_)⟩
    · obtain ⟨cs, e, pk, s2⟩ := h
      obtain ⟨t, ht, rfl⟩ : ∃ c, ts[i]? = some c ∧ V.ref c = x := by
        rw [List.getElem?_map] at hx
        obtain ⟨c, a, b⟩ := Option.map_eq_some_iff.mp hx
        exact ⟨c, a, b⟩
      obtain ⟨e0, he, c, r1, r2⟩ := pget pr ht
      refine ⟨rfl, ?_⟩
      unfold tYes
      simp only [↓reduceIte]
      refine ⟨_, rfl, t, _, 0, .ref c, rfl, rfl, SqT.of (s2 _ _ (s1 _ _ r1)), atI_nat (j := 0) rfl, _, e, ?_, cs ++ [c], ?_, ?_, fun b o q => ?_⟩
      · have q := paired_length pk
        rw [List.length_map, ← q, List.length_take]
        exact Nat.lt_of_le_of_lt (show min i L.length ≤ 900 by omega) (by decide)
      · rw [upd_same, List.map_append]
        rfl
      · rw [take_more he]
        exact paired_snoc (F := KeyT H) r2 pk
      · rw [upd_ne (ne_of_none q hD2)]
        exact s2 _ _ q
    obtain ⟨cs, e, pk, s2⟩ := h
    rw [List.length_map, ← len, List.take_length] at pk
    have lc := paired_length pk
    refine ⟨_, rfl, _, rfl, 1, rfl, D2, _, rfl, SqL.of e, fun p np => ?_⟩
    have ec : cutV (cs.map V.ref) (some 1) none = (cs.map V.ref).drop 1 := cut_from1 (i := 1)
    rw [ec]
    have s3 : Same G2 (upd G2 p (.lst ((cs.map V.ref).drop 1))) := same_new np
    refine ⟨D2, p, _, _, rfl, SqL.of (s3 _ _ e), SqL.of upd_same, fun D3 hD3 => ?_⟩
    have s4 := (s1.trans s2).trans s3
    refine lc_zip (a := D2) (b := p) (xs := cs.map V.ref) (ys := (cs.map V.ref).drop 1) (by rw [List.length_drop]; omega) (fun i G3 => G3 D3 = some (.lst ((List.replicate i true).map V.bl)) ∧ Same (upd G2 p (.lst ((cs.map V.ref).drop 1))) G3) ⟨upd_same, same_new hD3⟩ (fun i G3 _ h => ⟨SqL.of (h.2 _ _ (s3 _ _ e)), SqL.of (h.2 _ _ upd_same)⟩) (fun i x y G3 t hx hy h nt => ?_) (fun G3 h => ?_)
    · obtain ⟨c1, h1, rfl⟩ : ∃ c, cs[i]? = some c ∧ V.ref c = x := by
        rw [List.getElem?_map] at hx
        obtain ⟨c, a, b⟩ := Option.map_eq_some_iff.mp hx
        exact ⟨c, a, b⟩
      obtain ⟨c2, h2, rfl⟩ : ∃ c, cs[1 + i]? = some c ∧ V.ref c = y := by
        rw [List.getElem?_drop, List.getElem?_map] at hy
        obtain ⟨c, a, b⟩ := Option.map_eq_some_iff.mp hy
        exact ⟨c, a, b⟩
      obtain ⟨e1, he1, k1⟩ := pget pk h1
      obtain ⟨e2, he2, k2⟩ := pget pk h2
      have lt : KSrt.lt2 e1.1 e2.1 = true := by
        obtain ⟨l1, q1⟩ := List.getElem?_eq_some_iff.mp he1
        obtain ⟨l2, q2⟩ := List.getElem?_eq_some_iff.mp he2
        have := List.pairwise_iff_getElem.mp rok.up i (1 + i) l1 l2 (by omega)
        rw [q1, q2] at this
        exact this
      have ilt : i < 900 := by
        have := (List.getElem?_eq_some_iff.mp he1).1
        omega
      have s5 : Same H (upd G3 t (.tup [.ref c1, .ref c2])) := (s4.trans h.2).trans (same_new nt)
      refine ⟨t, _, rfl, SqT.of upd_same, rfl, _, _, rfl, _, _, rfl, rfl, rfl, ?_⟩
      unfold tYes
      simp only [↓reduceIte]
      refine ⟨_, rfl, _, rfl, c1, c2, e1.1, e2.1, rfl, rfl, SqT.of (s5 _ _ k1), SqT.of (s5 _ _ k2), _, same_new nt _ _ h.1, ?_, ?_, fun b o q => ?_⟩
      · rw [List.length_map, List.length_replicate]
        exact Nat.lt_trans ilt (by decide)
      · rw [upd_same, lt, List.replicate_succ', List.map_append]
        rfl
      · rw [upd_ne (ne_of_none q hD3)]
        exact same_new nt _ _ (h.2 _ _ q)
    · obtain ⟨eD, s6⟩ := h
      refine ⟨D3, _, rfl, SqL.of eD, ?_⟩
      rw [show ∀ n, (List.replicate n true).all id = true from fun n => by simp]
      exact k _ (s4.trans s6)
end
end Hd

set_option Elab.async false
set_option linter.all false
set_option maxRecDepth 100000
set_option maxHeartbeats 8000000
namespace Hd
open PySem L2 Pen RG Dat KEq
abbrev sCb : Stmt := top 16
theorem cl_mm (i : Int) : (if (if i < 99 then i else 99) > -99 then (if i < 99 then i else 99) else -99) = cl i := by
  unfold cl
  by_cases h1 : i > 99
  · rw [if_pos h1, if_neg (show ¬ i < 99 by omega)]
    rfl
  · rw [if_neg h1]
    by_cases h2 : i < -99
    · rw [if_pos h2, if_pos (show i < 99 by omega), if_neg (show ¬ i > -99 by omega)]
    · rw [if_neg h2]
      by_cases h3 : i < 99
      · rw [if_pos h3]
        by_cases h4 : i > -99
        · rw [if_pos h4]
        · rw [if_neg h4]
          omega
      · rw [if_neg h3]
        show (99 : Int) = i
        omega
def spCb (K : PySem.W.Frag) : Sp := fun vs H Q _ => ∃ (v : V) (hh : PyData) (a b : Int), vs = [v, .int a, .int b] ∧ Rp K H v hh ∧ (-99 ≤ a ∧ a ≤ 99) ∧ (-99 ≤ b ∧ b ≤ 99) ∧ Q (.int (cl (opE hh a b))) H
section
variable {P : Program} {w : World} {K : PySem.W.Frag} {mg : Str → Option Value} {base : Heap}
theorem scCb : FnScope ["sign", "left", "right", "result"] ["sign", "left", "right"] (defScope sCb) := ⟨rfl, rfl, rfl, by decide +kernel, rfl, by decide +kernel, by decide +kernel⟩
theorem ok_cb {f : Addr} {fd : FuncData} (F : Fun K "combined" "combined" sCb f fd) (T : TxtH mg) (Tmin : mg "min" = none) (Tmax : mg "max" = none) : FnOk P w K mg base CX0 1 f fd ["sign", "left", "right"] (spCb K) := by
  refine F.ok scCb (fun vs H Q E h => ?_) (fun cdv A outer s H vs Q E hr h => ?_)
  · obtain ⟨v, hh, a, b, rfl, _⟩ := h
    rfl
  · obtain ⟨v, hh, a, b, rfl, rp, ⟨a0, a1⟩, ⟨b0, b1⟩, k⟩ := h
    have hu := hu_of hr
    refine ⟨_, (pss_cons (ps_if (pt_cmpR (KEq.op_eqS hu) (pv 0) pe_str (nomark _)) (pss_one (ps_set (i := 3) scCb.nd rfl (Or.inl rfl) (pe_op op_add (pv 1) (pv 2)))) (pss_one (ps_if (pt_cmpR (KEq.op_eqS hu) (pv 0) pe_str (nomark _)) (pss_one (ps_set (i := 3) scCb.nd rfl (Or.inl rfl) (pe_op op_sub (pv 1) (pv 2)))) (pss_one (ps_set (i := 3) scCb.nd rfl (Or.inl rfl) (pe_op op_mul (pv 1) (pv 2)))))))
      (pss_one (ps_ret (pe_callB (call_max2 rfl) (by rfl) Tmax (by decide +kernel) (pa_cons (pe_un un_neg (pe_glob (v := V.int 99) (by rfl) T.BOUND.choose_spec ⟨_, rfl⟩)) (pa_cons (pe_callB (call_min2 rfl) (by rfl) Tmin (by decide +kernel) (pa_cons (pe_glob (v := V.int 99) (by rfl) T.BOUND.choose_spec ⟨_, rfl⟩) (pa_cons (pv 3) pa_nil))) pa_nil)))))), ?_⟩
    unfold opE at k
    refine ⟨_, rfl, hh, _, rp, rfl, _, rfl, ite2 (fun i1 => ?_) (fun i1 => ?_)⟩
    · rw [if_pos i1] at k
      refine ⟨_, rfl, _, rfl, _, _, rfl, rfl, ?_⟩
      refine ⟨_, rfl, _, rfl, _, _, rfl, _, _, rfl, ?_⟩
      rw [← cl_mm] at k
      exact k
    rw [if_neg i1] at k
    refine ⟨_, rfl, hh, _, rp, rfl, _, rfl, ite2 (fun i2 => ?_) (fun i2 => ?_)⟩
    · rw [if_pos i2] at k
      refine ⟨_, rfl, _, rfl, _, _, rfl, rfl, ?_⟩
      refine ⟨_, rfl, _, rfl, _, _, rfl, _, _, rfl, ?_⟩
      rw [← cl_mm] at k
      exact k
    · rw [if_neg i2] at k
      refine ⟨_, rfl, _, rfl, _, _, rfl, rfl, .inl ⟨by omega, by omega⟩, ?_⟩
      refine ⟨_, rfl, _, rfl, _, _, rfl, _, _, rfl, ?_⟩
      rw [← cl_mm] at k
      exact k
end
end Hd

set_option Elab.async false
set_option linter.all false
set_option maxRecDepth 100000
set_option maxHeartbeats 8000000
namespace Hd
open PySem L2 Pen RG Dat KEq
/-- a statement of a class's body -/
def inCl : Stmt → Nat → Stmt
  | .ClassDef _ _ _ b .., j => b.getD j (.Pass default)
  | s, _ => s
abbrev cRun : Stmt := top 17
abbrev sRe : Stmt := inCl cRun 3
/-- the class Run -/
structure RunC (K : PySem.W.Frag) (C : Addr) : Prop where
  cls : Cls K C
  key : NoAttr K C "key"
  body : NoAttr K C "body"
  table : NoAttr K C "table"
  sends : NoAttr K C "sends"
  failed : NoAttr K C "failed"
  reads : NoAttr K C "reads"
  writes : NoAttr K C "writes"
abbrev mrk (z : Z) : List L2.Key × V := (kp z, .bl true)
def mput (R : List Z) (z : Z) : List Z := if z ∈ R then R else R ++ [z]
theorem mput_len (R : List Z) (z : Z) : (mput R z).length ≤ R.length + 1 := by
  unfold mput
  split
  · omega
  · rw [List.length_append, List.length_singleton]
    exact Nat.le_refl _
theorem mput_nodup {R : List Z} {z : Z} (h : R.Nodup) : (mput R z).Nodup := by
  unfold mput
  split
  · exact h
  · next q =>
    rw [List.nodup_append]
    refine ⟨h, List.nodup_cons.mpr ⟨List.not_mem_nil, List.nodup_nil⟩, fun a ha b hb e => ?_⟩
    rw [List.mem_singleton] at hb
    rw [e, hb] at ha
    exact q ha
theorem val_mrk : ∀ (R : List Z) (z : Z), valV (R.map mrk) (kp z) = if z ∈ R then some (.bl true) else none
  | [], z => rfl
  | x :: R, z => by
    by_cases h : x = z
    · rw [List.map_cons, valV_pos (show (mrk x).1 = kp z by rw [← h]), if_pos (by rw [h]; exact List.mem_cons_self)]
    · rw [List.map_cons, valV_neg (fun y => h (kp_inj y)), val_mrk R z]
      by_cases q : z ∈ R
      · rw [if_pos q, if_pos (List.mem_cons_of_mem _ q)]
      · rw [if_neg q, if_neg (fun y => (List.mem_cons.mp y).elim (fun e => h e.symm) q)]
theorem put_mrk (R : List Z) (z : Z) : putK (R.map mrk) (kp z) (.bl true) = (mput R z).map mrk := by
  unfold putK mput
  rw [valV_any, val_mrk]
  by_cases h : z ∈ R
  · rw [if_pos h, if_pos h, Option.isSome_some, if_pos rfl, List.map_map]
    refine List.map_congr_left fun x _ => ?_
    show (if kp x = kp z then (kp x, V.bl true) else mrk x) = mrk x
    split <;> rfl
  · rw [if_neg h, if_neg h, Option.isSome_none, if_neg (by decide), List.map_append]
    rfl
/-- a run under way: the object at o, its table at d, what is sent at sl, what is read at rd, written at wd -/
structure RunS (C : Addr) (H : Hp) (o d sl rd wd : Addr) (key : Str) (body : Int) (fb : Bool) (st : Sta) (R W : List Z) : Prop where
  obj : ∃ dx, H o = some (.ins C dx [("key", .str key), ("body", .int body), ("table", .ref d), ("sends", .ref sl), ("failed", .bl fb), ("reads", .ref rd), ("writes", .ref wd)])
  sta : StAt H d sl st
  rds : H rd = some (.dT (R.map mrk))
  wds : H wd = some (.dT (W.map mrk))
  nR : R.Nodup
  nW : W.Nodup
  d1 : d ≠ rd
  d2 : d ≠ wd
  d3 : rd ≠ wd
/-- the fields of a run, read -/
theorem RunS.fresh {C : Addr} {H H' : Hp} {o d sl rd wd : Addr} {key : Str} {body : Int} {fb : Bool} {st : Sta} {R W : List Z} (x : RunS C H o d sl rd wd key body fb st R W) (s : Same H H') : RunS C H' o d sl rd wd key body fb st R W := by
  obtain ⟨⟨dx, a⟩, b, c, e, f, g, h, i, j⟩ := x
  exact ⟨⟨dx, s _ _ a⟩, b.same s, s _ _ c, s _ _ e, f, g, h, i, j⟩
theorem RunS.or {C : Addr} {H : Hp} {o d sl rd wd : Addr} {key : Str} {body : Int} {fb : Bool} {st : Sta} {R W : List Z} (x : RunS C H o d sl rd wd key body fb st R W) : o ≠ rd := by
  obtain ⟨⟨dx, a⟩, b, c, e, f, g, h, i, j⟩ := x
  exact ne_of a c (by intro z; cases z)
theorem RunS.slr {C : Addr} {H : Hp} {o d sl rd wd : Addr} {key : Str} {body : Int} {fb : Bool} {st : Sta} {R W : List Z} (x : RunS C H o d sl rd wd key body fb st R W) : sl ≠ rd := by
  obtain ⟨⟨dx, a⟩, ⟨b1, b2, b3, ts, b4, b5⟩, c, e, f, g, h, i, j⟩ := x
  exact ne_of b4 c (by intro z; cases z)
theorem RunS.putR {C : Addr} {H : Hp} {o d sl rd wd : Addr} {key : Str} {body : Int} {fb : Bool} {st : Sta} {R W : List Z} {z : Z} (x : RunS C H o d sl rd wd key body fb st R W) : RunS C (upd H rd (.dT ((mput R z).map mrk))) o d sl rd wd key body fb st (mput R z) W := by
  have n1 := x.or
  have n2 := x.slr
  have sy : SameY rd rd H (upd H rd (.dT ((mput R z).map mrk))) := fun a o h1 _ h => (upd_ne h1).trans h
  obtain ⟨⟨dx, a⟩, ⟨b1, b2, b3, ts, b4, b5⟩, c, e, f, g, h, i, j⟩ := x
  exact ⟨⟨dx, (upd_ne n1).trans a⟩, ⟨(upd_ne h).trans b1, b2, b3, ts, (upd_ne n2).trans b4, snds_y sy c noT_dT c noT_dT b5⟩, upd_same, (upd_ne j.symm).trans e, mput_nodup f, g, h, i, j⟩
def spRe (C : Addr) : Sp := fun vs H Q _ => ∃ (o d sl rd wd pl : Addr) (key : Str) (body : Int) (fb : Bool) (st : Sta) (R W : List Z) (z : Z), vs = [.ref o, .ref pl] ∧ RunS C H o d sl rd wd key body fb st R W ∧ H pl = some (.tup [.str z.1, .str z.2]) ∧ R.length < 500000 ∧
  ∀ R' H', RunS C H' o d sl rd wd key body fb st R' W → R'.length ≤ R.length + 1 → SameX rd H H' → Q (.int ((lk st.t z).getD 0)) H'
section
variable {P : Program} {w : World} {K : PySem.W.Frag} {mg : Str → Option Value} {base : Heap}
theorem scRe : FnScope ["self", "place"] ["self", "place"] (defScope sRe) := ⟨rfl, rfl, rfl, by decide +kernel, rfl, by decide +kernel, by decide +kernel⟩
theorem ok_re {f C : Addr} {fd : FuncData} (F : Fun K "read" "Run.read" sRe f fd) (c : RunC K C) : FnOk P w K mg base CX0 1 f fd ["self", "place"] (spRe C) := by
  refine F.ok scRe (fun vs H Q E h => ?_) (fun cdv A outer s H vs Q E hr h => ?_)
  · obtain ⟨o, d, sl, rd, wd, pl, key, body, fb, st, R, W, z, rfl, _⟩ := h
    rfl
  · obtain ⟨o, d, sl, rd, wd, pl, key, body, fb, st, R, W, z, rfl, S, hp, hR, k⟩ := h
    have hu := hu_of hr
    refine ⟨_, (pss_cons (ps_if (pt_cmp (pc_dnotin hu (pv 1) (pe_fld (pv 0) (by rfl)))) (pss_one (ps_dput hu (pe_fld (pv 0) (by rfl)) (pv 1) pe_bl rfl)) pss_nil)
      (pss_one (ps_ret (pe_dget2 hu (pe_fld (pv 0) (by rfl)) (pv 1) pe_int ⟨by rfl, by rfl, by rfl, by rfl⟩)))), ?_⟩
    obtain ⟨dx, ob⟩ := S.obj
    have gw : DGet H wd (.ref pl) (if z ∈ W then some (.bl true) else none) := by
      have q := DGet.t (k := kp z) S.wds hp
      rw [val_mrk] at q
      exact q
    have tail : ∀ (G : Hp) (R' : List Z), RunS C G o d sl rd wd key body fb st R' W → G pl = some (.tup [.str z.1, .str z.2]) → R'.length ≤ R.length + 1 → SameX rd H G →
        DGet G d (.ref pl) ((lk st.t z).map V.int) ∧ Q (((lk st.t z).map V.int).getD (.int 0)) G := by
      intro G R' S' hp' hl sx
      constructor
      · have q := DGet.t (k := kp z) S'.sta.tab hp'
        rw [val_ent] at q
        exact q
      · have e : ((lk st.t z).map V.int).getD (.int 0) = .int ((lk st.t z).getD 0) := by cases lk st.t z <;> rfl
        rw [e]
        exact k R' G S' hl sx
    refine ⟨_, rfl, _, rfl, o, C, dx, _, .ref wd, rfl, ob, c.cls, c.writes, rfl, wd, _, rfl, gw, _, rfl, ite2 (fun h1 => ?_) (fun h1 => ?_)⟩
    · have nw : z ∉ W := fun m => by
        rw [if_pos m] at h1
        cases h1
      have pd : DPut H rd (.ref pl) (.bl true) (upd H rd (.dT ((mput R z).map mrk))) := by
        have g := DPut.t (k := kp z) (v := .bl true) S.rds hp (by rw [List.length_map]; exact Nat.lt_trans hR (by decide))
        rw [put_mrk] at g
        exact g
      refine ⟨_, rfl, o, C, dx, _, .ref rd, rfl, ob, c.cls, c.reads, rfl, _, rfl, rd, _, rfl, pd, ?_⟩
      have S2 := S.putR (z := z)
      obtain ⟨dx2, ob2⟩ := S2.obj
      have nprd : pl ≠ rd := ne_of hp S.rds (by intro y; cases y)
      obtain ⟨t1, t2⟩ := tail _ _ S2 ((upd_ne nprd).trans hp) (mput_len R z) (fun a oo n h => (upd_ne n).trans h)
      exact ⟨_, rfl, o, C, dx2, _, .ref d, rfl, ob2, c.cls, c.table, rfl, d, rfl, .inr ⟨_, .inl S2.sta.tab⟩, _, rfl, _, t1, t2⟩
    · obtain ⟨t1, t2⟩ := tail H R S hp (Nat.le_succ _) SameX.refl
      exact ⟨_, rfl, o, C, dx, _, .ref d, rfl, ob, c.cls, c.table, rfl, d, rfl, .inr ⟨_, .inl S.sta.tab⟩, _, rfl, _, t1, t2⟩
end
end Hd

set_option Elab.async false
set_option linter.all false
set_option maxRecDepth 100000
set_option maxHeartbeats 8000000
namespace Hd
open PySem L2 Pen RG Dat KEq
abbrev sWo : Stmt := inCl cRun 4
def spWo (K : PySem.W.Frag) (C : Addr) (m : Nat) : Sp := fun vs H Q _ => ∃ (o d sl rd wd : Addr) (key : Str) (body : Int) (fb : Bool) (st : Sta) (R W : List Z) (v : V) (dd : PyData) (j : Nat), vs = [.ref o, v] ∧ j < m ∧ RunS C H o d sl rd wd key body fb st R W ∧ Rp K (delp rd H) v dd ∧ isE j dd = true ∧ R.length + 2 ^ j < 500000 ∧ (-99 ≤ body ∧ body ≤ 99) ∧
  ∀ R' H', RunS C H' o d sl rd wd key body fb st R' W → R'.length ≤ R.length + 2 ^ j → SameX rd H H' → Q (.int (evE st.t key body j dd)) H'
section
variable {P : Program} {w : World} {K : PySem.W.Frag} {mg : Str → Option Value} {base : Heap}
theorem scWo : FnScope ["self", "expression", "head"] ["self", "expression"] (defScope sWo) := ⟨rfl, rfl, rfl, by decide +kernel, rfl, by decide +kernel, by decide +kernel⟩
theorem ok_wo {f C fRe fCb : Addr} {fd fdRe fdCb : FuncData} (F : Fun K "worth" "Run.worth" sWo f fd) (c : RunC K C) (mWo : Meth K C "worth" f) (bWo : Binds K fd ["self", "expression"] [])
    (GRe : FnOk P w K mg base CX0 1 fRe fdRe ["self", "place"] (spRe C)) (mRe : Meth K C "read" fRe) (bRe : Binds K fdRe ["self", "place"] [])
    (GCb : FnOk P w K mg base CX0 1 fCb fdCb ["sign", "left", "right"] (spCb K)) (TCb : DefT K mg "combined" fCb) (bCb : Binds K fdCb ["sign", "left", "right"] []) : ∀ m, FnOk P w K mg base CX0 (m + 2) f fd ["self", "expression"] (spWo K C m)
  | 0 => by
    refine F.ok scWo (fun vs H Q E h => ?_) (fun cdv A outer s H vs Q E hr h => ?_)
    · obtain ⟨o, d, sl, rd, wd, key, body, fb, st, R, W, v, dd, j, rfl, _⟩ := h
      rfl
    · obtain ⟨o, d, sl, rd, wd, key, body, fb, st, R, W, v, dd, j, rfl, lt, _⟩ := h
      exact absurd lt (Nat.not_lt_zero _)
  | m + 1 => by
    have GWo := ok_wo F c mWo bWo GRe mRe bRe GCb TCb bCb m
    refine F.ok scWo (fun vs H Q E h => ?_) (fun cdv A outer s H vs Q E hr h => ?_)
    · obtain ⟨o, d, sl, rd, wd, key, body, fb, st, R, W, v, dd, j, rfl, _⟩ := h
      rfl
    · obtain ⟨o, d, sl, rd, wd, key, body, fb, st, R, W, v, dd, j, rfl, lt, S, r, he, hR, ⟨b0, b1⟩, k⟩ := h
      have hu := hu_of hr
      refine ⟨_, (pss_cons (ps_set (i := 2) scWo.nd rfl (Or.inl rfl) (pe_ix ix_tup (pv 1) pe_int (fun _ _ => rfl)))
      (pss_cons (ps_if (pt_cmpR (KEq.op_eqS hu) (pv 2) pe_str (nomark _)) (pss_one (ps_ret (pe_ix ix_tup (pv 1) pe_int (fun _ _ => rfl)))) pss_nil)
      (pss_cons (ps_if (pt_cmpR (KEq.op_eqS hu) (pv 2) pe_str (nomark _)) (pss_one (ps_ret (pe_fld (pv 0) (by rfl)))) pss_nil)
      (pss_cons (ps_if (pt_cmpR (KEq.op_eqS hu) (pv 2) pe_str (nomark _)) (pss_one (ps_ret (pe_meth (pv 0) c.cls mRe GRe (hr.mono (by omega)) bRe .nil pass0 (pa_cons (Ab.pe_tupA (pa_cons (pe_ix ix_tup (pv 1) pe_int (fun _ _ => rfl)) (pa_cons (pe_fld (pv 0) (by rfl)) pa_nil))) pa_nil) (by rfl) (by rfl)))) pss_nil)
      (pss_one (ps_ret (pe_call GCb (hr.mono (by omega)) rfl TCb.mg TCb.kp bCb .nil pass0 (pa_cons (pv 2) (pa_cons (pe_meth (pv 0) c.cls mWo GWo (hr.mono (by omega)) bWo .nil pass0 (pa_cons (pe_ix ix_tup (pv 1) pe_int (fun _ _ => rfl)) pa_nil) (by rfl) (by rfl)) (pa_cons (pe_meth (pv 0) c.cls mWo GWo (hr.mono (by omega)) bWo .nil pass0 (pa_cons (pe_ix ix_tup (pv 1) pe_int (fun _ _ => rfl)) pa_nil) (by rfl) (by rfl)) pa_nil)))))))))), ?_⟩
      obtain ⟨n, hh, tl, rfl, rfl, q⟩ := e_cases he
      obtain ⟨dx, ob⟩ := S.obj
      have ge1 : 1 ≤ 2 ^ (n + 1) := Nat.one_le_two_pow
      cases r with
      | @tup a xs ds qa rr =>
        cases rr with
        | @cons hv xv h tl rh rt =>
          have up : ∀ {G : Hp}, SameX rd H G → SqT K G a (hv :: xv) := fun s => sqT_same delp_le (sqT_same (delp_same s) qa)
          refine ⟨_, rfl, a, hv :: xv, 0, hv, rfl, rfl, up SameX.refl, atI_nat (j := 0) rfl, ?_⟩
          refine ⟨_, rfl, hh, _, Rp.same delp_le rh, rfl, _, rfl, ite2 (fun i1 => ?_) (fun i1 => ?_)⟩
          · rcases q with ⟨_, i, rfl, _⟩ | ⟨z, _⟩ | ⟨z, _⟩ | ⟨z, _⟩
            · cases rt with
              | @cons x _ _ _ rx rn =>
                cases rn
                cases rx
                refine ⟨_, rfl, a, _, 1, _, rfl, rfl, up SameX.refl, atI_nat (j := 1) rfl, ?_⟩
                have kk := k R H S (Nat.le_add_right _ _) SameX.refl
                unfold evE at kk
                rw [if_pos i1] at kk
                exact kk
            all_goals exact absurd i1 z
          refine ⟨_, rfl, hh, _, Rp.same delp_le rh, rfl, _, rfl, ite2 (fun i2 => ?_) (fun i2 => ?_)⟩
          · have kk := k R H S (Nat.le_add_right _ _) SameX.refl
            unfold evE at kk
            rw [if_neg i1, if_pos i2] at kk
            exact ⟨_, rfl, o, C, dx, _, .int body, rfl, ob, c.cls, c.body, rfl, kk⟩
          refine ⟨_, rfl, hh, _, Rp.same delp_le rh, rfl, _, rfl, ite2 (fun i3 => ?_) (fun i3 => ?_)⟩
          · rcases q with ⟨z, _⟩ | ⟨_, z, _⟩ | ⟨_, _, _, z, rfl, _⟩ | ⟨_, _, z, _⟩
            · exact absurd z i1
            · exact absurd z i2
            · cases rt with
              | @cons x _ _ _ rx rn =>
                cases rn
                cases rx
                refine ⟨_, rfl, o, dx, _, rfl, ob, rfl, ?_⟩
                refine ⟨_, rfl, a, _, 1, _, rfl, rfl, up SameX.refl, atI_nat (j := 1) rfl, _, rfl, o, C, dx, _, .str key, rfl, ob, c.cls, c.key, rfl, sz (by simp), fun pl G np sp ep => ?_⟩
                refine ⟨o, d, sl, rd, wd, pl, key, body, fb, st, R, W, (z, key), rfl, S.fresh sp, ep, by omega, fun R' G2 S2 l2 x2 => ?_⟩
                have kk := k R' G2 S2 (by omega) ((Same.X sp).trans x2)
                unfold evE at kk
                rw [if_neg i1, if_neg i2, if_pos i3] at kk
                exact kk
            · exact absurd i3 z
          rcases q with ⟨z, _⟩ | ⟨_, z, _⟩ | ⟨_, _, z, _⟩ | ⟨_, _, _, i4, da, db, rfl, ea, eb⟩
          · exact absurd z i1
          · exact absurd z i2
          · exact absurd z i3
          obtain ⟨x, y, da', db', rfl, e2, ra, rb⟩ := two_of rt (RpAll.len rt)
          cases e2
          have la : n < m := by omega
          have p2 : 2 ^ (n + 1) = 2 ^ n + 2 ^ n := by omega
          have pn : 1 ≤ 2 ^ n := Nat.one_le_two_pow
          refine ⟨_, rfl, _, rfl, o, dx, _, rfl, ob, rfl, _, rfl, a, _, 1, x, rfl, rfl, up SameX.refl, atI_nat (j := 1) rfl, o, d, sl, rd, wd, key, body, fb, st, R, W, x, da, n, rfl, la, S, ra, ea, by omega, ⟨b0, b1⟩, fun R1 H1 S1 l1 s1 => ?_⟩
          obtain ⟨dx1, ob1⟩ := S1.obj
          refine ⟨_, rfl, o, dx1, _, rfl, ob1, rfl, _, rfl, a, _, 2, y, rfl, rfl, up s1, atI_nat (j := 2) rfl, o, d, sl, rd, wd, key, body, fb, st, R1, W, y, db, n, rfl, la, S1, Rp.same (delp_same s1) rb, eb, by omega, ⟨b0, b1⟩, fun R2 H2 S2 l2 s2 => ?_⟩
          have kk := k R2 H2 S2 (by omega) (s1.trans s2)
          unfold evE at kk
          rw [if_neg i1, if_neg i2, if_neg i3] at kk
          exact ⟨_, hh, _, _, rfl, Rp.same delp_le (Rp.same (delp_same (s1.trans s2)) rh), ev_in S.sta.ok b0 b1 ea, ev_in S.sta.ok b0 b1 eb, kk⟩
end
end Hd

set_option Elab.async false
set_option linter.all false
set_option maxRecDepth 100000
set_option maxHeartbeats 8000000
namespace Hd
open PySem L2 Pen RG Dat KEq
abbrev sHo : Stmt := inCl cRun 5
theorem RunS.putL {C : Addr} {G : Hp} {o d sl rd wd D : Addr} {key : Str} {body : Int} {fb : Bool} {st : Sta} {R W : List Z} {acc acc' : List V} (x : RunS C G o d sl rd wd key body fb st R W) (e : G D = some (.lst acc)) (n : sl ≠ D) : RunS C (upd G D (.lst acc')) o d sl rd wd key body fb st R W := by
  have sy : SameY D D G (upd G D (.lst acc')) := fun a o h1 _ h => (upd_ne h1).trans h
  obtain ⟨⟨dx, a⟩, ⟨b1, b2, b3, ts, b4, b5⟩, c, f0, f, g, h, i, j⟩ := x
  exact ⟨⟨dx, (upd_ne (ne_of a e (by intro z; cases z))).trans a⟩, ⟨(upd_ne (ne_of b1 e (by intro z; cases z))).trans b1, b2, b3, ts, (upd_ne n).trans b4, snds_y sy e noT_lst e noT_lst b5⟩, (upd_ne (ne_of c e (by intro z; cases z))).trans c, (upd_ne (ne_of f0 e (by intro z; cases z))).trans f0, f, g, h, i, j⟩
def spHo (K : PySem.W.Frag) (C : Addr) (m : Nat) : Sp := fun vs H Q _ => ∃ (o d sl rd wd : Addr) (key : Str) (body : Int) (fb : Bool) (st : Sta) (R W : List Z) (v : V) (dd : PyData) (j : Nat), vs = [.ref o, v] ∧ j < m ∧ RunS C H o d sl rd wd key body fb st R W ∧ Rp K (delp rd H) v dd ∧ isC j dd = true ∧ R.length + 2 ^ (j + 7) < 500000 ∧ (-99 ≤ body ∧ body ≤ 99) ∧
  ∀ R' H', RunS C H' o d sl rd wd key body fb st R' W → R'.length ≤ R.length + 2 ^ (j + 7) → SameX rd H H' → Q (.bl (evC st.t key body j dd)) H'
section
variable {P : Program} {w : World} {K : PySem.W.Frag} {mg : Str → Option Value} {base : Heap}
theorem scHo : FnScope ["self", "condition", "head", "parts", "part"] ["self", "condition"] (defScope sHo) := ⟨rfl, rfl, rfl, by decide +kernel, rfl, by decide +kernel, by decide +kernel⟩
theorem ok_ho {f C fWo : Addr} {fd fdWo : FuncData} (F : Fun K "holds" "Run.holds" sHo f fd) (T : TxtH mg) (TAny : mg "any" = none) (c : RunC K C) (mHo : Meth K C "holds" f) (bHo : Binds K fd ["self", "condition"] [])
    (GWo : FnOk P w K mg base CX0 9 fWo fdWo ["self", "expression"] (spWo K C 7)) (mWo : Meth K C "worth" fWo) (bWo : Binds K fdWo ["self", "expression"] []) : ∀ m, FnOk P w K mg base CX0 (m + 10) f fd ["self", "condition"] (spHo K C m)
  | 0 => by
    refine F.ok scHo (fun vs H Q E h => ?_) (fun cdv A outer s H vs Q E hr h => ?_)
    · obtain ⟨o, d, sl, rd, wd, key, body, fb, st, R, W, v, dd, j, rfl, _⟩ := h
      rfl
    · obtain ⟨o, d, sl, rd, wd, key, body, fb, st, R, W, v, dd, j, rfl, lt, _⟩ := h
      exact absurd lt (Nat.not_lt_zero _)
  | m + 1 => by
    have GHo := ok_ho F T TAny c mHo bHo GWo mWo bWo m
    refine F.ok scHo (fun vs H Q E h => ?_) (fun cdv A outer s H vs Q E hr h => ?_)
    · obtain ⟨o, d, sl, rd, wd, key, body, fb, st, R, W, v, dd, j, rfl, _⟩ := h
      rfl
    · obtain ⟨o, d, sl, rd, wd, key, body, fb, st, R, W, v, dd, j, rfl, lt, S, r, he, hR, ⟨b0, b1⟩, k⟩ := h
      have hu := hu_of hr
      refine ⟨_, (pss_cons (ps_set (i := 2) scHo.nd rfl (Or.inl rfl) (pe_ix ix_tup (pv 1) pe_int (fun _ _ => rfl)))
      (pss_cons (ps_if (pt_cmpR (KEq.op_eqS hu) (pv 2) pe_str (nomark _)) (pss_one (ps_ret (pe_cmpR op_lt (pe_meth (pv 0) c.cls mWo GWo (hr.mono (by omega)) bWo .nil pass0 (pa_cons (pe_ix ix_tup (pv 1) pe_int (fun _ _ => rfl)) pa_nil) (by rfl) (by rfl)) (pe_meth (pv 0) c.cls mWo GWo (hr.mono (by omega)) bWo .nil pass0 (pa_cons (pe_ix ix_tup (pv 1) pe_int (fun _ _ => rfl)) pa_nil) (by rfl) (by rfl)) (nomark _)))) pss_nil)
      (pss_cons (ps_if (pt_cmpR (KEq.op_eqS hu) (pv 2) pe_str (nomark _)) (pss_one (ps_ret (pe_cmpR op_eq (pe_meth (pv 0) c.cls mWo GWo (hr.mono (by omega)) bWo .nil pass0 (pa_cons (pe_ix ix_tup (pv 1) pe_int (fun _ _ => rfl)) pa_nil) (by rfl) (by rfl)) (pe_meth (pv 0) c.cls mWo GWo (hr.mono (by omega)) bWo .nil pass0 (pa_cons (pe_ix ix_tup (pv 1) pe_int (fun _ _ => rfl)) pa_nil) (by rfl) (by rfl)) (nomark _)))) pss_nil)
      (pss_cons (ps_setLc (i := 3) (own := [("part", 4)]) (g := gName 4) (tt := tYes) (te := (tMeth C "holds" (spHo K C m) [] E0 (tVar 0) (tCons (tVar 4) tNil))) rfl scHo.nd rfl rfl (by rfl) (pi_tup (pe_slice sl_tup (pv 1) (po_some pe_int) po_none)) (blkOk_by (N := ["self", "condition", "head", "parts", "part"]) (sc := defScope sHo) (by decide +kernel)) (fun _ _ _ _ _ => by exact (pg_name (i := 4) scHo.nd rfl (Or.inl rfl))) (fun _ _ _ _ _ => by exact pts_nil) (fun _ _ _ _ _ => by exact (pe_meth (pv 0) c.cls mHo GHo (hr.mono (by omega)) bHo .nil pass0 (pa_cons (pv 4) pa_nil) (by rfl) (by rfl))))
      (pss_cons (ps_if (pt_cmpR (KEq.op_eqS hu) (pv 2) pe_str (nomark _)) (pss_one (ps_ret (pe_not (pe_ix ix_list (pv 3) pe_int (fun _ _ => rfl))))) pss_nil)
      (pss_cons (ps_if (pt_cmpR (KEq.op_eqS hu) (pv 2) pe_str (nomark _)) (pss_one (ps_ret (pe_callB (cr_all rfl) (by rfl) T.all (by decide +kernel) (pa_cons (pv 3) pa_nil)))) pss_nil)
      (pss_one (ps_ret (pe_callB (cr_any rfl) (by rfl) TAny (by decide +kernel) (pa_cons (pv 3) pa_nil)))))))))), ?_⟩
      obtain ⟨n, rfl, q⟩ := c_cases he
      have la : n < m := by omega
      obtain ⟨dx, ob⟩ := S.obj
      have p7 : 2 ^ 7 ≤ 2 ^ (n + 1 + 7) := Nat.pow_le_pow_right (by decide) (by omega)
      have p8 : 2 ^ (n + 1 + 7) = 2 ^ (n + 7) + 2 ^ (n + 7) := by
        rw [show n + 1 + 7 = (n + 7) + 1 by omega]
        omega
      obtain ⟨ds0, rfl⟩ : ∃ ds0, dd = .tuple ds0 := by
        rcases q with ⟨_, _, _, _, e, _⟩ | ⟨_, e, _⟩ | ⟨_, _, _, _, e, _⟩ <;> exact ⟨_, e⟩
      cases r with
      | @tup a xs ds qa rr =>
      have qaH : SqT K H a xs := sqT_same delp_le qa
      rcases q with ⟨zz, da, db, hz, e1, ea, eb⟩ | ⟨da, e1, ca⟩ | ⟨zz, da, db, hz, e1, ca, cb⟩
      · cases e1
        obtain ⟨hv, x, y, _, da', db', rfl, e2, rh, ra, rb⟩ := three_of rr (RpAll.len rr)
        cases e2
        cases rh
        have up : ∀ {G : Hp}, SameX rd H G → SqT K G a [.str zz, x, y] := fun s => sqT_same delp_le (sqT_same (delp_same s) qa)
        have two : ∀ (Want : VK), (∀ R2 H2, RunS C H2 o d sl rd wd key body fb st R2 W → R2.length ≤ R.length + 2 ^ 7 → SameX rd H H2 → True) → True := fun _ _ => trivial
        refine ⟨_, rfl, a, _, 0, _, rfl, rfl, qaH, atI_nat (j := 0) rfl, ?_⟩
        refine ⟨_, rfl, .str zz, _, .str _, rfl, _, rfl, ite2 (fun i1 => ?_) (fun i1 => ?_)⟩
        · obtain rfl : zz = "<" := by
            rcases hz with rfl | rfl
            · rfl
            · exact absurd i1 (by decide +kernel)
          refine ⟨_, rfl, o, dx, _, rfl, ob, rfl, _, rfl, a, _, 1, x, rfl, rfl, up SameX.refl, atI_nat (j := 1) rfl, o, d, sl, rd, wd, key, body, fb, st, R, W, x, da, 6, rfl, by decide, S, ra, ea, by omega, ⟨b0, b1⟩, fun R1 H1 S1 l1 s1 => ?_⟩
          obtain ⟨dx1, ob1⟩ := S1.obj
          refine ⟨_, rfl, o, dx1, _, rfl, ob1, rfl, _, rfl, a, _, 2, y, rfl, rfl, up s1, atI_nat (j := 2) rfl, o, d, sl, rd, wd, key, body, fb, st, R1, W, y, db, 6, rfl, by decide, S1, Rp.same (delp_same s1) rb, eb, by omega, ⟨b0, b1⟩, fun R2 H2 S2 l2 s2 => ?_⟩
          exact ⟨_, _, rfl, rfl, k R2 H2 S2 (by omega) (s1.trans s2)⟩
        refine ⟨_, rfl, .str zz, _, .str _, rfl, _, rfl, ite2 (fun i2 => ?_) (fun i2 => ?_)⟩
        · obtain rfl : zz = "=" := by
            rcases hz with rfl | rfl
            · exact absurd (by decide +kernel) i1
            · rfl
          refine ⟨_, rfl, o, dx, _, rfl, ob, rfl, _, rfl, a, _, 1, x, rfl, rfl, up SameX.refl, atI_nat (j := 1) rfl, o, d, sl, rd, wd, key, body, fb, st, R, W, x, da, 6, rfl, by decide, S, ra, ea, by omega, ⟨b0, b1⟩, fun R1 H1 S1 l1 s1 => ?_⟩
          obtain ⟨dx1, ob1⟩ := S1.obj
          refine ⟨_, rfl, o, dx1, _, rfl, ob1, rfl, _, rfl, a, _, 2, y, rfl, rfl, up s1, atI_nat (j := 2) rfl, o, d, sl, rd, wd, key, body, fb, st, R1, W, y, db, 6, rfl, by decide, S1, Rp.same (delp_same s1) rb, eb, by omega, ⟨b0, b1⟩, fun R2 H2 S2 l2 s2 => ?_⟩
          have kk := k R2 H2 S2 (by omega) (s1.trans s2)
          refine ⟨rfl, ?_⟩
          have e : decide (V.int (evE st.t key body 6 da) = V.int (evE st.t key body 6 db)) = decide (evE st.t key body 6 da = evE st.t key body 6 db) := decide_eq_decide.mpr ⟨fun h => V.int.inj h, fun h => by rw [h]⟩
          rw [e]
          exact kk
        · rcases hz with rfl | rfl
          · exact absurd (by decide +kernel) i1
          · exact absurd (by decide +kernel) i2
      · cases e1
        obtain ⟨hv, x, _, da', rfl, e2, rh, ra⟩ := two_of rr (RpAll.len rr)
        cases e2
        cases rh
        obtain ⟨zz, hzz⟩ : ∃ zz : Str, zz = "not" := ⟨_, rfl⟩
        rw [← hzz] at qa qaH k
        refine ⟨_, rfl, a, _, 0, _, rfl, rfl, qaH, atI_nat (j := 0) rfl, ?_⟩
        refine ⟨_, rfl, .str zz, _, .str _, rfl, _, rfl, ite2 (fun i1 => ?_) (fun i1 => ?_)⟩
        · subst hzz
          exact absurd i1 (by decide +kernel)
        refine ⟨_, rfl, .str zz, _, .str _, rfl, _, rfl, ite2 (fun i2 => ?_) (fun i2 => ?_)⟩
        · subst hzz
          exact absurd i2 (by decide +kernel)
        · have rys : RpAll K (delp rd H) [x] [da] := .cons ra .nil
          have cs : ∀ e ∈ [da], isC n e = true := fun e he => by rw [List.mem_singleton.mp he]; exact ca
          have ec : cutV [V.str zz, x] (some 1) none = [x] := cut_from1 (i := 1)
          refine ⟨_, rfl, 1, rfl, a, _, rfl, qaH, by rw [show (1 : Int) = ((1 : Nat) : Int) from rfl, HT.sIx_nat]; exact fun h => absurd h.1 (by simp), fun p np => ?_⟩
          rw [ec]
          have npr : p ≠ rd := (ne_of_none S.rds np).symm
          have sp : Same H (upd H p (.tup [x])) := same_new np
          have S0 := S.fresh sp
          refine ⟨p, rfl, ⟨_, SqT.of upd_same⟩, fun D hD => ?_⟩
          have nD : D ≠ rd := (ne_of_none S0.rds hD).symm
          obtain ⟨_, _, _, tss, esl, _⟩ := S0.sta
          have nsl : sl ≠ D := ne_of_none esl hD
          refine lc_tup (xs := [x]) (fun i G => ∃ R', RunS C G o d sl rd wd key body fb st R' W ∧ R'.length ≤ R.length + i * 2 ^ (n + 7) ∧ SameX rd (upd H p (.tup [x])) G ∧ G D = some (.lst ((([da] : List PyData).take i).map fun e => V.bl (evC st.t key body n e)))) ⟨R, S0.fresh (same_new hD), by omega, Same.X (same_new hD), upd_same⟩ (fun i G _ h => ?_) (fun i x' G hx h => ?_) (fun G h => ?_)
          · obtain ⟨_, _, _, sx, _⟩ := h
            exact SqT.of (sx _ _ npr upd_same)
          · obtain ⟨R1, S1, l1, sx, eD⟩ := h
            obtain ⟨e, he1, re⟩ := rp_get rys hx
            obtain ⟨dx1, ob1⟩ := S1.obj
            have hce := cs e (List.mem_of_getElem? he1)
            have i2 : i < 1 := (List.getElem?_eq_some_iff.mp he1).1
            have im : i * 2 ^ (n + 7) + 2 ^ (n + 7) ≤ 2 * 2 ^ (n + 7) := by
              have := Nat.mul_le_mul_right (2 ^ (n + 7)) (show i + 1 ≤ 2 by omega)
              rw [Nat.add_mul, Nat.one_mul] at this
              exact this
            refine ⟨rfl, ?_⟩
            unfold tYes
            simp only [↓reduceIte]
            refine ⟨_, rfl, o, dx1, _, rfl, ob1, rfl, _, rfl, o, d, sl, rd, wd, key, body, fb, st, R1, W, x', e, n, rfl, la, S1, Rp.same (delp_same ((Same.X sp).trans sx)) re, hce, by omega, ⟨b0, b1⟩, fun R2 G2 S2 l2 s2 => ?_⟩
            refine ⟨_, s2 _ _ nD eD, ?_, R2, S2.putL (s2 _ _ nD eD) nsl, ?_, fun b o' n1 h => ?_, ?_⟩
            · rw [List.length_map]
              exact Nat.lt_of_le_of_lt (show _ ≤ 2 from Nat.le_trans (List.length_take_le' _ _) (by simp)) (by decide)
            · rw [Nat.add_mul, Nat.one_mul]
              omega
            · rw [upd_ne (ne_of_none h hD)]
              exact s2 _ _ n1 (sx _ _ n1 h)
            · rw [upd_same, take_more he1, List.map_append]
              rfl
          obtain ⟨R1, S1, l1, sx, eD⟩ := h
          have sx := (Same.X sp).trans sx
          have kk := k R1 G S1 (by show R1.length ≤ _; have l1 : R1.length ≤ R.length + 1 * 2 ^ (n + 7) := l1; omega) sx
          have eD : G D = some (.lst (([da] : List PyData).map fun e => V.bl (evC st.t key body n e))) := eD
          refine ⟨_, rfl, .str zz, _, .str _, rfl, _, rfl, ite2 (fun i3 => ?_) (fun i3 => ?_)⟩
          · subst hzz
            exact ⟨_, rfl, D, _, 0, _, rfl, rfl, SqL.of eD, atI_nat (j := 0) rfl, _, rfl, kk⟩
          · subst hzz
            exact absurd (by decide +kernel) i3
      · cases e1
        obtain ⟨hv, x, y, _, da', db', rfl, e2, rh, ra, rb⟩ := three_of rr (RpAll.len rr)
        cases e2
        cases rh
        refine ⟨_, rfl, a, _, 0, _, rfl, rfl, qaH, atI_nat (j := 0) rfl, ?_⟩
        refine ⟨_, rfl, .str zz, _, .str _, rfl, _, rfl, ite2 (fun i1 => ?_) (fun i1 => ?_)⟩
        · rcases hz with rfl | rfl <;> exact absurd i1 (by decide +kernel)
        refine ⟨_, rfl, .str zz, _, .str _, rfl, _, rfl, ite2 (fun i2 => ?_) (fun i2 => ?_)⟩
        · rcases hz with rfl | rfl <;> exact absurd i2 (by decide +kernel)
        · have rys : RpAll K (delp rd H) [x, y] [da, db] := .cons ra (.cons rb .nil)
          have cs : ∀ e ∈ [da, db], isC n e = true := fun e he => by
            rcases List.mem_cons.mp he with h | h
            · rw [h]; exact ca
            · rw [List.mem_singleton.mp h]; exact cb
          have ec : cutV [V.str zz, x, y] (some 1) none = [x, y] := cut_from1 (i := 1)
          refine ⟨_, rfl, 1, rfl, a, _, rfl, qaH, by rw [show (1 : Int) = ((1 : Nat) : Int) from rfl, HT.sIx_nat]; exact fun h => absurd h.1 (by simp), fun p np => ?_⟩
          rw [ec]
          have npr : p ≠ rd := (ne_of_none S.rds np).symm
          have sp : Same H (upd H p (.tup [x, y])) := same_new np
          have S0 := S.fresh sp
          refine ⟨p, rfl, ⟨_, SqT.of upd_same⟩, fun D hD => ?_⟩
          have nD : D ≠ rd := (ne_of_none S0.rds hD).symm
          obtain ⟨_, _, _, tss, esl, _⟩ := S0.sta
          have nsl : sl ≠ D := ne_of_none esl hD
          refine lc_tup (xs := [x, y]) (fun i G => ∃ R', RunS C G o d sl rd wd key body fb st R' W ∧ R'.length ≤ R.length + i * 2 ^ (n + 7) ∧ SameX rd (upd H p (.tup [x, y])) G ∧ G D = some (.lst ((([da, db] : List PyData).take i).map fun e => V.bl (evC st.t key body n e)))) ⟨R, S0.fresh (same_new hD), by omega, Same.X (same_new hD), upd_same⟩ (fun i G _ h => ?_) (fun i x' G hx h => ?_) (fun G h => ?_)
          · obtain ⟨_, _, _, sx, _⟩ := h
            exact SqT.of (sx _ _ npr upd_same)
          · obtain ⟨R1, S1, l1, sx, eD⟩ := h
            obtain ⟨e, he1, re⟩ := rp_get rys hx
            obtain ⟨dx1, ob1⟩ := S1.obj
            have hce := cs e (List.mem_of_getElem? he1)
            have i2 : i < 2 := (List.getElem?_eq_some_iff.mp he1).1
            have im : i * 2 ^ (n + 7) + 2 ^ (n + 7) ≤ 2 * 2 ^ (n + 7) := by
              have := Nat.mul_le_mul_right (2 ^ (n + 7)) (show i + 1 ≤ 2 by omega)
              rw [Nat.add_mul, Nat.one_mul] at this
              exact this
            refine ⟨rfl, ?_⟩
            unfold tYes
            simp only [↓reduceIte]
            refine ⟨_, rfl, o, dx1, _, rfl, ob1, rfl, _, rfl, o, d, sl, rd, wd, key, body, fb, st, R1, W, x', e, n, rfl, la, S1, Rp.same (delp_same ((Same.X sp).trans sx)) re, hce, by omega, ⟨b0, b1⟩, fun R2 G2 S2 l2 s2 => ?_⟩
            refine ⟨_, s2 _ _ nD eD, ?_, R2, S2.putL (s2 _ _ nD eD) nsl, ?_, fun b o' n1 h => ?_, ?_⟩
            · rw [List.length_map]
              exact Nat.lt_of_le_of_lt (show _ ≤ 2 from Nat.le_trans (List.length_take_le' _ _) (by simp)) (by decide)
            · rw [Nat.add_mul, Nat.one_mul]
              omega
            · rw [upd_ne (ne_of_none h hD)]
              exact s2 _ _ n1 (sx _ _ n1 h)
            · rw [upd_same, take_more he1, List.map_append]
              rfl
          obtain ⟨R1, S1, l1, sx, eD⟩ := h
          have sx := (Same.X sp).trans sx
          have kk := k R1 G S1 (by show R1.length ≤ _; have l1 : R1.length ≤ R.length + 2 * 2 ^ (n + 7) := l1; omega) sx
          have eD : G D = some (.lst (([da, db] : List PyData).map fun e => V.bl (evC st.t key body n e))) := eD
          refine ⟨_, rfl, .str zz, _, .str _, rfl, _, rfl, ite2 (fun i3 => ?_) (fun i3 => ?_)⟩
          · rcases hz with rfl | rfl <;> exact absurd i3 (by decide +kernel)
          refine ⟨_, rfl, .str zz, _, .str _, rfl, _, rfl, ite2 (fun i4 => ?_) (fun i4 => ?_)⟩
          · obtain rfl : zz = "and" := by
              rcases hz with rfl | rfl
              · rfl
              · exact absurd i4 (by decide +kernel)
            refine ⟨_, rfl, D, [evC st.t key body n da, evC st.t key body n db], rfl, SqL.of eD, ?_⟩
            have e : evC st.t key body (n + 1) (.tuple [.str "and", da, db]) = (evC st.t key body n da && evC st.t key body n db) := if_pos (by decide +kernel)
            rw [e] at kk
            rw [show ([evC st.t key body n da, evC st.t key body n db] : List Bool).all id = (evC st.t key body n da && evC st.t key body n db) by simp]
            exact kk
          · obtain rfl : zz = "or" := by
              rcases hz with rfl | rfl
              · exact absurd (by decide +kernel) i4
              · rfl
            refine ⟨_, rfl, D, [evC st.t key body n da, evC st.t key body n db], rfl, SqL.of eD, ?_⟩
            have e : evC st.t key body (n + 1) (.tuple [.str "or", da, db]) = (evC st.t key body n da || evC st.t key body n db) := (if_neg (by decide +kernel)).trans (if_pos (by decide +kernel))
            rw [e] at kk
            rw [show ([evC st.t key body n da, evC st.t key body n db] : List Bool).any id = (evC st.t key body n da || evC st.t key body n db) by simp]
            exact kk
end
end Hd

set_option Elab.async false
set_option linter.all false
set_option maxRecDepth 100000
set_option maxHeartbeats 8000000
namespace Hd
open PySem L2 Pen RG Dat KEq
abbrev sDa : Stmt := inCl cRun 6
abbrev sDo : Stmt := inCl cRun 7
/-- all but four -/
def Same4 (a b c e : Addr) (H H' : Hp) : Prop := ∀ x o, x ≠ a → x ≠ b → x ≠ c → x ≠ e → H x = some o → H' x = some o
theorem Same4.refl {a b c e : Addr} {H : Hp} : Same4 a b c e H H := fun _ _ _ _ _ _ h => h
theorem Same4.trans {a b c e : Addr} {H H1 H2 : Hp} (s : Same4 a b c e H H1) (t : Same4 a b c e H1 H2) : Same4 a b c e H H2 := fun x o n1 n2 n3 n4 h => t x o n1 n2 n3 n4 (s x o n1 n2 n3 n4 h)
theorem Same4.of {a b c e : Addr} {H H1 : Hp} (s : Same H H1) : Same4 a b c e H H1 := fun x o _ _ _ _ h => s x o h
theorem Same4.ofX {a b c e : Addr} {H H1 : Hp} (s : SameX c H H1) : Same4 a b c e H H1 := fun x o _ _ n _ h => s x o n h
def cut4 (a b c e : Addr) (H : Hp) : Hp := fun x => if x = a ∨ x = b ∨ x = c ∨ x = e then none else H x
theorem cut4_le {a b c e : Addr} {H : Hp} : Same (cut4 a b c e H) H := fun x o h => by
  unfold cut4 at h
  split at h
  · cases h
  · exact h
theorem cut4_same {a b c e : Addr} {H H' : Hp} (s : Same4 a b c e H H') : Same (cut4 a b c e H) (cut4 a b c e H') := fun x o h => by
  unfold cut4 at h ⊢
  split at h
  · cases h
  · next n =>
    rw [if_neg n]
    simp only [not_or] at n
    exact s x o n.1 n.2.1 n.2.2.1 n.2.2.2 h
theorem cut4_rd {a b c e : Addr} {H : Hp} : Same (cut4 a b c e H) (delp c H) := fun x o h => by
  unfold cut4 at h
  split at h
  · cases h
  · next n =>
    simp only [not_or] at n
    exact (delp_ne n.2.2.1).trans h
theorem RunS.putW {C : Addr} {H : Hp} {o d sl rd wd : Addr} {key : Str} {body : Int} {fb : Bool} {st : Sta} {R W : List Z} {z : Z} (x : RunS C H o d sl rd wd key body fb st R W) : RunS C (upd H wd (.dT ((mput W z).map mrk))) o d sl rd wd key body fb st R (mput W z) := by
  have sy : SameY wd wd H (upd H wd (.dT ((mput W z).map mrk))) := fun a o h1 _ h => (upd_ne h1).trans h
  obtain ⟨⟨dx, a⟩, ⟨b1, b2, b3, ts, b4, b5⟩, c, e, f, g, h, i, j⟩ := x
  exact ⟨⟨dx, (upd_ne (ne_of a e (by intro z; cases z))).trans a⟩, ⟨(upd_ne i).trans b1, b2, b3, ts, (upd_ne (ne_of b4 e (by intro z; cases z))).trans b4, snds_y sy e noT_dT e noT_dT b5⟩, (upd_ne j).trans c, upd_same, f, mput_nodup g, h, i, j⟩
theorem RunS.putS {C : Addr} {G : Hp} {o d sl rd wd ar : Addr} {key : Str} {body : Int} {fb : Bool} {st : Sta} {R W : List Z} {ts : List Addr} {e : Str × Str × Int} (x : RunS C G o d sl rd wd key body fb st R W) (h : G sl = some (.lst (ts.map V.ref))) (p : Paired (SndT G) st.ss ts) (er : G ar = some (.tup [.str e.1, .str e.2.1, .int e.2.2])) :
    RunS C (upd G sl (.lst (ts.map V.ref ++ [.ref ar]))) o d sl rd wd key body fb ⟨st.t, st.ss ++ [e]⟩ R W := by
  have sy : SameY sl sl G (upd G sl (.lst (ts.map V.ref ++ [.ref ar]))) := fun a o h1 _ h => (upd_ne h1).trans h
  obtain ⟨⟨dx, a⟩, ⟨b1, b2, b3, _, _, _⟩, c, f0, f, g, i1, i, j⟩ := x
  have n : ∀ {q : Addr} {oo : HO}, G q = some oo → (∀ xs, oo ≠ .lst xs) → q ≠ sl := fun hq ne => ne_of hq h (ne _)
  refine ⟨⟨dx, (upd_ne (n a (fun _ z => nomatch z))).trans a⟩, ⟨(upd_ne (n b1 (fun _ z => nomatch z))).trans b1, b2, b3, ts ++ [ar], ?_, ?_⟩, (upd_ne (n c (fun _ z => nomatch z))).trans c, (upd_ne (n f0 (fun _ z => nomatch z))).trans f0, f, g, i1, i, j⟩
  · rw [upd_same, List.map_append]
    rfl
  · exact paired_snoc (F := SndT _) ((upd_ne (n er (fun _ z => nomatch z))).trans er) (snds_y sy h noT_lst h noT_lst p)
/-- what deeds have done -/
structure Aft (C : Addr) (o d sl rd wd : Addr) (key : Str) (body : Int) (fb : Bool) (st : Sta) (R W : List Z) (r r' : Nat) (H : Hp) (x : Bool × Sta) (H' : Hp) : Prop where
  ex : ∃ R' W', RunS C H' o d sl rd wd key body fb x.2 R' W' ∧ R'.length + 16384 * r' ≤ R.length + 16384 * r ∧ W'.length + r' ≤ W.length + r
  ss : x.2.ss.length + r' ≤ st.ss.length + r
  t : x.2.t.length + r' ≤ st.t.length + r
  fr : Same4 d sl rd wd H H'
/-- there is room -/
structure Bd (st : Sta) (R W : List Z) (r : Nat) (key : Str) (body : Int) : Prop where
  cR : R.length + 16384 * r < 400000
  cW : W.length + r ≤ 1000
  cS : st.ss.length + r ≤ 100
  cT : st.t.length + r ≤ 900
  ck : isWord (.str key) = true
  b0 : -99 ≤ body
  b1 : body ≤ 99
def spDa (K : PySem.W.Frag) (C : Addr) (m : Nat) : Sp := fun vs H Q _ => ∃ (o d sl rd wd : Addr) (key : Str) (body : Int) (fb : Bool) (st : Sta) (R W : List Z) (v : V) (ds : List PyData) (i r r' : Nat), vs = [.ref o, v] ∧ i < m ∧ RunS C H o d sl rd wd key body fb st R W ∧ Rp K (cut4 d sl rd wd H) v (.tuple ds) ∧ roomAll (deedR i) ds r = some r' ∧ Bd st R W r key body ∧
  ∀ H', Aft C o d sl rd wd key body fb st R W r r' H (runAll (deedE key body i) ds st) H' → Q (.bl (runAll (deedE key body i) ds st).1) H'
def spDo (K : PySem.W.Frag) (C : Addr) (m : Nat) : Sp := fun vs H Q _ => ∃ (o d sl rd wd : Addr) (key : Str) (body : Int) (fb : Bool) (st : Sta) (R W : List Z) (v : V) (dd : PyData) (i r r' : Nat), vs = [.ref o, v] ∧ i < m ∧ RunS C H o d sl rd wd key body fb st R W ∧ Rp K (cut4 d sl rd wd H) v dd ∧ deedR i dd r = some r' ∧ Bd st R W (r + 1) key body ∧
  ∀ H', Aft C o d sl rd wd key body fb st R W (r + 1) r' H (deedE key body i dd st) H' → Q (.bl (deedE key body i dd st).1) H'
section
variable {P : Program} {w : World} {K : PySem.W.Frag} {mg : Str → Option Value} {base : Heap}
theorem scDa : FnScope ["self", "deeds", "deed"] ["self", "deeds"] (defScope sDa) := ⟨rfl, rfl, rfl, by decide +kernel, rfl, by decide +kernel, by decide +kernel⟩
theorem scDo : FnScope ["self", "deed", "head", "place", "key"] ["self", "deed"] (defScope sDo) := ⟨rfl, rfl, rfl, by decide +kernel, rfl, by decide +kernel, by decide +kernel⟩
theorem ok_da {f C fDo : Addr} {fd fdDo : FuncData} (F : Fun K "do_all" "Run.do_all" sDa f fd) (c : RunC K C) (m n : Nat)
    (GDo : FnOk P w K mg base CX0 n fDo fdDo ["self", "deed"] (spDo K C m)) (mDo : Meth K C "do_one" fDo) (bDo : Binds K fdDo ["self", "deed"] []) : FnOk P w K mg base CX0 (n + 1) f fd ["self", "deeds"] (spDa K C m) := by
  refine F.ok scDa (fun vs H Q E h => ?_) (fun cdv A outer s H vs Q E hr h => ?_)
  · obtain ⟨o, d, sl, rd, wd, key, body, fb, st, R, W, v, ds, i, r, r', rfl, _⟩ := h
    rfl
  · obtain ⟨o, d, sl, rd, wd, key, body, fb, st, R, W, v, ds, i, r, r', rfl, lt, S, rp, room, bd, k⟩ := h
    refine ⟨_, (pss_cons (ps_for PassesOwn.never rfl (pi_tup (pv 1)) (pg_name (i := 2) scDa.nd rfl (Or.inl rfl)) (pss_one (ps_if (pt_not (pt_val (pe_meth (pv 0) c.cls mDo GDo (hr.mono (by omega)) bDo .nil pass0 (pa_cons (pv 2) pa_nil) (by rfl) (by rfl)))) (pss_one (ps_ret pe_bl)) pss_nil)))
      (pss_one (ps_ret pe_bl))), ?_⟩
    cases rp with
    | @tup a xs ds qa rr =>
      refine ⟨_, rfl, a, rfl, ⟨_, sqT_same cut4_le qa⟩, for_tup (xs := xs) (fun n σ G => σ.length = 3 ∧ σ[0]? = some (some (.ref o)) ∧ ∃ (s1 : Sta) (r1 : Nat), Aft C o d sl rd wd key body fb st R W r r1 H (true, s1) G ∧ runAll (deedE key body i) ds st = runAll (deedE key body i) (ds.drop n) s1 ∧ roomAll (deedR i) (ds.drop n) r1 = some r') ⟨rfl, rfl, st, r, ⟨⟨R, W, S, Nat.le_refl _, Nat.le_refl _⟩, Nat.le_refl _, Nat.le_refl _, Same4.refl⟩, rfl, room⟩ ?_ ?_ ?_⟩
      · intro n σ G _ ⟨_, _, s1, r1, A1, _⟩
        exact sqT_same cut4_le (sqT_same (cut4_same A1.fr) qa)
      · intro n x σ G hx ⟨l0, v0, s1, r1, A1, er, ro⟩
        obtain ⟨⟨R1, W1, S1, cR, cW⟩, cs, ct, fr⟩ := A1
        obtain ⟨dd, hd, rd0⟩ := rp_get rr hx
        rw [drop_get hd] at er ro
        cases r1 with
        | zero => cases ro
        | succ r2 =>
        have ro : (deedR i dd r2).bind (roomAll (deedR i) (ds.drop (n + 1))) = some r' := ro
        obtain ⟨r3, q1, q2⟩ := Option.bind_eq_some_iff.mp ro
        have le3 := roomAll_le (deedR_le i) q2
        have le2 := deedR_le i _ _ _ q1
        have er : runAll (deedE key body i) ds st = if (deedE key body i dd s1).1 = true then runAll (deedE key body i) (ds.drop (n + 1)) (deedE key body i dd s1).2 else deedE key body i dd s1 := er
        have z0 : (σ.set 2 (some x))[0]? = some (some (V.ref o)) := by rw [List.getElem?_set_ne (by decide)]; exact v0
        have z2 : (σ.set 2 (some x))[2]? = some (some x) := by simp [l0]
        obtain ⟨dx1, ob1⟩ := S1.obj
        have cs : s1.ss.length + (r2 + 1) ≤ st.ss.length + r := cs
        have ct : s1.t.length + (r2 + 1) ≤ st.t.length + r := ct
        obtain ⟨bR, bW, bS, bT, bK, bb0, bb1⟩ := bd
        refine ⟨_, z0, o, dx1, _, rfl, ob1, rfl, _, z2, o, d, sl, rd, wd, key, body, fb, s1, R1, W1, x, dd, i, r2, r3, rfl, lt, S1, Rp.same (cut4_same fr) rd0, q1, ⟨by omega, by omega, by omega, by omega, bK, bb0, bb1⟩, fun G2 A2 => ?_⟩
        obtain ⟨⟨R2, W2, S2, cR2, cW2⟩, cs2, ct2, fr2⟩ := A2
        refine ⟨_, rfl, ite2 (fun b1 => ?_) (fun b1 => ?_)⟩
        · have b2 : (deedE key body i dd s1).1 = false := by simpa using b1
          rw [if_neg (by rw [b2]; decide)] at er
          have kk := k G2
          rw [er, b2] at kk
          exact kk ⟨⟨R2, W2, S2, by omega, by omega⟩, by omega, by omega, fr.trans fr2⟩
        · have b2 : (deedE key body i dd s1).1 = true := by simpa using b1
          rw [if_pos b2] at er
          exact ⟨by simp [l0], z0, _, r3, ⟨⟨R2, W2, S2, by omega, by omega⟩, by show (deedE key body i dd s1).2.ss.length + r3 ≤ _; omega, by show (deedE key body i dd s1).2.t.length + r3 ≤ _; omega, fr.trans fr2⟩, er, q2⟩
      · intro σ G ⟨l0, v0, s1, r1, A1, er, ro⟩
        have e : ds.drop xs.length = [] := by rw [RpAll.len rr]; simp
        rw [e] at er ro
        obtain rfl : r1 = r' := Option.some.inj ro
        have kk := k G
        rw [er] at kk
        exact kk A1
theorem ok_do {f C fWo fHo fDa : Addr} {fd fdWo fdHo fdDa : FuncData} (F : Fun K "do_one" "Run.do_one" sDo f fd) (c : RunC K C) (m n : Nat) (hn : 17 ≤ n)
    (GWo : FnOk P w K mg base CX0 9 fWo fdWo ["self", "expression"] (spWo K C 7)) (mWo : Meth K C "worth" fWo) (bWo : Binds K fdWo ["self", "expression"] [])
    (GHo : FnOk P w K mg base CX0 17 fHo fdHo ["self", "condition"] (spHo K C 7)) (mHo : Meth K C "holds" fHo) (bHo : Binds K fdHo ["self", "condition"] [])
    (GDa : FnOk P w K mg base CX0 n fDa fdDa ["self", "deeds"] (spDa K C m)) (mDa : Meth K C "do_all" fDa) (bDa : Binds K fdDa ["self", "deeds"] []) : FnOk P w K mg base CX0 (n + 1) f fd ["self", "deed"] (spDo K C (m + 1)) := by
  refine F.ok scDo (fun vs H Q E h => ?_) (fun cdv A outer s H vs Q E hr h => ?_)
  · obtain ⟨o, d, sl, rd, wd, key, body, fb, st, R, W, v, dd, i, r, r', rfl, _⟩ := h
    rfl
  · obtain ⟨o, d, sl, rd, wd, key, body, fb, st, R, W, v, dd, i, r, r', rfl, lt, S, rp, room, bd, k⟩ := h
    have hu := hu_of hr
    refine ⟨_, (pss_cons (ps_set (i := 2) scDo.nd rfl (Or.inl rfl) (pe_ix ix_tup (pv 1) pe_int (fun _ _ => rfl)))
      (pss_cons (ps_if (pt_cmpR (KEq.op_eqS hu) (pv 2) pe_str (nomark _)) (pss_one (ps_ret pe_bl)) pss_nil)
      (pss_cons (ps_if (pt_cmpR (KEq.op_eqS hu) (pv 2) pe_str (nomark _)) (pss_one (ps_ret (pe_meth (pv 0) c.cls mDa GDa (hr.mono (by omega)) bDa .nil pass0 (pa_cons (pe_ifExp (pt_val (pe_meth (pv 0) c.cls mHo GHo (hr.mono (by omega)) bHo .nil pass0 (pa_cons (pe_ix ix_tup (pv 1) pe_int (fun _ _ => rfl)) pa_nil) (by rfl) (by rfl))) (pe_ix ix_tup (pv 1) pe_int (fun _ _ => rfl)) (pe_ix ix_tup (pv 1) pe_int (fun _ _ => rfl))) pa_nil) (by rfl) (by rfl)))) pss_nil)
      (pss_cons (ps_if (pt_cmpR (KEq.op_eqS hu) (pv 2) pe_str (nomark _)) (pss_cons (ps_set (i := 3) scDo.nd rfl (Or.inl rfl) (Ab.pe_tupA (pa_cons (pe_ix ix_tup (pv 1) pe_int (fun _ _ => rfl)) (pa_cons (pe_fld (pv 0) (by rfl)) pa_nil))))
      (pss_cons (ps_dput hu (pe_fld (pv 0) (by rfl)) (pv 3) (pe_meth (pv 0) c.cls mWo GWo (hr.mono (by omega)) bWo .nil pass0 (pa_cons (pe_ix ix_tup (pv 1) pe_int (fun _ _ => rfl)) pa_nil) (by rfl) (by rfl)) rfl)
      (pss_one (ps_dput hu (pe_fld (pv 0) (by rfl)) (pv 3) pe_bl rfl)))) (pss_cons (ps_set (i := 4) scDo.nd rfl (Or.inl rfl) (pe_ifExp (pt_cmpR op_isN (pe_ix ix_tup (pv 1) pe_int (fun _ _ => rfl)) pe_non (nomark _)) (pe_fld (pv 0) (by rfl)) (pe_ix ix_tup (pv 1) pe_int (fun _ _ => rfl))))
      (pss_one (ps_expr (pe_bm PySem.F.plainAttrs_list PySem.F.slot_list_append PySem.F.type_list_append mt_append (pe_fld (pv 0) (by rfl)) (pa_cons (Ab.pe_tupA (pa_cons (pe_ix ix_tup (pv 1) pe_int (fun _ _ => rfl)) (pa_cons (pv 4) (pa_cons (pe_meth (pv 0) c.cls mWo GWo (hr.mono (by omega)) bWo .nil pass0 (pa_cons (pe_ix ix_tup (pv 1) pe_int (fun _ _ => rfl)) pa_nil) (by rfl) (by rfl)) pa_nil)))) pa_nil))))))
      (pss_one (ps_ret pe_bl)))))), ?_⟩
    obtain ⟨bR, bW, bS, bT, bK, bb0, bb1⟩ := bd
    obtain ⟨dx, ob⟩ := S.obj
    have nds := S.sta.ne
    obtain ⟨tss, esl, pts⟩ := S.sta.lst
    have d1 := S.d1
    have d2 := S.d2
    have d3 := S.d3
    have nor := S.or
    have nod : o ≠ d := ne_of ob S.sta.tab (by intro z; cases z)
    have now : o ≠ wd := ne_of ob S.wds (by intro z; cases z)
    have nos : o ≠ sl := ne_of ob esl (by intro z; cases z)
    have nsr := S.slr
    have nsw : sl ≠ wd := ne_of esl S.wds (by intro z; cases z)
    rcases deed_cases room with ⟨rfl, e3⟩ | ⟨nm, ex, rfl, wn, xe, e3⟩ | ⟨nm, kd, ex, rfl, wn, xk, xe, e3⟩ | ⟨j, cc, as, bs, rm, rfl, rfl, xc, ra1, ra2⟩
    · cases rp with
      | @tup a1 ys es qx rx =>
      obtain ⟨hv, _, rfl, e2, rh⟩ := one_of rx (RpAll.len rx)
      cases e2
      cases rh
      refine ⟨_, rfl, a1, _, 0, _, rfl, rfl, sqT_same cut4_le qx, atI_nat (j := 0) rfl, ?_⟩
      refine ⟨_, rfl, .str _, _, .str _, rfl, _, rfl, ite2 (fun i1 => ?_) (fun i1 => absurd (by decide +kernel) i1)⟩
      rw [deed_fail] at k
      exact k H ⟨⟨R, W, S, by omega, by omega⟩, by show st.ss.length + r' ≤ _; omega, by show st.t.length + r' ≤ _; omega, Same4.refl⟩
    · cases rp with
      | @tup a1 ys es qx rx =>
      obtain ⟨hv, xn, y, _, _, _, rfl, e2, rh, rn, ry⟩ := three_of rx (RpAll.len rx)
      cases e2
      cases rh
      cases rn
      have up : ∀ {G : Hp}, Same4 d sl rd wd H G → SqT K G a1 [.str "set", .str nm, y] := fun s => sqT_same cut4_le (sqT_same (cut4_same s) qx)
      refine ⟨_, rfl, a1, _, 0, _, rfl, rfl, up Same4.refl, atI_nat (j := 0) rfl, ?_⟩
      refine ⟨_, rfl, .str _, _, .str _, rfl, _, rfl, ite2 (fun i1 => absurd i1 (by decide +kernel)) (fun i1 => ?_)⟩
      refine ⟨_, rfl, .str _, _, .str _, rfl, _, rfl, ite2 (fun i2 => absurd i2 (by decide +kernel)) (fun i2 => ?_)⟩
      refine ⟨_, rfl, .str _, _, .str _, rfl, _, rfl, ite2 (fun i3 => ?_) (fun i3 => absurd (by decide +kernel) i3)⟩
      rw [deed_set1] at k
      refine ⟨_, rfl, a1, _, 1, _, rfl, rfl, up Same4.refl, atI_nat (j := 1) rfl, _, rfl, o, C, dx, _, .str key, rfl, ob, c.cls, c.key, rfl, sz (by simp), fun pl G np sp ep => ?_⟩
      have S1 := S.fresh sp
      obtain ⟨dx1, ob1⟩ := S1.obj
      refine ⟨_, rfl, o, dx1, _, rfl, ob1, rfl, _, rfl, a1, _, 2, y, rfl, rfl, up (Same4.of sp), atI_nat (j := 2) rfl, o, d, sl, rd, wd, key, body, fb, st, R, W, y, ex, 6, rfl, by decide, S1, Rp.same cut4_rd (Rp.same (cut4_same (Same4.of sp)) ry), xe, by omega, ⟨bb0, bb1⟩, fun R2 G2 S2 l2 x2 => ?_⟩
      obtain ⟨dx2, ob2⟩ := S2.obj
      have nplr : pl ≠ rd := (ne_of_none S.rds np).symm
      have nplw : pl ≠ wd := (ne_of_none S.wds np).symm
      have npld : pl ≠ d := (ne_of_none S.sta.tab np).symm
      have ep2 : G2 pl = some (.tup [.str nm, .str key]) := x2 _ _ nplr ep
      have pd : DPut G2 d (.ref pl) (.int (evE st.t key body 6 ex)) (upd G2 d (.dT ((tput st.t (nm, key) (evE st.t key body 6 ex)).map ent))) := by
        have g := DPut.t (k := kp (nm, key)) (v := .int (evE st.t key body 6 ex)) S2.sta.tab ep2 (by rw [List.length_map]; exact Nat.lt_of_le_of_lt (show st.t.length ≤ 900 by omega) (by decide))
        rw [put_ent st.t (nm, key) _ S2.sta.nd] at g
        exact g
      refine ⟨_, rfl, o, C, dx2, _, .ref d, rfl, ob2, c.cls, c.table, rfl, _, rfl, d, _, rfl, pd, ?_⟩
      have bd := ev_in (key := key) S.sta.ok bb0 bb1 xe
      have S3 : RunS C (upd G2 d (.dT ((tput st.t (nm, key) (evE st.t key body 6 ex)).map ent))) o d sl rd wd key body fb ⟨tput st.t (nm, key) (evE st.t key body 6 ex), st.ss⟩ R2 W := by
        have sy : SameY d d G2 (upd G2 d (.dT ((tput st.t (nm, key) (evE st.t key body 6 ex)).map ent))) := fun a o h1 _ h => (upd_ne h1).trans h
        obtain ⟨tss2, esl2, pts2⟩ := S2.sta.lst
        exact ⟨⟨dx2, (upd_ne nod).trans ob2⟩, ⟨upd_same, tput_nodup S2.sta.nd, S2.sta.ok.put wn bK bd.1 bd.2, tss2, (upd_ne nds.symm).trans esl2, snds_y sy S2.sta.tab noT_dT S2.sta.tab noT_dT pts2⟩, (upd_ne d1.symm).trans S2.rds, (upd_ne d2.symm).trans S2.wds, S2.nR, S2.nW, d1, d2, d3⟩
      obtain ⟨dx3, ob3⟩ := S3.obj
      have ep3 : (upd G2 d (.dT ((tput st.t (nm, key) (evE st.t key body 6 ex)).map ent))) pl = some (.tup [.str nm, .str key]) := (upd_ne npld).trans ep2
      have pw : DPut (upd G2 d (.dT ((tput st.t (nm, key) (evE st.t key body 6 ex)).map ent))) wd (.ref pl) (.bl true) (upd (upd G2 d (.dT ((tput st.t (nm, key) (evE st.t key body 6 ex)).map ent))) wd (.dT ((mput W (nm, key)).map mrk))) := by
        have g := DPut.t (k := kp (nm, key)) (v := .bl true) S3.wds ep3 (by rw [List.length_map]; exact Nat.lt_of_le_of_lt (show W.length ≤ 1000 by omega) (by decide))
        rw [put_mrk] at g
        exact g
      refine ⟨_, rfl, o, C, dx3, _, .ref wd, rfl, ob3, c.cls, c.writes, rfl, _, rfl, wd, _, rfl, pw, ?_⟩
      have tl := tput_len st.t (nm, key) (evE st.t key body 6 ex)
      have ml := mput_len W (nm, key)
      exact k _ ⟨⟨R2, mput W (nm, key), S3.putW, by omega, by omega⟩, by show st.ss.length + r' ≤ _; omega, by show (tput st.t (nm, key) (evE st.t key body 6 ex)).length + r' ≤ _; omega, fun x oo n1 n2 n3 n4 h => (upd_ne n4).trans ((upd_ne n1).trans (x2 _ _ n3 (sp _ _ h)))⟩
    · cases rp with
      | @tup a1 ys es qx rx =>
      obtain ⟨hv, xn, xkv, y, _, _, _, _, rfl, e2, rh, rn, rk, ry⟩ := four_of rx (by rfl)
      cases e2
      cases rh
      cases rn
      have up : ∀ {G : Hp}, Same4 d sl rd wd H G → SqT K G a1 [.str "send", .str nm, xkv, y] := fun s => sqT_same cut4_le (sqT_same (cut4_same s) qx)
      refine ⟨_, rfl, a1, _, 0, _, rfl, rfl, up Same4.refl, atI_nat (j := 0) rfl, ?_⟩
      refine ⟨_, rfl, .str _, _, .str _, rfl, _, rfl, ite2 (fun i1 => absurd i1 (by decide +kernel)) (fun i1 => ?_)⟩
      refine ⟨_, rfl, .str _, _, .str _, rfl, _, rfl, ite2 (fun i2 => absurd i2 (by decide +kernel)) (fun i2 => ?_)⟩
      refine ⟨_, rfl, .str _, _, .str _, rfl, _, rfl, ite2 (fun i3 => absurd i3 (by decide +kernel)) (fun i3 => ?_)⟩
      rw [deed_send1] at k
      have kz : (xkv = V.non ∧ keyOf key kd = key) ∨ ∃ z, xkv = V.str z ∧ keyOf key kd = z := by
        rcases key_is xk with rfl | ⟨z, rfl⟩
        · cases rk
          exact .inl ⟨rfl, rfl⟩
        · cases rk
          exact .inr ⟨z, rfl, rfl⟩
      have fin : ∀ (zk : Str), keyOf key kd = zk → ∀ (R2 : List Z) (G2 : Hp), RunS C G2 o d sl rd wd key body fb st R2 W → R2.length ≤ R.length + 2 ^ 6 → SameX rd H G2 → ∀ (G3 : Hp) (ar : Addr), Same G2 G3 → G3 ar = some (.tup [.str nm, .str zk, .int (evE st.t key body 6 ex)]) →
          ∃ xs' : List V, G3 sl = some (.lst xs') ∧ xs'.length < sizeLine ∧ Q (.bl true) (upd G3 sl (.lst (xs' ++ [.ref ar]))) := by
        intro zk ek R2 G2 S2 l2 x2 G3 ar sr er
        have S3 := S2.fresh sr
        obtain ⟨ts3, e3', p3⟩ := S3.sta.lst
        refine ⟨ts3.map V.ref, e3', ?_, ?_⟩
        · rw [List.length_map, ← paired_length p3]
          exact Nat.lt_of_le_of_lt (show st.ss.length ≤ 100 by omega) (by decide)
        · have S4 := S3.putS (e := (nm, zk, evE st.t key body 6 ex)) e3' p3 er
          have len : (st.ss ++ [(nm, zk, evE st.t key body 6 ex)]).length = st.ss.length + 1 := by simp
          rw [ek] at k
          exact k _ ⟨⟨R2, W, S4, by omega, by omega⟩, by show (st.ss ++ [(nm, zk, evE st.t key body 6 ex)]).length + r' ≤ _; omega, by show st.t.length + r' ≤ _; omega, fun x oo n1 n2 n3 n4 h => (upd_ne n2).trans (sr _ _ (x2 _ _ n3 h))⟩
      refine ⟨_, rfl, a1, _, 2, _, rfl, rfl, up Same4.refl, atI_nat (j := 2) rfl, rfl, _, rfl, ite2 (fun k1 => ?_) (fun k1 => ?_)⟩
      · rcases kz with ⟨rfl, ek⟩ | ⟨z, rfl, ek⟩
        · refine ⟨_, rfl, o, C, dx, _, .str key, rfl, ob, c.cls, c.key, rfl, ?_⟩
          refine ⟨_, rfl, o, C, dx, _, .ref sl, rfl, ob, c.cls, c.sends, rfl, .inl ⟨rfl, _, SqL.of esl⟩, _, rfl, a1, _, 1, _, rfl, rfl, up Same4.refl, atI_nat (j := 1) rfl, _, rfl, _, rfl, o, dx, _, rfl, ob, rfl, _, rfl, a1, _, 3, y, rfl, rfl, up Same4.refl, atI_nat (j := 3) rfl, o, d, sl, rd, wd, key, body, fb, st, R, W, y, ex, 6, rfl, by decide, S, Rp.same cut4_rd ry, xe, by omega, ⟨bb0, bb1⟩, fun R2 G2 S2 l2 x2 => ⟨sz (by simp), fun ar G3 nr sr er => ?_⟩⟩
          obtain ⟨xs', e1, e2, q⟩ := fin _ ek R2 G2 S2 l2 x2 G3 ar sr er
          exact ⟨sl, xs', _, rfl, rfl, e1, e2, q⟩
        · cases k1
      · rcases kz with ⟨rfl, ek⟩ | ⟨z, rfl, ek⟩
        · exact absurd rfl k1
        · refine ⟨_, rfl, a1, _, 2, _, rfl, rfl, up Same4.refl, atI_nat (j := 2) rfl, ?_⟩
          refine ⟨_, rfl, o, C, dx, _, .ref sl, rfl, ob, c.cls, c.sends, rfl, .inl ⟨rfl, _, SqL.of esl⟩, _, rfl, a1, _, 1, _, rfl, rfl, up Same4.refl, atI_nat (j := 1) rfl, _, rfl, _, rfl, o, dx, _, rfl, ob, rfl, _, rfl, a1, _, 3, y, rfl, rfl, up Same4.refl, atI_nat (j := 3) rfl, o, d, sl, rd, wd, key, body, fb, st, R, W, y, ex, 6, rfl, by decide, S, Rp.same cut4_rd ry, xe, by omega, ⟨bb0, bb1⟩, fun R2 G2 S2 l2 x2 => ⟨sz (by simp), fun ar G3 nr sr er => ?_⟩⟩
          obtain ⟨xs', e1, e2, q⟩ := fin _ ek R2 G2 S2 l2 x2 G3 ar sr er
          exact ⟨sl, xs', _, rfl, rfl, e1, e2, q⟩
    · cases rp with
      | @tup a1 ys es qx rx =>
      obtain ⟨hv, xcv, xa, xb, _, _, _, _, rfl, e2, rh, rxcv, rxa, rxb⟩ := four_of rx (by rfl)
      cases e2
      cases rh
      have up : ∀ {G : Hp}, Same4 d sl rd wd H G → SqT K G a1 [.str "if", xcv, xa, xb] := fun s => sqT_same cut4_le (sqT_same (cut4_same s) qx)
      have lem := roomAll_le (deedR_le j) ra1
      have lem2 := roomAll_le (deedR_le j) ra2
      refine ⟨_, rfl, a1, _, 0, _, rfl, rfl, up Same4.refl, atI_nat (j := 0) rfl, ?_⟩
      refine ⟨_, rfl, .str _, _, .str _, rfl, _, rfl, ite2 (fun i1 => absurd i1 (by decide +kernel)) (fun i1 => ?_)⟩
      refine ⟨_, rfl, .str _, _, .str _, rfl, _, rfl, ite2 (fun i2 => ?_) (fun i2 => absurd (by decide +kernel) i2)⟩
      rw [deed_if1] at k
      refine ⟨_, rfl, o, dx, _, rfl, ob, rfl, _, rfl, o, dx, _, rfl, ob, rfl, _, rfl, a1, _, 1, xcv, rfl, rfl, up Same4.refl, atI_nat (j := 1) rfl, o, d, sl, rd, wd, key, body, fb, st, R, W, xcv, cc, 6, rfl, by decide, S, Rp.same cut4_rd rxcv, xc, by omega, ⟨bb0, bb1⟩, fun R1 H1 S1 l1 s1 => ⟨_, rfl, ite2 (fun c1 => ?_) (fun c1 => ?_)⟩⟩
      · rw [if_pos c1] at k
        refine ⟨_, rfl, a1, _, 2, xa, rfl, rfl, up (Same4.ofX s1), atI_nat (j := 2) rfl, o, d, sl, rd, wd, key, body, fb, st, R1, W, xa, as, j, r, rm, rfl, by omega, S1, Rp.same (cut4_same (Same4.ofX s1)) rxa, ra1, ⟨by omega, by omega, by omega, by omega, bK, bb0, bb1⟩, fun G2 A => ?_⟩
        obtain ⟨⟨R2, W2, S2, cR2, cW2⟩, cs2, ct2, fr2⟩ := A
        exact k G2 ⟨⟨R2, W2, S2, by omega, by omega⟩, by omega, by omega, (Same4.ofX s1).trans fr2⟩
      · rw [if_neg c1] at k
        refine ⟨_, rfl, a1, _, 3, xb, rfl, rfl, up (Same4.ofX s1), atI_nat (j := 3) rfl, o, d, sl, rd, wd, key, body, fb, st, R1, W, xb, bs, j, rm, r', rfl, by omega, S1, Rp.same (cut4_same (Same4.ofX s1)) rxb, ra2, ⟨by omega, by omega, by omega, by omega, bK, bb0, bb1⟩, fun G2 A => ?_⟩
        obtain ⟨⟨R2, W2, S2, cR2, cW2⟩, cs2, ct2, fr2⟩ := A
        exact k G2 ⟨⟨R2, W2, S2, by omega, by omega⟩, by omega, by omega, (Same4.ofX s1).trans fr2⟩
theorem ok_dos {{f C fWo fHo fDa : Addr}} {{fd fdWo fdHo fdDa : FuncData}} (F : Fun K "do_one" "Run.do_one" sDo f fd) (FA : Fun K "do_all" "Run.do_all" sDa fDa fdDa) (c : RunC K C)
    (GWo : FnOk P w K mg base CX0 9 fWo fdWo ["self", "expression"] (spWo K C 7)) (mWo : Meth K C "worth" fWo) (bWo : Binds K fdWo ["self", "expression"] [])
    (GHo : FnOk P w K mg base CX0 17 fHo fdHo ["self", "condition"] (spHo K C 7)) (mHo : Meth K C "holds" fHo) (bHo : Binds K fdHo ["self", "condition"] [])
    (mDo : Meth K C "do_one" f) (bDo : Binds K fd ["self", "deed"] []) (mDa : Meth K C "do_all" fDa) (bDa : Binds K fdDa ["self", "deeds"] []) : ∀ m, FnOk P w K mg base CX0 (2 * m + 19) fDa fdDa ["self", "deeds"] (spDa K C m)
  | 0 => by
    refine FA.ok scDa (fun vs H Q E h => ?_) (fun cdv A outer s H vs Q E hr h => ?_)
    · obtain ⟨o, d, sl, rd, wd, key, body, fb, st, R, W, v, ds, i, r, r', rfl, _⟩ := h
      rfl
    · obtain ⟨o, d, sl, rd, wd, key, body, fb, st, R, W, v, ds, i, r, r', rfl, lt, _⟩ := h
      exact absurd lt (Nat.not_lt_zero _)
  | m + 1 => ok_da FA c (m + 1) (2 * m + 20) (ok_do F c m (2 * m + 19) (by omega) GWo mWo bWo GHo mHo bHo (ok_dos F FA c GWo mWo bWo GHo mHo bHo mDo bDo mDa bDa m) mDa bDa) mDo bDo
end
end Hd

set_option Elab.async false
set_option linter.all false
set_option maxRecDepth 100000
set_option maxHeartbeats 8000000
namespace Hd
open PySem L2 Pen RG Dat KEq
abbrev sIn : Stmt := inCl cRun 0
theorem tput_new : ∀ {t : List (Z × Int)} {z : Z} {v : Int}, z ∉ t.map (·.1) → tput t z v = t ++ [(z, v)]
  | [], _, _, _ => rfl
  | e :: t, z, v, h => by
    rw [List.map_cons, List.mem_cons] at h
    rw [show tput (e :: t) z v = e :: tput t z v from if_neg fun y => h (.inl y.symm), tput_new fun y => h (.inr y)]
    rfl
theorem dcT_tup {K : PySem.W.Frag} {a : Addr} {xs : List V} {g : TG} {tt : TT} {tk tv : TE} {vs : List Nat} {σ : L2.St} {H1 : Hp} {D : Addr} {Qd : Hp → Prop} (Pv : Nat → Hp → Prop) (h0 : Pv 0 (upd H1 D (.dT []))) (hl : ∀ i H, i ≤ xs.length → Pv i H → SqT K H a xs)
    (hs : ∀ i x H, xs[i]? = some x → Pv i H → g x (wipe σ vs) H fun σ2 H2 => wipe σ2 vs = wipe σ vs ∧ tt σ2 H2 fun b H3 =>
      if b = true then tk σ2 H3 fun y H4 => tv σ2 H4 fun z H5 => ∃ kvs k b, y = .ref b ∧ H5 b = some (.tup (k.map kV)) ∧ H5 D = some (.dT kvs) ∧ kvs.length < sizeLine ∧ Pv (i + 1) (upd H5 D (.dT (putK kvs k z))) else Pv (i + 1) H3) (hd : ∀ H, Pv xs.length H → Qd H) :
    ∃ W : Nat → Nat → Hp → Prop, (∃ m, W 0 m (upd H1 D (.dT []))) ∧ ∀ i m H, W i m H →
      ((Itt K a).stop i H ∧ Qd H) ∨ ((Itt K a).go i H ∧ ∃ N1 : Hp → Prop, (∀ Hz, N1 Hz → ∃ mz, mz < m ∧ W (i + 1) mz Hz) ∧ ∀ x Hy, (Itt K a).yld i H x Hy → g x (wipe σ vs) Hy fun σ2 H2 => wipe σ2 vs = wipe σ vs ∧ tt σ2 H2 fun b H3 =>
        if b = true then tk σ2 H3 fun y H4 => tv σ2 H4 fun z H5 => ∃ kvs k b, y = .ref b ∧ H5 b = some (.tup (k.map kV)) ∧ H5 D = some (.dT kvs) ∧ kvs.length < sizeLine ∧ N1 (upd H5 D (.dT (putK kvs k z))) else N1 H3) := by
  refine ⟨fun i m H => m = xs.length - i ∧ i ≤ xs.length ∧ Pv i H, ⟨xs.length, by simp, Nat.zero_le _, h0⟩, ?_⟩
  rintro i m H ⟨rfl, hi, p⟩
  have q := hl i H hi p
  by_cases hlt : i < xs.length
  · refine .inr ⟨⟨xs, xs[i], q, by simp [hlt]⟩, Pv (i + 1), fun H' p' => ⟨xs.length - (i + 1), by omega, rfl, hlt, p'⟩, fun x H' y => ?_⟩
    obtain ⟨e, y⟩ := y
    subst e
    exact hs i x _ (y xs q) p
  · have e : i = xs.length := by omega
    subst e
    exact .inl ⟨⟨xs, q, Nat.le_refl _⟩, hd H p⟩
theorem sqT_ins {K : PySem.W.Frag} {H : Hp} {o a C dx : Addr} {fs gs : List (Str × V)} {xs : List V} (ho : H o = some (.ins C dx fs)) (h : SqT K H a xs) : SqT K (upd H o (.ins C dx gs)) a xs := by
  rcases h with (h | ⟨q, h⟩) | h
  · exact .inl (.inl ((upd_ne (ne_of h ho (by intro z; cases z))).trans h))
  · exact .inl (.inr ⟨q, (upd_ne (ne_of h ho (by intro z; cases z))).trans h⟩)
  · exact .inr h
theorem none_of {o a : Addr} {H G : Hp} (s : SameX o H G) (n : G a = none) (h : a ≠ o) : H a = none := by
  cases e : H a with
  | none => rfl
  | some v =>
    rw [s a v h e] at n
    cases n
theorem sameX_upd {o : Addr} {H G : Hp} {q : HO} (s : SameX o H G) : SameX o H (upd G o q) := fun x v n h => (upd_ne n).trans (s x v n h)
def spIn (K : PySem.W.Frag) (C : Addr) : Sp := fun vs H Q _ => ∃ (o dx ra ma : Addr) (L : List (Z × Int)) (kd : V) (key : Str) (body : Int), vs = [.ref o, .ref ra, .ref ma] ∧ H o = some (.ins C dx []) ∧ RowsQ K H ra L ∧ RowsOk L ∧ L.length ≤ 800 ∧ SqT K H ma [kd, .str key, .int body] ∧
  ∀ d sl rd wd H', RunS C H' o d sl rd wd key body false ⟨L, []⟩ [] [] → H d = none → H sl = none → H rd = none → H wd = none → SameX o H H' → Q .non H'
section
variable {P : Program} {w : World} {K : PySem.W.Frag} {mg : Str → Option Value} {base : Heap}
theorem scIn : FnScope ["self", "rows", "message", "place", "value"] ["self", "rows", "message"] (defScope sIn) := ⟨rfl, rfl, rfl, by decide +kernel, rfl, by decide +kernel, by decide +kernel⟩
theorem ok_in {f C : Addr} {fd : FuncData} (F : Fun K "__init__" "Run.__init__" sIn f fd) (c : RunC K C) : FnOk P w K mg base CX0 1 f fd ["self", "rows", "message"] (spIn K C) := by
  refine F.ok scIn (fun vs H Q E h => ?_) (fun cdv A outer s H vs Q E hr h => ?_)
  · obtain ⟨o, dx, ra, ma, L, kd, key, body, rfl, _⟩ := h
    rfl
  · obtain ⟨o, dx, ra, ma, L, kd, key, body, rfl, ho, rows, rok, ll, qm, k⟩ := h
    have hu := hu_of hr
    refine ⟨_, (pss_cons (ps_fld (pv 0) (pe_ix ix_tup (pv 2) pe_int (fun _ _ => rfl)) (by rfl))
      (pss_cons (ps_fld (pv 0) (pe_ix ix_tup (pv 2) pe_int (fun _ _ => rfl)) (by rfl))
      (pss_cons (ps_fld (pv 0) (DcT.pe_dcT (own := [("place", 3), ("value", 4)]) (g := gTup K 2 (gCons (gName 3) (gCons (gName 4) gNil))) (tt := tYes) (tk := (tVar 3)) (tv := (tVar 4)) rfl scIn.nd (Nat.lt_of_succ_lt hu) (pi_tup (pv 1)) (blkOk_by (N := ["self", "rows", "message", "place", "value"]) (sc := defScope sIn) (by decide +kernel)) (fun _ _ _ _ _ => ⟨(pg_tup (by rfl) (pgs_cons (pg_name (i := 3) scIn.nd rfl (Or.inl rfl)) (pgs_cons (pg_name (i := 4) scIn.nd rfl (Or.inl rfl)) pgs_nil))), pts_nil, (pv 3), (pv 4)⟩) (fun _ => rfl)) (by rfl))
      (pss_cons (ps_fld (pv 0) (pe_lst pa_nil) (by rfl))
      (pss_cons (ps_fld (pv 0) pe_bl (by rfl))
      (pss_cons (ps_fld (pv 0) pe_dnewT (by rfl))
      (pss_one (ps_fld (pv 0) pe_dnewT (by rfl))))))))), ?_⟩
    obtain ⟨ts, tf, pr⟩ := rows
    have len := paired_length pr
    refine ⟨_, rfl, ma, _, 1, _, rfl, rfl, qm, atI_nat (j := 1) rfl, _, rfl, o, C, dx, _, rfl, ho, c.cls, c.key, by simp, ?_⟩
    have x1 : SameX o H (upd H o (.ins C dx [("key", .str key)])) := sameX_upd SameX.refl
    refine ⟨_, rfl, ma, _, 2, _, rfl, rfl, sqT_ins ho qm, atI_nat (j := 2) rfl, _, rfl, o, C, dx, _, rfl, upd_same, c.cls, c.body, by simp [putF], ?_⟩
    have x2 : SameX o H (upd (upd H o (.ins C dx [("key", .str key)])) o (.ins C dx [("key", .str key), ("body", .int body)])) := sameX_upd x1
    generalize h2e : upd (upd H o (.ins C dx [("key", .str key)])) o (.ins C dx [("key", .str key), ("body", .int body)]) = H2 at x2
    have o2 : H2 o = some (.ins C dx [("key", .str key), ("body", .int body)]) := by rw [← h2e]; exact upd_same
    have tf2 : SqT K H2 ra (ts.map V.ref) := by
      rw [← h2e]
      exact sqT_ins upd_same (sqT_ins ho tf)
    have pr2 : Paired (RowT H2) L ts := by
      have one : ∀ {L : List (Z × Int)} {ts : List Addr}, Paired (RowT H) L ts → Paired (RowT H2) L ts := by
        intro L ts p
        induction p with
        | nil => exact .nil
        | cons x _ ih =>
          refine .cons ?_ ih
          obtain ⟨cc, a1, a2⟩ := x
          exact ⟨cc, x2 _ _ (ne_of a1 ho (by intro z; cases z)) a1, x2 _ _ (ne_of a2 ho (by intro z; cases z)) a2⟩
      exact one pr
    have e2 : upd (upd H o (.ins C dx (putF "key" (.str key) []))) o (.ins C dx (putF "body" (.int body) (putF "key" (.str key) []))) = H2 := h2e
    rw [e2]
    clear e2 h2e
    have nodup := rows_nodup rok
    refine ⟨_, rfl, ra, rfl, ⟨_, tf2⟩, fun D hD => dcT_tup (xs := ts.map V.ref) (fun i G => G D = some (.dT ((L.take i).map ent)) ∧ Same H2 G) ⟨upd_same, same_new hD⟩ (fun i G _ h => sqT_same h.2 tf2) (fun i x G hx h => ?_) (fun G h => ?_)⟩
    · obtain ⟨eD, s2⟩ := h
      obtain ⟨t, ht, rfl⟩ : ∃ c, ts[i]? = some c ∧ V.ref c = x := by
        rw [List.getElem?_map] at hx
        obtain ⟨c, a, b⟩ := Option.map_eq_some_iff.mp hx
        exact ⟨c, a, b⟩
      obtain ⟨e, he, cc, a1, a2⟩ := pget pr2 ht
      have ilt : i < L.length := (List.getElem?_eq_some_iff.mp he).1
      refine ⟨t, _, rfl, SqT.of (s2 _ _ a1), rfl, _, _, rfl, _, _, rfl, rfl, rfl, ?_⟩
      unfold tYes
      simp only [↓reduceIte]
      refine ⟨_, rfl, _, rfl, _, kp e.1, cc, rfl, s2 _ _ a2, eD, ?_, ?_, fun b oo q => ?_⟩
      · rw [List.length_map, List.length_take]
        exact Nat.lt_of_le_of_lt (show min i L.length ≤ 800 by omega) (by decide)
      · have tk : L.take (i + 1) = L.take i ++ [e] := take_more he
        have nn : (((L.take i ++ [e])).map (·.1)).Nodup := by
          rw [← tk, List.map_take]
          exact nodup.sublist (List.take_sublist _ _)
        rw [List.map_append, List.nodup_append] at nn
        have ni : e.1 ∉ (L.take i).map (·.1) := fun m => nn.2.2 _ m _ List.mem_cons_self rfl
        have pe := put_ent (L.take i) e.1 e.2 nn.1
        rw [tput_new ni] at pe
        rw [upd_same, tk]
        exact congrArg (fun q => some (HO.dT q)) pe
      · rw [upd_ne (ne_of_none q hD)]
        exact s2 _ _ q
    obtain ⟨eD, s2⟩ := h
    rw [List.length_map, ← len, List.take_length] at eD
    have oD : o ≠ D := ne_of_none o2 hD
    refine ⟨_, rfl, o, C, dx, _, rfl, s2 _ _ o2, c.cls, c.table, by show 2 < 1000; decide, ?_⟩
    refine ⟨Nat.zero_le _, fun sl nsl => ⟨_, rfl, o, C, dx, _, rfl, (upd_ne (ne_of_none upd_same nsl)).trans upd_same, c.cls, c.sends, by show 3 < 1000; decide, ?_⟩⟩
    refine ⟨_, rfl, o, C, dx, _, rfl, upd_same, c.cls, c.failed, by show 4 < 1000; decide, ?_⟩
    intro rd nrd
    refine ⟨_, rfl, o, C, dx, _, rfl, (upd_ne (ne_of_none upd_same nrd)).trans upd_same, c.cls, c.reads, by show 5 < 1000; decide, ?_⟩
    intro wd nwd
    refine ⟨_, rfl, o, C, dx, _, rfl, (upd_ne (ne_of_none upd_same nwd)).trans upd_same, c.cls, c.writes, by show 6 < 1000; decide, ?_⟩
    have osl : o ≠ sl := ne_of_none upd_same nsl
    have ord : o ≠ rd := ne_of_none upd_same nrd
    have owd : o ≠ wd := ne_of_none upd_same nwd
    have nsl : (upd G o (.ins C dx [("key", .str key), ("body", .int body), ("table", .ref D)])) sl = none := nsl
    have nrd : (upd (upd (upd (upd G o (.ins C dx [("key", .str key), ("body", .int body), ("table", .ref D)])) sl (.lst [])) o (.ins C dx [("key", .str key), ("body", .int body), ("table", .ref D), ("sends", .ref sl)])) o (.ins C dx [("key", .str key), ("body", .int body), ("table", .ref D), ("sends", .ref sl), ("failed", .bl false)])) rd = none := nrd
    have nwd : (upd (upd (upd (upd (upd (upd G o (.ins C dx [("key", .str key), ("body", .int body), ("table", .ref D)])) sl (.lst [])) o (.ins C dx [("key", .str key), ("body", .int body), ("table", .ref D), ("sends", .ref sl)])) o (.ins C dx [("key", .str key), ("body", .int body), ("table", .ref D), ("sends", .ref sl), ("failed", .bl false)])) rd (.dT [])) o (.ins C dx [("key", .str key), ("body", .int body), ("table", .ref D), ("sends", .ref sl), ("failed", .bl false), ("reads", .ref rd)])) wd = none := nwd
    have D3 : (upd G o (.ins C dx [("key", .str key), ("body", .int body), ("table", .ref D)])) D = some (.dT (L.map ent)) := (upd_ne oD.symm).trans eD
    have Dsl : D ≠ sl := ne_of_none D3 nsl
    have D5 : (upd (upd (upd (upd G o (.ins C dx [("key", .str key), ("body", .int body), ("table", .ref D)])) sl (.lst [])) o (.ins C dx [("key", .str key), ("body", .int body), ("table", .ref D), ("sends", .ref sl)])) o (.ins C dx [("key", .str key), ("body", .int body), ("table", .ref D), ("sends", .ref sl), ("failed", .bl false)])) D = some (.dT (L.map ent)) := (upd_ne oD.symm).trans ((upd_ne oD.symm).trans ((upd_ne Dsl).trans D3))
    have Drd : D ≠ rd := ne_of_none D5 nrd
    have D6 : (upd (upd (upd (upd (upd (upd G o (.ins C dx [("key", .str key), ("body", .int body), ("table", .ref D)])) sl (.lst [])) o (.ins C dx [("key", .str key), ("body", .int body), ("table", .ref D), ("sends", .ref sl)])) o (.ins C dx [("key", .str key), ("body", .int body), ("table", .ref D), ("sends", .ref sl), ("failed", .bl false)])) rd (.dT [])) o (.ins C dx [("key", .str key), ("body", .int body), ("table", .ref D), ("sends", .ref sl), ("failed", .bl false), ("reads", .ref rd)])) D = some (.dT (L.map ent)) := (upd_ne oD.symm).trans ((upd_ne Drd).trans D5)
    have Dwd : D ≠ wd := ne_of_none D6 nwd
    have S5 : (upd (upd (upd (upd G o (.ins C dx [("key", .str key), ("body", .int body), ("table", .ref D)])) sl (.lst [])) o (.ins C dx [("key", .str key), ("body", .int body), ("table", .ref D), ("sends", .ref sl)])) o (.ins C dx [("key", .str key), ("body", .int body), ("table", .ref D), ("sends", .ref sl), ("failed", .bl false)])) sl = some (.lst []) := (upd_ne osl.symm).trans ((upd_ne osl.symm).trans upd_same)
    have slrd : sl ≠ rd := ne_of_none S5 nrd
    have S6 : (upd (upd (upd (upd (upd (upd G o (.ins C dx [("key", .str key), ("body", .int body), ("table", .ref D)])) sl (.lst [])) o (.ins C dx [("key", .str key), ("body", .int body), ("table", .ref D), ("sends", .ref sl)])) o (.ins C dx [("key", .str key), ("body", .int body), ("table", .ref D), ("sends", .ref sl), ("failed", .bl false)])) rd (.dT [])) o (.ins C dx [("key", .str key), ("body", .int body), ("table", .ref D), ("sends", .ref sl), ("failed", .bl false), ("reads", .ref rd)])) sl = some (.lst []) := (upd_ne osl.symm).trans ((upd_ne slrd).trans S5)
    have slwd : sl ≠ wd := ne_of_none S6 nwd
    have R6 : (upd (upd (upd (upd (upd (upd G o (.ins C dx [("key", .str key), ("body", .int body), ("table", .ref D)])) sl (.lst [])) o (.ins C dx [("key", .str key), ("body", .int body), ("table", .ref D), ("sends", .ref sl)])) o (.ins C dx [("key", .str key), ("body", .int body), ("table", .ref D), ("sends", .ref sl), ("failed", .bl false)])) rd (.dT [])) o (.ins C dx [("key", .str key), ("body", .int body), ("table", .ref D), ("sends", .ref sl), ("failed", .bl false), ("reads", .ref rd)])) rd = some (.dT []) := (upd_ne ord.symm).trans upd_same
    have rdwd : rd ≠ wd := ne_of_none R6 nwd
    have xG : SameX o H G := fun z v n h => s2 _ _ (x2 z v n h)
    have x3 : SameX o H (upd G o (.ins C dx [("key", .str key), ("body", .int body), ("table", .ref D)])) := sameX_upd xG
    have x4 : SameX o H (upd (upd G o (.ins C dx [("key", .str key), ("body", .int body), ("table", .ref D)])) sl (.lst [])) := fun z v n h => (upd_ne (ne_of_none (x3 z v n h) nsl)).trans (x3 z v n h)
    have x5 : SameX o H (upd (upd (upd (upd G o (.ins C dx [("key", .str key), ("body", .int body), ("table", .ref D)])) sl (.lst [])) o (.ins C dx [("key", .str key), ("body", .int body), ("table", .ref D), ("sends", .ref sl)])) o (.ins C dx [("key", .str key), ("body", .int body), ("table", .ref D), ("sends", .ref sl), ("failed", .bl false)])) := sameX_upd (sameX_upd x4)
    have x6a : SameX o H (upd (upd (upd (upd (upd G o (.ins C dx [("key", .str key), ("body", .int body), ("table", .ref D)])) sl (.lst [])) o (.ins C dx [("key", .str key), ("body", .int body), ("table", .ref D), ("sends", .ref sl)])) o (.ins C dx [("key", .str key), ("body", .int body), ("table", .ref D), ("sends", .ref sl), ("failed", .bl false)])) rd (.dT [])) := fun z v n h => (upd_ne (ne_of_none (x5 z v n h) nrd)).trans (x5 z v n h)
    have x6 : SameX o H (upd (upd (upd (upd (upd (upd G o (.ins C dx [("key", .str key), ("body", .int body), ("table", .ref D)])) sl (.lst [])) o (.ins C dx [("key", .str key), ("body", .int body), ("table", .ref D), ("sends", .ref sl)])) o (.ins C dx [("key", .str key), ("body", .int body), ("table", .ref D), ("sends", .ref sl), ("failed", .bl false)])) rd (.dT [])) o (.ins C dx [("key", .str key), ("body", .int body), ("table", .ref D), ("sends", .ref sl), ("failed", .bl false), ("reads", .ref rd)])) := sameX_upd x6a
    have x7a : SameX o H (upd (upd (upd (upd (upd (upd (upd G o (.ins C dx [("key", .str key), ("body", .int body), ("table", .ref D)])) sl (.lst [])) o (.ins C dx [("key", .str key), ("body", .int body), ("table", .ref D), ("sends", .ref sl)])) o (.ins C dx [("key", .str key), ("body", .int body), ("table", .ref D), ("sends", .ref sl), ("failed", .bl false)])) rd (.dT [])) o (.ins C dx [("key", .str key), ("body", .int body), ("table", .ref D), ("sends", .ref sl), ("failed", .bl false), ("reads", .ref rd)])) wd (.dT [])) := fun z v n h => (upd_ne (ne_of_none (x6 z v n h) nwd)).trans (x6 z v n h)
    exact k D sl rd wd (upd (upd (upd (upd (upd (upd (upd (upd G o (.ins C dx [("key", .str key), ("body", .int body), ("table", .ref D)])) sl (.lst [])) o (.ins C dx [("key", .str key), ("body", .int body), ("table", .ref D), ("sends", .ref sl)])) o (.ins C dx [("key", .str key), ("body", .int body), ("table", .ref D), ("sends", .ref sl), ("failed", .bl false)])) rd (.dT [])) o (.ins C dx [("key", .str key), ("body", .int body), ("table", .ref D), ("sends", .ref sl), ("failed", .bl false), ("reads", .ref rd)])) wd (.dT [])) o (.ins C dx [("key", .str key), ("body", .int body), ("table", .ref D), ("sends", .ref sl), ("failed", .bl false), ("reads", .ref rd), ("writes", .ref wd)])) ⟨⟨dx, upd_same⟩, ⟨(upd_ne oD.symm).trans ((upd_ne Dwd).trans D6), nodup, rok.ok, [], (upd_ne osl.symm).trans ((upd_ne slwd).trans S6), .nil⟩, (upd_ne ord.symm).trans ((upd_ne rdwd).trans R6), (upd_ne owd.symm).trans upd_same, List.nodup_nil, List.nodup_nil, Drd, Dwd, rdwd⟩
      (none_of x2 hD oD.symm) (none_of x3 nsl osl.symm) (none_of x5 nrd ord.symm) (none_of x6 nwd owd.symm) (sameX_upd x7a)
end
end Hd

set_option Elab.async false
set_option linter.all false
set_option maxRecDepth 100000
set_option maxHeartbeats 8000000
namespace Hd
open PySem L2 Pen RG Dat KEq
abbrev sRws : Stmt := inCl cRun 1
abbrev sTd : Stmt := inCl cRun 2
abbrev sRo : Stmt := top 18
theorem RunS.setF {C : Addr} {G : Hp} {o d sl rd wd dx : Addr} {key : Str} {body : Int} {fb fb' : Bool} {st : Sta} {R W : List Z} {fs : List (Str × V)} (x : RunS C G o d sl rd wd key body fb st R W) (ho : G o = some (.ins C dx fs)) :
    RunS C (upd G o (.ins C dx [("key", .str key), ("body", .int body), ("table", .ref d), ("sends", .ref sl), ("failed", .bl fb'), ("reads", .ref rd), ("writes", .ref wd)])) o d sl rd wd key body fb' st R W := by
  have n : ∀ {q : Addr} {oo : HO}, G q = some oo → (∀ C dx fs, oo ≠ .ins C dx fs) → q ≠ o := fun hq ne => ne_of hq ho (ne _ _ _)
  have ni : NoT (.ins C dx fs) := ⟨(fun _ z => nomatch z), (fun _ _ z => nomatch z)⟩
  obtain ⟨_, ⟨b1, b2, b3, ts, b4, b5⟩, c, e, f, g, h, i, j⟩ := x
  exact ⟨⟨dx, upd_same⟩, ⟨(upd_ne (n b1 (fun _ _ _ z => nomatch z))).trans b1, b2, b3, ts, (upd_ne (n b4 (fun _ _ _ z => nomatch z))).trans b4, snds_y (a := o) (b := o) (fun a oo h1 _ h => (upd_ne h1).trans h) ho ni ho ni b5⟩, (upd_ne (n c (fun _ _ _ z => nomatch z))).trans c, (upd_ne (n e (fun _ _ _ z => nomatch z))).trans e, f, g, h, i, j⟩
def spRws (C : Addr) : Sp := fun vs H Q _ => ∃ (o d sl rd wd : Addr) (key : Str) (body : Int) (fb : Bool) (st : Sta) (R W : List Z), vs = [.ref o] ∧ RunS C H o d sl rd wd key body fb st R W ∧ st.t.length ≤ 900 ∧
  ∀ zs r H', Srt (st.t.map (·.1)) zs → Same H H' → RowsAt H' r (rowsOf st.t zs) → Q (.ref r) H'
def spTd (C : Addr) : Sp := fun vs H Q _ => ∃ (o d sl rd wd : Addr) (key : Str) (body : Int) (st : Sta) (R W : List Z), vs = [.ref o] ∧ RunS C H o d sl rd wd key body false st R W ∧
  ∀ r (ts : List Addr) H', DpT.TupF H' r (ts.map V.ref) → Paired (SndT H') st.ss ts → Same H H' → Q (.ref r) H'
def spRo (K : PySem.W.Frag) (C : Addr) : Sp := fun vs H Q _ => ∃ (v : V) (ds : List PyData) (r' : Nat) (ra ma : Addr) (L : List (Z × Int)) (kd : V) (key : Str) (body : Int), vs = [v, .ref ra, .ref ma] ∧ Rp K H v (.tuple ds) ∧ roomAll (deedR 3) ds 12 = some r' ∧ RowsQ K H ra L ∧ RowsOk L ∧ L.length ≤ 800 ∧
  SqT K H ma [kd, .str key, .int body] ∧ isWord (.str key) = true ∧ (-99 ≤ body ∧ body ≤ 99) ∧
  ∀ o d sl rd wd R W H', RunS C H' o d sl rd wd key body (!(runAll (deedE key body 3) ds ⟨L, []⟩).1) (runAll (deedE key body 3) ds ⟨L, []⟩).2 R W → (runAll (deedE key body 3) ds ⟨L, []⟩).2.t.length ≤ 900 → Same H H' → Q (.ref o) H'
section
variable {P : Program} {w : World} {K : PySem.W.Frag} {mg : Str → Option Value} {base : Heap}
theorem scRws : FnScope ["self", "places", "place"] ["self"] (defScope sRws) := ⟨rfl, rfl, rfl, by decide +kernel, rfl, by decide +kernel, by decide +kernel⟩
theorem scTd : FnScope ["self"] ["self"] (defScope sTd) := ⟨rfl, rfl, rfl, by decide +kernel, rfl, by decide +kernel, by decide +kernel⟩
theorem scRo : FnScope ["handler", "rows", "message", "run"] ["handler", "rows", "message"] (defScope sRo) := ⟨rfl, rfl, rfl, by decide +kernel, rfl, by decide +kernel, by decide +kernel⟩
theorem ok_td {f C : Addr} {fd : FuncData} (F : Fun K "told" "Run.told" sTd f fd) (T : TxtS mg) (c : RunC K C) : FnOk P w K mg base CX0 1 f fd ["self"] (spTd C) := by
  refine F.ok scTd (fun vs H Q E h => ?_) (fun cdv A outer s H vs Q E hr h => ?_)
  · obtain ⟨o, d, sl, rd, wd, key, body, st, R, W, rfl, _⟩ := h
    rfl
  · obtain ⟨o, d, sl, rd, wd, key, body, st, R, W, rfl, S, k⟩ := h
    refine ⟨_, (pss_one (ps_ret (pe_ifExp (pt_val (pe_fld (pv 0) (by rfl))) (Ab.pe_tupA pa_nil) (pe_callTy DpT.call_tupleF (by rfl) T.tuple (by decide +kernel) (pa_cons (pe_fld (pv 0) (by rfl)) pa_nil))))), ?_⟩
    obtain ⟨dx, ob⟩ := S.obj
    obtain ⟨ts, esl, p⟩ := S.sta.lst
    refine ⟨_, rfl, o, C, dx, _, .bl false, rfl, ob, c.cls, c.failed, rfl, _, rfl, ite2 (fun h1 => by cases h1) (fun _ => ?_)⟩
    refine ⟨_, rfl, o, C, dx, _, .ref sl, rfl, ob, c.cls, c.sends, rfl, sl, _, rfl, SqL.of esl, fun l q nl oc od => ?_⟩
    exact k l ts _ ⟨q, oc, od, upd_same⟩ (snds_y (Same.Y (a := sl) (b := sl) (same_new nl)) esl noT_lst esl noT_lst p) (same_new nl)
theorem ok_rws {f C : Addr} {fd : FuncData} (F : Fun K "rows" "Run.rows" sRws f fd) (T : TxtS mg) (c : RunC K C) : FnOk P w K mg base CX0 1 f fd ["self"] (spRws C) := by
  refine F.ok scRws (fun vs H Q E h => ?_) (fun cdv A outer s H vs Q E hr h => ?_)
  · obtain ⟨o, d, sl, rd, wd, key, body, fb, st, R, W, rfl, _⟩ := h
    rfl
  · obtain ⟨o, d, sl, rd, wd, key, body, fb, st, R, W, rfl, S, hl, k⟩ := h
    have hu := hu_of hr
    refine ⟨_, (pss_cons (ps_set (i := 1) scRws.nd rfl (Or.inl rfl) (pe_callB (KSrt.call_sortedT rfl) (by rfl) T.sorted (by decide +kernel) (pa_cons (pe_fld (pv 0) (by rfl)) pa_nil)))
      (pss_one (ps_ret (pe_callTy DpT.call_tupleF (by rfl) T.tuple (by decide +kernel) (pa_cons (pe_lc (own := [("place", 2)]) (g := gName 2) (tt := (tTest (tOp rNe (tDGet (tFld K (tVar 0) "table") (tVar 2)) (tC (.int 0))))) (te := (Ab.tTupA (tCons (tVar 2) (tCons (tDGet (tFld K (tVar 0) "table") (tVar 2)) tNil)))) rfl scRws.nd (pi_list (pv 1)) (blkOk_by (N := ["self", "places", "place"]) (sc := defScope sRws) (by decide +kernel)) (fun _ _ _ _ _ => by exact (pg_name (i := 2) scRws.nd rfl (Or.inl rfl))) (fun _ _ _ _ _ => by exact pts_one (pt_cmpR op_ne (pe_dget hu (pe_fld (pv 0) (by rfl)) (pv 2) (fun _ _ => rfl)) pe_int (nomark _))) (fun _ _ _ _ _ => by exact (Ab.pe_tupA (pa_cons (pv 2) (pa_cons (pe_dget hu (pe_fld (pv 0) (by rfl)) (pv 2) (fun _ _ => rfl)) pa_nil))))) pa_nil))))), ?_⟩
    obtain ⟨dx, ob⟩ := S.obj
    have hd := S.sta.tab
    have nd := S.sta.nd
    refine ⟨_, rfl, o, C, dx, _, .ref d, rfl, ob, c.cls, c.table, rfl, d, st.t.map ent, st.t.map (·.1), rfl, .inl hd, keys_ent st.t, by rw [List.length_map]; omega, fun p zs cs np pm nds up pr => ?_⟩
    have s0 : Same H (upd H p (.lst (cs.map V.ref))) := same_new np
    have lz : zs.length = st.t.length := by rw [pm.length_eq, List.length_map]
    have lc : zs.length = cs.length := paired_length pr
    refine ⟨_, rfl, p, rfl, ⟨_, SqL.of upd_same⟩, fun D hD => ?_⟩
    refine lc_list (K := K) (a := p) (xs := cs.map V.ref) (fun i G => ∃ ts : List Addr, G D = some (.lst (ts.map V.ref)) ∧ Paired (RowT G) (rowsOf st.t (zs.take i)) ts ∧ Same (upd H p (.lst (cs.map V.ref))) G) ⟨[], upd_same, .nil, same_new hD⟩ (fun i G _ h => ?_) (fun i x G hx h => ?_) (fun G h => ?_)
    · obtain ⟨ts, _, _, s1⟩ := h
      exact SqL.of (s1 _ _ upd_same)
    · obtain ⟨ts, eD, rows, s1⟩ := h
      obtain ⟨cc, hc, rfl⟩ : ∃ c, cs[i]? = some c ∧ V.ref c = x := by
        rw [List.getElem?_map] at hx
        obtain ⟨c, a, b⟩ := Option.map_eq_some_iff.mp hx
        exact ⟨c, a, b⟩
      obtain ⟨z, hz, hcz⟩ := pget pr hc
      have ec : G cc = some (.tup [.str z.1, .str z.2]) := s1 _ _ (s0 _ _ hcz)
      have ed : G d = some (.dT (st.t.map ent)) := s1 _ _ (s0 _ _ hd)
      have eo := s1 _ _ (s0 _ _ ob)
      obtain ⟨v, hv, _⟩ := lk_some (t := st.t) (z := z) (pm.mem_iff.mp (List.mem_of_getElem? hz))
      have dg : ∀ {G2 : Hp}, Same G G2 → DGet G2 d (.ref cc) (some (.int v)) := fun {G2} s2 => by
        have q := DGet.t (k := kp z) (s2 _ _ ed) (s2 _ _ ec)
        rw [val_ent, hv] at q
        exact q
      have tk : zs.take (i + 1) = zs.take i ++ [z] := take_more hz
      have il : i < 1000 := by
        have := (List.getElem?_eq_some_iff.mp hz).1
        omega
      have tl : ts.length ≤ 1000 := by
        have a := rowsOf_len st.t (zs.take i)
        rw [paired_length rows, List.length_take] at a
        omega
      refine ⟨rfl, _, rfl, o, C, dx, _, .ref d, rfl, eo, c.cls, c.table, rfl, _, rfl, d, _, rfl, dg (.refl G), rfl, _, rfl, ite2 (fun h1 => ?_) (fun h1 => ?_)⟩
      · have nz : (lk st.t z).getD 0 ≠ 0 := by
          rw [hv]
          intro e
          have e : v = 0 := e
          rw [e] at h1
          exact absurd h1 (by simp)
        refine ⟨_, rfl, _, rfl, o, C, dx, _, .ref d, rfl, eo, c.cls, c.table, rfl, _, rfl, d, _, rfl, dg (.refl G), sz (by simp), fun r G2 n2 s2 e2 => ⟨ts.map V.ref, s2 _ _ eD, ?_, ts ++ [r], ?_, ?_, ?_⟩⟩
        · rw [List.length_map]
          exact Nat.lt_of_le_of_lt tl (by decide)
        · rw [upd_same, List.map_append]
          rfl
        · rw [tk, rowsOf_snoc, if_pos nz]
          refine paired_snoc ?_ (rows_put (s2 _ _ eD) (rows_same s2 rows))
          rw [hv]
          exact ⟨cc, (upd_ne (ne_of e2 (s2 _ _ eD) (by intro y; cases y))).trans e2, (upd_ne (ne_of (s2 _ _ ec) (s2 _ _ eD) (by intro y; cases y))).trans (s2 _ _ ec)⟩
        · intro b oo y
          rw [upd_ne (ne_of_none y hD)]
          exact s2 _ _ (s1 _ _ y)
      · have nz : ¬ (lk st.t z).getD 0 ≠ 0 := by
          rw [hv]
          intro e
          have e : v ≠ 0 := e
          exact h1 (by simpa using e)
        exact ⟨ts, eD, by rw [tk, rowsOf_snoc, if_neg nz]; exact rows, s1⟩
    · obtain ⟨ts, eD, rows, s1⟩ := h
      rw [List.length_map, ← lc, List.take_length] at rows
      refine ⟨D, ts.map V.ref, rfl, SqL.of eD, fun l q nl oc od => k zs l _ ⟨pm, nds, up⟩ (s0.trans (s1.trans (same_new nl))) ⟨ts, ⟨q, oc, od, upd_same⟩, rows_same (same_new nl) rows⟩⟩
theorem ok_ro {f fIn fDa C : Addr} {fd fdIn fdDa : FuncData} (F : Fun K "run_of" "run_of" sRo f fd) (c : RunC K C) (mgR : mg "Run" = some (.ref C)) (mkI : Mk K C fIn)
    (GIn : FnOk P w K mg base CX0 1 fIn fdIn ["self", "rows", "message"] (spIn K C)) (bIn : Binds K fdIn ["self", "rows", "message"] [])
    (GDa : FnOk P w K mg base CX0 27 fDa fdDa ["self", "deeds"] (spDa K C 4)) (mDa : Meth K C "do_all" fDa) (bDa : Binds K fdDa ["self", "deeds"] []) : FnOk P w K mg base CX0 28 f fd ["handler", "rows", "message"] (spRo K C) := by
  refine F.ok scRo (fun vs H Q E h => ?_) (fun cdv A outer s H vs Q E hr h => ?_)
  · obtain ⟨v, ds, r', ra, ma, L, kd, key, body, rfl, _⟩ := h
    rfl
  · obtain ⟨v, ds, r', ra, ma, L, kd, key, body, rfl, rp, room, rows, rok, ll, qm, wk, ⟨b0, b1⟩, k⟩ := h
    refine ⟨_, (pss_cons (ps_set (i := 3) scRo.nd rfl (Or.inl rfl) (pe_make mkI GIn (hr.mono (by decide)) rfl mgR bIn .nil pass0 (pa_cons (pv 1) (pa_cons (pv 2) pa_nil))))
      (pss_cons (ps_fld (pv 3) (pe_not (pe_meth (pv 3) c.cls mDa GDa (hr.mono (by omega)) bDa .nil pass0 (pa_cons (pv 0) pa_nil) (by rfl) (by rfl))) (by rfl))
      (pss_one (ps_ret (pv 3))))), ?_⟩
    refine ⟨_, rfl, _, rfl, fun x dx nx ndx ne => ?_⟩
    have s0 : Same H (upd (upd H dx (.own x)) x (.ins C dx [])) := fun b oo q => (upd_ne (ne_of_none q nx)).trans ((upd_ne (ne_of_none q ndx)).trans q)
    refine ⟨x, dx, ra, ma, L, kd, key, body, rfl, upd_same, rows.same s0, rok, ll, sqT_same s0 qm, fun d sl rd wd G1 S1 nd nsl nrd nwd sx => ⟨rfl, ?_⟩⟩
    have far : ∀ z oo, H z = some oo → z ≠ x ∧ z ≠ d ∧ z ≠ sl ∧ z ≠ rd ∧ z ≠ wd := fun z oo h => ⟨ne_of_none h nx, ne_of_none (s0 _ _ h) nd, ne_of_none (s0 _ _ h) nsl, ne_of_none (s0 _ _ h) nrd, ne_of_none (s0 _ _ h) nwd⟩
    have s1 : Same H G1 := fun z oo h => sx z oo (far z oo h).1 (s0 _ _ h)
    have sc : Same H (cut4 d sl rd wd G1) := fun z oo h => by
      obtain ⟨_, n1, n2, n3, n4⟩ := far z oo h
      unfold cut4
      rw [if_neg (by simp only [not_or]; exact ⟨n1, n2, n3, n4⟩)]
      exact s1 _ _ h
    obtain ⟨dx1, ob1⟩ := S1.obj
    refine ⟨_, rfl, x, dx1, _, rfl, ob1, rfl, _, rfl, x, d, sl, rd, wd, key, body, false, ⟨L, []⟩, [], [], v, ds, 3, 12, r', rfl, by decide, S1, Rp.same sc rp, room, ⟨by show 0 + 16384 * 12 < 400000; decide, by show 0 + 12 ≤ 1000; decide, by show 0 + 12 ≤ 100; decide, by show L.length + 12 ≤ 900; omega, wk, b0, b1⟩, fun G2 A => ?_⟩
    obtain ⟨⟨R2, W2, S2, _, _⟩, _, ct, fr⟩ := A
    have ct : (runAll (deedE key body 3) ds ⟨L, []⟩).2.t.length + r' ≤ L.length + 12 := ct
    obtain ⟨dx2, ob2⟩ := S2.obj
    refine ⟨_, rfl, _, rfl, x, C, dx2, _, rfl, ob2, c.cls, c.failed, by show 7 < 1000; decide, ?_⟩
    refine ⟨_, rfl, ?_⟩
    refine k x d sl rd wd R2 W2 _ (S2.setF ob2) (by omega) (fun z oo h => ?_)
    obtain ⟨n0, n1, n2, n3, n4⟩ := far z oo h
    exact (upd_ne n0).trans (fr z oo n1 n2 n3 n4 (s1 _ _ h))
end
end Hd

set_option Elab.async false
set_option linter.all false
set_option maxRecDepth 100000
set_option maxHeartbeats 8000000
namespace Hd
open PySem L2 Pen RG Dat KEq
abbrev sRh : Stmt := top 35
theorem ps_no {X : Cx} {st : Stmt} : PS X st (fun _ _ _ => False) := ⟨fun _ _ _ _ _ _ h => h.elim⟩
def spRh (K : PySem.W.Frag) : Sp := fun vs H Q _ => ∃ (v : V) (ds : List PyData) (r' : Nat) (ra ma : Addr) (L : List (Z × Int)) (kd key : Str) (body : Int), vs = [v, .ref ra, .ref ma] ∧ Rp K H v (.tuple ds) ∧ sm (.tuple ds) = true ∧ roomAll (deedR 3) ds 12 = some r' ∧ RowsQ K H ra L ∧ RowsOk L ∧ L.length ≤ 800 ∧
  SqT K H ma [.str kd, .str key, .int body] ∧ isWord (.str kd) = true ∧ isWord (.str key) = true ∧ (-99 ≤ body ∧ body ≤ 99) ∧
  ∀ res H', RunAt H' res (runAll (deedE key body 3) ds ⟨L, []⟩) → Same H H' → Q (.ref res) H'
section
variable {P : Program} {w : World} {K : PySem.W.Frag} {mg : Str → Option Value} {base : Heap}
theorem scRh : FnScope ["handler", "rows", "message", "run"] ["handler", "rows", "message"] (defScope sRh) := ⟨rfl, rfl, rfl, by decide +kernel, rfl, by decide +kernel, by decide +kernel⟩
theorem ok_rh {f fH fR fM fO fRw fT C : Addr} {fd fdH fdR fdM fdO fdRw fdT : FuncData} (F : Fun K "run_handler" "run_handler" sRh f fd) (c : RunC K C)
    (GHand : FnOk P w K mg base CX0 27 fH fdH ["value"] (spHand K)) (THand : DefT K mg "is_handler" fH) (bHand : Binds K fdH ["value"] [])
    (GRs : FnOk P w K mg base CX0 4 fR fdR ["value"] (spRs K)) (TRs : DefT K mg "is_rows" fR) (bRs : Binds K fdR ["value"] [])
    (GMs : FnOk P w K mg base CX0 3 fM fdM ["value"] (spMs K)) (TMs : DefT K mg "is_message" fM) (bMs : Binds K fdM ["value"] [])
    (GRo : FnOk P w K mg base CX0 28 fO fdO ["handler", "rows", "message"] (spRo K C)) (TRo : DefT K mg "run_of" fO) (bRo : Binds K fdO ["handler", "rows", "message"] [])
    (GRws : FnOk P w K mg base CX0 1 fRw fdRw ["self"] (spRws C)) (mRws : Meth K C "rows" fRw) (bRws : Binds K fdRw ["self"] [])
    (GTd : FnOk P w K mg base CX0 1 fT fdT ["self"] (spTd C)) (mTd : Meth K C "told" fT) (bTd : Binds K fdT ["self"] []) : FnOk P w K mg base CX0 29 f fd ["handler", "rows", "message"] (spRh K) := by
  refine F.ok scRh (fun vs H Q E h => ?_) (fun cdv A outer s H vs Q E hr h => ?_)
  · obtain ⟨v, ds, r', ra, ma, L, kd, key, body, rfl, _⟩ := h
    rfl
  · obtain ⟨v, ds, r', ra, ma, L, kd, key, body, rfl, rp, small, room, rows, rok, ll, qm, w1, wk, ⟨b0, b1⟩, k⟩ := h
    have hu := hu_of hr
    refine ⟨_, (pss_cons (ps_if (pt_not (pt_val (pe_call GHand (hr.mono (by decide)) rfl THand.mg THand.kp bHand .nil pass0 (pa_cons (pv 0) pa_nil)))) (pss_one ps_no) pss_nil)
      (pss_cons (ps_if (pt_not (pt_val (pe_call GRs (hr.mono (by decide)) rfl TRs.mg TRs.kp bRs .nil pass0 (pa_cons (pv 1) pa_nil)))) (pss_one ps_no) pss_nil)
      (pss_cons (ps_if (pt_not (pt_val (pe_call GMs (hr.mono (by decide)) rfl TMs.mg TMs.kp bMs .nil pass0 (pa_cons (pv 2) pa_nil)))) (pss_one ps_no) pss_nil)
      (pss_cons (ps_set (i := 3) scRh.nd rfl (Or.inl rfl) (pe_call GRo (hr.mono (by decide)) rfl TRo.mg TRo.kp bRo .nil pass0 (pa_cons (pv 0) (pa_cons (pv 1) (pa_cons (pv 2) pa_nil)))))
      (pss_cons (ps_if (pt_val (pe_fld (pv 3) (by rfl))) (pss_one (ps_ret (Ab.pe_tupA (pa_cons pe_str pa_nil)))) pss_nil)
      (pss_one (ps_ret (Ab.pe_tupA (pa_cons pe_str (pa_cons (pe_meth0 (pv 3) c.cls mRws GRws (hr.mono (by decide)) bRws .nil pass0 (by rfl)) (pa_cons (pe_meth0 (pv 3) c.cls mTd GTd (hr.mono (by decide)) bTd .nil pass0 (by rfl)) pa_nil))))))))))), ?_⟩
    have hok : hOk (.tuple ds) = true := by
      show (roomAll (deedR 3) ds 12).isSome = true
      rw [room]
      rfl
    refine ⟨_, rfl, v, _, rfl, rp, small, fun H1 s1 => ⟨_, rfl, ?_⟩⟩
    rw [hok]
    refine iteF ?_
    refine ⟨_, rfl, ra, L, rfl, rows.same s1, rok, by omega, fun H2 s2 => ⟨_, rfl, iteF ?_⟩⟩
    have s12 := s1.trans s2
    refine ⟨_, rfl, ma, kd, key, body, rfl, sqT_same s12 qm, w1, wk, ⟨b0, b1⟩, fun H3 s3 => ⟨_, rfl, iteF ?_⟩⟩
    have s13 := s12.trans s3
    refine ⟨_, rfl, _, rfl, _, rfl, v, ds, r', ra, ma, L, .str kd, key, body, rfl, Rp.same s13 rp, room, rows.same s13, rok, ll, sqT_same s13 qm, wk, ⟨b0, b1⟩, fun o d sl rd wd R W H4 S hl s4 => ?_⟩
    have s14 := s13.trans s4
    obtain ⟨dx, ob⟩ := S.obj
    refine ⟨_, rfl, o, C, dx, _, _, rfl, ob, c.cls, c.failed, rfl, _, rfl, ite2 (fun h1 => ?_) (fun h1 => ?_)⟩
    · refine ⟨sz (by simp), fun r G nr sr er => ?_⟩
      exact k r G (.failed (by simpa using h1) er) (s14.trans sr)
    · have hx : (runAll (deedE key body 3) ds ⟨L, []⟩).1 = true := by simpa using h1
      refine ⟨_, rfl, o, dx, _, rfl, ob, rfl, o, d, sl, rd, wd, key, body, _, _, R, W, rfl, S, hl, fun zs rr G1 srt s5 rws => ?_⟩
      have S5 := S.fresh s5
      rw [hx] at S5
      obtain ⟨dx5, ob5⟩ := S5.obj
      refine ⟨_, rfl, o, dx5, _, rfl, ob5, rfl, o, d, sl, rd, wd, key, body, _, R, W, rfl, S5, fun l ts G2 tf ps s6 => ?_⟩
      refine ⟨sz (by simp), fun r G nr sr er => ?_⟩
      have ps' : Paired (SndT G) (runAll (deedE key body 3) ds ⟨L, []⟩).2.ss ts := by
        have one : ∀ {A : List (Str × Str × Int)} {B : List Addr}, Paired (SndT G2) A B → Paired (SndT G) A B := by
          intro A B p
          induction p with
          | nil => exact .nil
          | cons x _ ih => exact .cons (sr _ _ x) ih
        exact one ps
      have tf' : DpT.TupF G l (ts.map V.ref) := by
        obtain ⟨q, a1, a2, a3⟩ := tf
        exact ⟨q, a1, a2, sr _ _ a3⟩
      exact k r G (.done zs rr l ts hx srt er (rws.same (s6.trans sr)) tf' ps') (((s14.trans s5).trans s6).trans sr)
end
end Hd

set_option Elab.async false
set_option linter.all false
set_option maxRecDepth 100000
set_option maxHeartbeats 8000000
namespace Hd
open PySem L2 Pen RG Dat KEq
/-- to be shown: short leaves, not much -/
structure Sml (n : Nat) (d : PyData) : Prop where
  l : d.leavesShort 13 = true
  s : d.showable = true
  b : d.bulk ≤ n
structure SmlAll (n : Nat) (ds : List PyData) : Prop where
  l : PyData.leavesShortAll 13 ds = true
  s : PyData.showableAll ds = true
  b : PyData.bulkAll ds ≤ n
theorem Sml.mono {n m : Nat} {d : PyData} (x : Sml n d) (h : n ≤ m) : Sml m d := ⟨x.l, x.s, Nat.le_trans x.b h⟩
theorem SmlAll.mono {n m : Nat} {d : List PyData} (x : SmlAll n d) (h : n ≤ m) : SmlAll m d := ⟨x.l, x.s, Nat.le_trans x.b h⟩
theorem SmlAll.nil : SmlAll 0 [] := ⟨by simp only [PyData.leavesShortAll], by simp only [PyData.showableAll], by simp only [PyData.bulkAll]; exact Nat.le_refl _⟩
theorem SmlAll.cons {n m : Nat} {d : PyData} {ds : List PyData} (x : Sml n d) (y : SmlAll m ds) : SmlAll (n + 1 + m) (d :: ds) := by
  refine ⟨?_, ?_, ?_⟩
  · simp only [PyData.leavesShortAll, x.l, y.l, Bool.and_self]
  · simp only [PyData.showableAll, x.s, y.s, Bool.and_self]
  · have := x.b
    have := y.b
    simp only [PyData.bulkAll]
    omega
theorem Sml.tup {n : Nat} {ds : List PyData} (x : SmlAll n ds) : Sml n (.tuple ds) := ⟨by simp only [PyData.leavesShort]; exact x.l, by simp only [PyData.showable]; exact x.s, by simp only [PyData.bulk]; exact x.b⟩
theorem Sml.lst {n : Nat} {ds : List PyData} (x : SmlAll n ds) : Sml n (.list ds) := ⟨by simp only [PyData.leavesShort]; exact x.l, by simp only [PyData.showable]; exact x.s, by simp only [PyData.bulk]; exact x.b⟩
theorem small_int : ((List.range 199).all fun (k : Nat) => (PyData.int ((k : Int) - 99)).leavesShort 13 && (PyData.int ((k : Int) - 99)).showable) = true := by decide +kernel
theorem Sml.int {i : Int} (h0 : -99 ≤ i) (h1 : i ≤ 99) : Sml 0 (.int i) := by
  have := List.all_eq_true.mp small_int (i + 99).toNat (List.mem_range.mpr (by omega))
  rw [Bool.and_eq_true, show (((i + 99).toNat : Nat) : Int) - 99 = i by omega] at this
  exact ⟨this.1, this.2, by simp only [PyData.bulk]; exact Nat.le_refl _⟩
theorem Sml.str {z : Str} {n : Nat} (h : (z.cps.toList.all fun c => decide (c < 16 ^ 8)) = true) (l : z.cps.size ≤ n) : Sml n (.str z) := ⟨by simp only [PyData.leavesShort]; exact h, by simp only [PyData.showable], by simp only [PyData.bulk]; exact l⟩
theorem abc_small : (abc.cps.toList.all fun c => decide (c < 16 ^ 8)) = true := by decide +kernel
theorem Sml.word {z : Str} (h : isWord (.str z) = true) : Sml 6 (.str z) := by
  have a : (decide (1 ≤ z.length) && decide (z.length ≤ 6) && z.cps.toList.all fun c => decide (c ∈ abc.cps.toList)) = true := h
  rw [Bool.and_eq_true] at a
  refine .str (List.all_eq_true.mpr fun c hc => ?_) (word_len h)
  have m := List.all_eq_true.mp a.2 c hc
  exact List.all_eq_true.mp abc_small c (of_decide_eq_true m)
theorem Sml.non : Sml 0 .none := ⟨by simp only [PyData.leavesShort], by simp only [PyData.showable], by simp only [PyData.bulk]; exact Nat.le_refl _⟩
theorem sml_e : ∀ (n : Nat) {d : PyData}, isE (n + 1) d = true → Sml (15 * 2 ^ n - 4) d ∧ 15 ≤ 15 * 2 ^ n
  | n, d, h => by
    have p1 : 1 ≤ 2 ^ n := Nat.one_le_two_pow
    refine ⟨?_, by omega⟩
    obtain ⟨m, hd, tl, e, rfl, q⟩ := e_cases h
    have e : m = n := by omega
    subst e
    rcases q with ⟨h1, i, rfl, i0, i1⟩ | ⟨_, h1, rfl⟩ | ⟨_, _, h1, z, rfl, wz⟩ | ⟨_, _, _, h1, a, b, rfl, ea, eb⟩
    · rw [isS_is h1]
      exact (Sml.tup (.cons (Sml.str (n := 5) (by decide +kernel) (by decide +kernel)) (.cons (.int i0 i1) .nil))).mono (by omega)
    · rw [isS_is h1]
      exact (Sml.tup (.cons (Sml.str (n := 4) (by decide +kernel) (by decide +kernel)) .nil)).mono (by omega)
    · rw [isS_is h1]
      exact (Sml.tup (.cons (Sml.str (n := 3) (by decide +kernel) (by decide +kernel)) (.cons (.word wz) .nil))).mono (by omega)
    · obtain ⟨z, m1, m2⟩ := List.any_eq_true.mp h1
      rw [isS_is m2]
      cases m with
      | zero => cases ea
      | succ m =>
        obtain ⟨sa, pa⟩ := sml_e m ea
        obtain ⟨sb, _⟩ := sml_e m eb
        have hz : Sml 1 (.str z) := by
          simp only [ops, List.mem_cons, List.not_mem_nil, or_false] at m1
          rcases m1 with e | e | e <;> subst e <;> exact .str (by decide +kernel) (by decide +kernel)
        exact (Sml.tup (.cons hz (.cons sa (.cons sb .nil)))).mono (by rw [Nat.pow_succ]; omega)
theorem sml_c : ∀ (n : Nat) {d : PyData}, isC (n + 1) d = true → Sml (970 * 2 ^ n - 6) d ∧ 970 ≤ 970 * 2 ^ n
  | n, d, h => by
    have p1 : 1 ≤ 2 ^ n := Nat.one_le_two_pow
    refine ⟨?_, by omega⟩
    obtain ⟨m, e, q⟩ := c_cases h
    have e : m = n := by omega
    subst e
    rcases q with ⟨z, a, b, hz, rfl, ea, eb⟩ | ⟨a, rfl, ca⟩ | ⟨z, a, b, hz, rfl, ca, cb⟩
    · obtain ⟨sa, _⟩ := sml_e 5 ea
      obtain ⟨sb, _⟩ := sml_e 5 eb
      have hz : Sml 1 (.str z) := by rcases hz with rfl | rfl <;> exact .str (by decide +kernel) (by decide +kernel)
      exact (Sml.tup (.cons hz (.cons sa (.cons sb .nil)))).mono (by omega)
    · cases m with
      | zero => cases ca
      | succ m =>
        obtain ⟨sa, pa⟩ := sml_c m ca
        exact (Sml.tup (.cons (Sml.str (n := 3) (by decide +kernel) (by decide +kernel)) (.cons sa .nil))).mono (by rw [Nat.pow_succ]; omega)
    · cases m with
      | zero => cases ca
      | succ m =>
        obtain ⟨sa, pa⟩ := sml_c m ca
        obtain ⟨sb, _⟩ := sml_c m cb
        have hz : Sml 3 (.str z) := by rcases hz with rfl | rfl <;> exact .str (by decide +kernel) (by decide +kernel)
        exact (Sml.tup (.cons hz (.cons sa (.cons sb .nil)))).mono (by rw [Nat.pow_succ]; omega)
theorem sml_all {f : PyData → Nat → Option Nat} (hf : ∀ d r r', f d r = some r' → r' ≤ r ∧ Sml (32000 * (r + 1) - 32000 * r' - 1) d) : ∀ {ds : List PyData} {r r' : Nat}, roomAll f ds r = some r' → r' ≤ r ∧ SmlAll (32000 * r - 32000 * r') ds
  | [], r, r', h => by
    have e : r = r' := Option.some.inj h
    subst e
    exact ⟨Nat.le_refl _, SmlAll.nil.mono (Nat.zero_le _)⟩
  | _ :: _, 0, _, h => by cases h
  | d :: ds, r + 1, r', h => by
    have h : (f d r).bind (roomAll f ds) = some r' := h
    obtain ⟨r1, a, b⟩ := Option.bind_eq_some_iff.mp h
    obtain ⟨l1, s1⟩ := hf _ _ _ a
    obtain ⟨l2, s2⟩ := sml_all hf b
    exact ⟨by omega, (SmlAll.cons s1 s2).mono (by omega)⟩
theorem sml_d : ∀ (i : Nat) (d : PyData) (r r' : Nat), deedR i d r = some r' → r' ≤ r ∧ Sml (32000 * (r + 1) - 32000 * r' - 1) d
  | i, d, r, r', h => by
    rcases deed_cases h with ⟨rfl, e⟩ | ⟨n, ex, rfl, wn, xe, e⟩ | ⟨n, kd, ex, rfl, wn, xk, xe, e⟩ | ⟨j, c, as, bs, r1, e, rfl, xc, ra, rb⟩
    · exact ⟨by omega, (Sml.tup (.cons (Sml.str (n := 4) (by decide +kernel) (by decide +kernel)) .nil)).mono (by omega)⟩
    · exact ⟨by omega, (Sml.tup (.cons (Sml.str (n := 3) (by decide +kernel) (by decide +kernel)) (.cons (.word wn) (.cons (sml_e 5 xe).1 .nil)))).mono (by omega)⟩
    · have k : Sml 6 kd := by
        cases kd with
        | none => exact Sml.non.mono (by decide)
        | str z => exact .word xk
        | _ => cases xk
      exact ⟨by omega, (Sml.tup (.cons (Sml.str (n := 4) (by decide +kernel) (by decide +kernel)) (.cons (.word wn) (.cons k (.cons (sml_e 5 xe).1 .nil))))).mono (by omega)⟩
    · cases i with
      | zero => cases e
      | succ i =>
        have e : j = i := by omega
        rw [e] at ra rb
        obtain ⟨l1, s1⟩ := sml_all (sml_d i) ra
        obtain ⟨l2, s2⟩ := sml_all (sml_d i) rb
        exact ⟨by omega, (Sml.tup (.cons (Sml.str (n := 2) (by decide +kernel) (by decide +kernel)) (.cons (sml_c 5 xc).1 (.cons (.tup s1) (.cons (.tup s2) .nil))))).mono (by omega)⟩
theorem sml_h {ds : List PyData} {r' : Nat} (h : roomAll (deedR 3) ds 12 = some r') : Sml 384000 (.tuple ds) := .tup ((sml_all (sml_d 3) h).2.mono (by omega))
theorem sml_rows : ∀ {L : List (Z × Int)}, TbOk L → SmlAll (L.length * 17) (L.map rowD)
  | [], _ => SmlAll.nil
  | e :: L, h => by
    obtain ⟨w1, w2, v0, v1⟩ := h e List.mem_cons_self
    have t := sml_rows (L := L) fun x hx => h x (List.mem_cons_of_mem _ hx)
    exact (SmlAll.cons (Sml.tup (.cons (.tup (.cons (.word w1) (.cons (.word w2) .nil))) (.cons (.int v0 v1) .nil))) t).mono (by rw [List.length_cons]; omega)
/-- what a small thing's text is -/
theorem Sml.fits {n : Nat} {d : PyData} (x : Sml n d) (h : n ≤ 2 ^ 20) : d.shown.length ≤ sizeLine := PyData.shown_fits_bulk (by decide) (by decide) x.l (Nat.le_trans x.b h)
end Hd

set_option Elab.async false
set_option linter.all false
set_option maxRecDepth 100000
set_option maxHeartbeats 8000000
namespace Hd
open PySem L2 Pen RG Dat KEq
/-- a state of words and values within the bounds -/
structure StOk (st : Sta) : Prop where
  t : TbOk st.t
  s : ∀ e ∈ st.ss, isWord (.str e.1) = true ∧ isWord (.str e.2.1) = true ∧ -99 ≤ e.2.2 ∧ e.2.2 ≤ 99
structure Grow (st : Sta) (r : Nat) (x : Sta) (r' : Nat) : Prop where
  ok : StOk x
  t : x.t.length + r' ≤ st.t.length + r
  s : x.ss.length + r' ≤ st.ss.length + r
theorem grow_all {f : PyData → Sta → Bool × Sta} {g : PyData → Nat → Option Nat} (hg : ∀ d r r', g d r = some r' → r' ≤ r) (hf : ∀ d r r' st, g d r = some r' → StOk st → Grow st (r + 1) (f d st).2 r') : ∀ {ds : List PyData} {r r' : Nat} {st : Sta}, roomAll g ds r = some r' → StOk st → Grow st r (runAll f ds st).2 r'
  | [], r, r', st, h, o => by
    have e : r = r' := Option.some.inj h
    subst e
    exact ⟨o, Nat.le_refl _, Nat.le_refl _⟩
  | _ :: _, 0, _, _, h, _ => by cases h
  | d :: ds, r + 1, r', st, h, o => by
    have h : (g d r).bind (roomAll g ds) = some r' := h
    obtain ⟨r1, a, b⟩ := Option.bind_eq_some_iff.mp h
    have x := hf _ _ _ st a o
    have le := roomAll_le hg b
    show Grow st (r + 1) (if (f d st).1 = true then runAll f ds (f d st).2 else f d st).2 r'
    by_cases c : (f d st).1 = true
    · rw [if_pos c]
      have y := grow_all hg hf (st := (f d st).2) b x.ok
      have := x.t
      have := x.s
      have := y.t
      have := y.s
      exact ⟨y.ok, by omega, by omega⟩
    · rw [if_neg c]
      have := x.t
      have := x.s
      exact ⟨x.ok, by omega, by omega⟩
theorem grow_d {key : Str} {body : Int} (wk : isWord (.str key) = true) (b0 : -99 ≤ body) (b1 : body ≤ 99) : ∀ (i : Nat) (d : PyData) (r r' : Nat) (st : Sta), deedR i d r = some r' → StOk st → Grow st (r + 1) (deedE key body i d st).2 r'
  | i, d, r, r', st, h, o => by
    have le := deedR_le i _ _ _ h
    rcases deed_cases h with ⟨rfl, e⟩ | ⟨n, ex, rfl, wn, xe, e⟩ | ⟨n, kd, ex, rfl, wn, xk, xe, e⟩ | ⟨j, c, as, bs, r1, e, rfl, xc, ra, rb⟩
    · rw [deed_fail]
      exact ⟨o, by show st.t.length + r' ≤ _; omega, by show st.ss.length + r' ≤ _; omega⟩
    · rw [deed_set1]
      have bd := ev_in (key := key) o.t b0 b1 xe
      have tl := tput_len st.t (n, key) (evE st.t key body 6 ex)
      exact ⟨⟨o.t.put wn wk bd.1 bd.2, o.s⟩, by show (tput st.t (n, key) (evE st.t key body 6 ex)).length + r' ≤ _; omega, by show st.ss.length + r' ≤ _; omega⟩
    · rw [deed_send1]
      have bd := ev_in (key := key) o.t b0 b1 xe
      have wkk : isWord (.str (keyOf key kd)) = true := by
        rcases key_is xk with rfl | ⟨z, rfl⟩
        · exact wk
        · exact xk
      refine ⟨⟨o.t, fun e he => ?_⟩, by show st.t.length + r' ≤ _; omega, ?_⟩
      · rcases List.mem_append.mp he with he | he
        · exact o.s e he
        · rw [List.mem_singleton.mp he]
          exact ⟨wn, wkk, bd.1, bd.2⟩
      · show (st.ss ++ [(n, keyOf key kd, evE st.t key body 6 ex)]).length + r' ≤ _
        rw [List.length_append, List.length_singleton]
        omega
    · cases i with
      | zero => cases e
      | succ i =>
        have e : j = i := by omega
        rw [e] at ra rb
        have l1 := roomAll_le (deedR_le i) ra
        have l2 := roomAll_le (deedR_le i) rb
        rw [deed_if1]
        by_cases c1 : evC st.t key body 6 c = true
        · rw [if_pos c1]
          have y := grow_all (deedR_le i) (grow_d wk b0 b1 i) ra o
          have := y.t
          have := y.s
          exact ⟨y.ok, by omega, by omega⟩
        · rw [if_neg c1]
          have y := grow_all (deedR_le i) (grow_d wk b0 b1 i) rb o
          have := y.t
          have := y.s
          exact ⟨y.ok, by omega, by omega⟩
theorem grow_h {key : Str} {body : Int} {ds : List PyData} {r' : Nat} {L : List (Z × Int)} (wk : isWord (.str key) = true) (b0 : -99 ≤ body) (b1 : body ≤ 99) (h : roomAll (deedR 3) ds 12 = some r') (o : TbOk L) : Grow ⟨L, []⟩ 12 (runAll (deedE key body 3) ds ⟨L, []⟩).2 r' :=
  grow_all (deedR_le 3) (grow_d wk b0 b1 3) h ⟨o, fun e he => by cases he⟩
/-! ### what is told, as data -/
abbrev sndD (e : Str × Str × Int) : PyData := .tuple [.str e.1, .str e.2.1, .int e.2.2]
theorem rp_snds {K : PySem.W.Frag} {H : Hp} : ∀ {L : List (Str × Str × Int)} {ts : List Addr}, Paired (SndT H) L ts → RpAll K H (ts.map V.ref) (L.map sndD)
  | _, _, .nil => .nil
  | _, _, .cons x r => .cons (.tup (SqT.of x) (.cons (.str _) (.cons (.str _) (.cons (.int _) .nil)))) (rp_snds r)
def resD (x : Bool × Sta) (zs : List Z) : PyData := if x.1 = true then .tuple [.str "done", rowsD (rowsOf x.2.t zs), .tuple (x.2.ss.map sndD)] else .tuple [.str "failed"]
theorem sml_snds : ∀ {L : List (Str × Str × Int)}, (∀ e ∈ L, isWord (.str e.1) = true ∧ isWord (.str e.2.1) = true ∧ -99 ≤ e.2.2 ∧ e.2.2 ≤ 99) → SmlAll (L.length * 20) (L.map sndD)
  | [], _ => SmlAll.nil
  | e :: L, h => by
    obtain ⟨w1, w2, v0, v1⟩ := h e List.mem_cons_self
    have t := sml_snds (L := L) fun x hx => h x (List.mem_cons_of_mem _ hx)
    exact (SmlAll.cons (Sml.tup (.cons (.word w1) (.cons (.word w2) (.cons (.int v0 v1) .nil)))) t).mono (by rw [List.length_cons]; omega)
theorem dp_rows : ∀ L : List (Z × Int), PyData.depthAll (L.map rowD) ≤ 2
  | [] => Nat.zero_le _
  | e :: L => Nat.max_le.mpr ⟨by show max (max 0 (max 0 0) + 1) (max 0 0) + 1 ≤ 2; decide, dp_rows L⟩
theorem dp_snds : ∀ L : List (Str × Str × Int), PyData.depthAll (L.map sndD) ≤ 1
  | [] => Nat.zero_le _
  | e :: L => Nat.max_le.mpr ⟨by show max 0 (max 0 (max 0 0)) + 1 ≤ 1; decide, dp_snds L⟩
/-- what a run tells, as data, the keys sorted: short -/
theorem res_fine {x : Bool × Sta} {zs : List Z} (ok : StOk x.2) (srt : Srt (x.2.t.map (·.1)) zs) (l1 : x.2.t.length ≤ 900) (l2 : x.2.ss.length ≤ 100) : Sml 20000 (resD x zs) ∧ (resD x zs).depth ≤ 4 := by
  unfold resD
  split
  · have ro := rows_ok ok.t srt
    have rl := rowsOf_len x.2.t zs
    have zl := srt.perm.length_eq
    rw [List.length_map] at zl
    have s1 := sml_rows ro.ok
    have s2 := sml_snds ok.s
    refine ⟨(Sml.tup (.cons (Sml.str (n := 4) (by decide +kernel) (by decide +kernel)) (.cons (.tup s1) (.cons (.tup s2) .nil)))).mono (by omega), ?_⟩
    have d1 := dp_rows (rowsOf x.2.t zs)
    have d2 := dp_snds x.2.ss
    show max 0 (max (PyData.depthAll ((rowsOf x.2.t zs).map rowD) + 1) (max (PyData.depthAll (x.2.ss.map sndD) + 1) 0)) + 1 ≤ 4
    omega
  · exact ⟨(Sml.tup (.cons (Sml.str (n := 6) (by decide +kernel) (by decide +kernel)) .nil)).mono (by omega), by show max 0 0 + 1 ≤ 4; decide⟩
/-- the data at what a run tells -/
theorem RunAt.rp {K : PySem.W.Frag} {H : Hp} {res : Addr} {x : Bool × Sta} {zs : List Z} (a : RunAt H res x) (srt : Srt (x.2.t.map (·.1)) zs) : Rp K H (.ref res) (resD x zs) := by
  unfold resD
  cases a with
  | failed h e =>
    rw [if_neg (by rw [h]; decide)]
    exact .tup (SqT.of e) (.cons (.str _) .nil)
  | done zs2 ra sa ts h s e r tf ps =>
    rw [if_pos h, srt.one s]
    exact .tup (SqT.of e) (.cons (.str _) (.cons (rp_rows r) (.cons (.tup tf.sq (rp_snds ps)) .nil)))
end Hd

set_option Elab.async false
set_option linter.all false
set_option maxRecDepth 100000
set_option maxHeartbeats 4000000
namespace Hd
open PySem L2 Pen RG Dat KEq
/-- xs == [] -/
def rEqNil (K : PySem.W.Frag) : R2 := fun x y G Want => ∃ (a b : Addr) (xs : List V), x = .ref a ∧ y = .ref b ∧ SqL K G a xs ∧ SqL K G b [] ∧ Want (.bl xs.isEmpty) G
theorem op_eqNil {X : Cx} (hu : X.A.units + 1 < cLine) : OpR X (compareOp .Eq) (rEqNil X.K) := by
  intro pins st σ G x y v u Want I rx ry h
  obtain ⟨a, b, xs, rfl, rfl, ha, hb, q⟩ := h
  cases rx
  cases ry
  obtain ⟨its, r1, p1, _⟩ := I.list ha
  obtain ⟨jts, r2, p2, _⟩ := I.list hb
  have e2 : jts = [] := by cases r2; rfl
  subst e2
  cases r1 with
  | nil => exact SeqAt.eq_listAt (e := fun _ => true) p1.isList p2.isList rfl (Nat.lt_of_succ_lt hu) (fun j h1 h2 => absurd h1 (Nat.not_lt_zero _)) ⟨.bl true, G, I, rfl, q⟩
  | cons c t => exact SeqAt.eq_list_lengthsAt p1.isList p2.isList (by simp) (Nat.lt_of_succ_lt hu) ⟨.bl false, G, I, rfl, q⟩
/-- d in a list of texts -/
def rInSL (K : PySem.W.Frag) : R2 := fun x y G Want => ∃ (d : PyData) (p : Addr) (zs : List Str), Rp K G x d ∧ y = .ref p ∧ SqL K G p (zs.map V.str) ∧ Want (.bl (zs.any fun z => isS d z)) G
def vS (d : PyData) : Value → Bool
  | .str z _ => isS d z
  | _ => false
theorem any_vS {d : PyData} : ∀ {zs : List Str} {us : List Value}, Vals (zs.map V.str) us → us.any (vS d) = zs.any fun z => isS d z
  | [], _, .nil => rfl
  | z :: zs, _, .cons r t => by
    obtain ⟨k, rfl⟩ := r
    rw [List.any_cons, List.any_cons, any_vS t]
    rfl
theorem op_inSL {X : Cx} (hu : X.A.units + 1 < cLine) : OpR X (compareOp .In) (rInSL X.K) := by
  intro pins st σ G x y v u Want I rx ry h
  obtain ⟨d, p, zs, r, rfl, hq, q⟩ := h
  cases ry
  obtain ⟨its, rl, pl, hz⟩ := I.list hq
  refine SeqAt.in_listAt (vS d) pl.isList (fun w hw => ?_) ⟨.bl _, G, I, rfl, ?_⟩
  · obtain ⟨z, t, rfl⟩ := texts_are rl w (by simpa using hw)
    exact rp_at (A := X.A.in1) (show X.A.units + 1 < cLine from hu) I r rx z t
  · rw [show its.toArray.any (vS d) = its.any (vS d) by simp, any_vS rl]
    exact q
def rNSign : R2 := fun x y H Q => ∃ (c : Nat) (z : Str), x = .str ⟨#[c]⟩ ∧ y = .str z ∧ Q (.bl (!decide (c ∈ z.cps.toList))) H
theorem filt_all {p : Nat → Bool} {f : Nat → V} : ∀ l : List Nat, ((l.filter fun c => !p c).map f).isEmpty = l.all p
  | [] => rfl
  | c :: l => by
    have ih := filt_all (p := p) (f := f) l
    rw [List.filter_cons, List.all_cons]
    cases e : p c with
    | true =>
      rw [if_neg (by simp), ih]
      rfl
    | false =>
      rw [if_pos (by simp)]
      rfl
def hasHead (d : PyData) (zs : List Str) (n : Nat) : Bool := match d with
  | .tuple (h :: tl) => decide (tl.length + 1 = n) && zs.any fun z => isS h z
  | _ => false
def spLH (K : PySem.W.Frag) : Sp := fun vs H Q _ => ∃ (v : V) (d : PyData) (l : Addr) (zs : List Str) (n : Nat), vs = [v, .ref l, .int n] ∧ 1 ≤ n ∧ Rp K H v d ∧ H l = some (.lst (zs.map V.str)) ∧ Q (.bl (hasHead d zs n)) H
theorem isS_inj {h : PyData} {a b : Str} (x : isS h a = true) (y : isS h b = true) : a = b := by
  cases h with
  | str z => exact (eq_of_beq x).symm.trans (eq_of_beq y)
  | _ => cases x
theorem isS_ne {h : PyData} {a b : Str} (x : isS h a = true) (n : a ≠ b) : isS h b = false := by
  cases e : isS h b with
  | false => rfl
  | true => exact absurd (isS_inj x e) n
theorem isS_str {h : PyData} {a : Str} (x : isS h a = true) : isStr h = true := by
  cases h with
  | str z => rfl
  | _ => cases x
theorem no_str {h : PyData} (x : ¬ isStr h = true) (zs : List Str) : (zs.any fun z => isS h z) = false := by
  rw [List.any_eq_false]
  intro z _
  intro y
  exact x (isS_str y)
section
variable {P : Program} {w : World} {K : PySem.W.Frag} {mg : Str → Option Value} {base : Heap}
end
end Hd

set_option Elab.async false
set_option linter.all false
set_option maxRecDepth 100000
set_option maxHeartbeats 4000000
namespace Hd
open PySem L2 Pen RG Dat KEq
theorem hh_len {h : PyData} {tl : List PyData} {zs : List Str} {n : Nat} (x : hasHead (.tuple (h :: tl)) zs n = true) : tl.length + 1 = n ∧ (zs.any fun z => isS h z) = true := by
  have y : (decide (tl.length + 1 = n) && zs.any fun z => isS h z) = true := x
  rw [Bool.and_eq_true, decide_eq_true_eq] at y
  exact y
theorem hh_not {h : PyData} {tl : List PyData} {zs : List Str} {n : Nat} (x : ¬ hasHead (.tuple (h :: tl)) zs n = true) (y : (zs.any fun z => isS h z) = true) : tl.length + 1 ≠ n := by
  intro e
  apply x
  show (decide (tl.length + 1 = n) && zs.any fun z => isS h z) = true
  rw [decide_eq_true e, y]
  rfl
theorem hh_tup {d : PyData} {zs : List Str} {n : Nat} (x : hasHead d zs n = true) : ∃ h tl, d = .tuple (h :: tl) := by
  cases d with
  | tuple ds =>
    cases ds with
    | nil => cases x
    | cons h tl => exact ⟨h, tl, rfl⟩
  | _ => cases x
theorem any1 {h : PyData} {z : Str} : (([z] : List Str).any fun z => isS h z) = isS h z := by simp
theorem ops_any {h : PyData} {b : Str} : ∀ {zs : List Str}, (zs.any fun z => isS h z) = true → (∀ z ∈ zs, z ≠ b) → isS h b = false
  | [], x, _ => by cases x
  | z :: zs, x, n => by
    rw [List.any_cons, Bool.or_eq_true] at x
    rcases x with x | x
    · exact isS_ne x (n z (List.mem_cons_self ..))
    · exact ops_any x fun y hy => n y (List.mem_cons_of_mem _ hy)
theorem e_v {n : Nat} {h a : PyData} (x : isS h tV = true) : isE (n + 1) (.tuple [h, a]) = isVal a := by
  unfold isE
  rw [if_pos x]
theorem e_r {n : Nat} {h a : PyData} (x : isS h tR = true) : isE (n + 1) (.tuple [h, a]) = isWord a := by
  unfold isE
  rw [if_neg (by rw [isS_ne x (by decide)]; decide), if_neg (by rw [isS_ne x (by decide)]; decide), if_pos x]
theorem e_o {n : Nat} {h a b : PyData} (x : (ops.any fun z => isS h z) = true) : isE (n + 1) (.tuple [h, a, b]) = (isE n a && isE n b) := by
  rw [isE]
  rw [if_neg (by rw [ops_any x (by decide)]; decide), if_neg (by rw [ops_any x (by decide)]; decide), if_neg (by rw [ops_any x (by decide)]; decide), if_pos x]
theorem e_b {n : Nat} {h : PyData} {tl : List PyData} (x : ¬ hasHead (.tuple (h :: tl)) [tV] 2 = true) (y : ¬ hasHead (.tuple (h :: tl)) [tR] 2 = true) (z : ¬ hasHead (.tuple (h :: tl)) ops 3 = true) : isE (n + 1) (.tuple (h :: tl)) = hasHead (.tuple (h :: tl)) [tB'] 1 := by
  show _ = (decide (tl.length + 1 = 1) && ([tB'] : List Str).any fun z => isS h z)
  rw [any1]
  unfold isE
  by_cases a1 : isS h tV = true
  · have l := hh_not x (by rw [any1]; exact a1)
    rw [if_pos a1, isS_ne a1 (by decide), Bool.and_false]
    rcases tl with _ | ⟨p, _ | ⟨q, t⟩⟩
    · rfl
    · exact absurd rfl l
    · rfl
  rw [if_neg a1]
  by_cases a2 : isS h tB' = true
  · rw [if_pos a2, a2, Bool.and_true]
    cases tl with
    | nil => rfl
    | cons p t => exact (decide_eq_false (by simp)).symm
  rw [if_neg a2, Bool.eq_false_iff.mpr a2, Bool.and_false]
  by_cases a3 : isS h tR = true
  · have l := hh_not y (by rw [any1]; exact a3)
    rw [if_pos a3]
    rcases tl with _ | ⟨p, _ | ⟨q, t⟩⟩
    · rfl
    · exact absurd rfl l
    · rfl
  rw [if_neg a3]
  by_cases a4 : (ops.any fun z => isS h z) = true
  · have l := hh_not z a4
    rw [if_pos a4]
    rcases tl with _ | ⟨p, _ | ⟨q, _ | ⟨r, t⟩⟩⟩
    · rfl
    · rfl
    · exact absurd rfl l
    · rfl
  · rw [if_neg a4]
theorem c_l {n : Nat} {h a b : PyData} (x : ((["<", "="] : List Str).any fun z => isS h z) = true) : isC (n + 1) (.tuple [h, a, b]) = (isE 6 a && isE 6 b) := by
  rw [isC, if_pos x]
theorem c_a {n : Nat} {h a b : PyData} (x : ((["and", "or"] : List Str).any fun z => isS h z) = true) : isC (n + 1) (.tuple [h, a, b]) = (isC n a && isC n b) := by
  rw [isC]
  rw [if_neg (by simp only [List.any_cons, List.any_nil, ops_any x (b := "<") (by decide), ops_any x (b := "=") (by decide)]; decide), if_neg (by rw [ops_any x (by decide)]; decide), if_pos x]
theorem c_n {n : Nat} {h a : PyData} (x : isS h "not" = true) : isC (n + 1) (.tuple [h, a]) = isC n a := by
  rw [isC]
  rw [if_neg (by simp only [List.any_cons, List.any_nil, isS_ne x (b := "<") (by decide), isS_ne x (b := "=") (by decide)]; decide), if_pos x]
theorem c_o {n : Nat} {d : PyData} (x : ¬ hasHead d ["<", "="] 3 = true) (y : ¬ hasHead d ["and", "or"] 3 = true) (z : ¬ hasHead d ["not"] 2 = true) : isC (n + 1) d = false := by
  cases d with
  | tuple ds =>
    cases ds with
    | nil => rfl
    | cons h tl =>
      unfold isC
      by_cases a1 : ((["<", "="] : List Str).any fun z => isS h z) = true
      · have l := hh_not x a1
        rw [if_pos a1]
        rcases tl with _ | ⟨p, _ | ⟨q, _ | ⟨r, t⟩⟩⟩
        · rfl
        · rfl
        · exact absurd rfl l
        · rfl
      rw [if_neg a1]
      by_cases a2 : isS h "not" = true
      · have l := hh_not z (by rw [any1]; exact a2)
        rw [if_pos a2]
        rcases tl with _ | ⟨p, _ | ⟨q, t⟩⟩
        · rfl
        · exact absurd rfl l
        · rfl
      rw [if_neg a2]
      by_cases a3 : ((["and", "or"] : List Str).any fun z => isS h z) = true
      · have l := hh_not y a3
        rw [if_pos a3]
        rcases tl with _ | ⟨p, _ | ⟨q, _ | ⟨r, t⟩⟩⟩
        · rfl
        · rfl
        · exact absurd rfl l
        · rfl
      · rw [if_neg a3]
  | _ => rfl
section
variable {P : Program} {w : World} {K : PySem.W.Frag} {mg : Str → Option Value} {base : Heap}
end
end Hd

set_option Elab.async false
set_option linter.all false
set_option maxRecDepth 100000
set_option maxHeartbeats 4000000
namespace Hd
open PySem L2 Pen RG Dat KEq
def areB (f : PyData → Bool) : PyData → Bool
  | .tuple ds => ds.all f
  | _ => false
def deedB : Nat → PyData → Bool
  | 0, d => isOne d
  | i + 1, d => isOne d || (match d with
    | .tuple [h, c, a, b] => isS h "if" && (isC 6 c && (areB (deedB i) a && areB (deedB i) b))
    | _ => false)
def manyAll (f : PyData → Nat) : PyData → Nat
  | .tuple ds => (ds.map f).sum
  | _ => 0
def manyD : Nat → PyData → Nat
  | 0, _ => 1
  | i + 1, .tuple (h :: c :: a :: b :: _) => if isS h "if" = true then 1 + manyAll (manyD i) a + manyAll (manyD i) b else 1
  | _ + 1, _ => 1
theorem one_head {h : PyData} {tl : List PyData} (x : isOne (.tuple (h :: tl)) = true) : isS h "if" = false := by
  rw [one_cons] at x
  by_cases a : isS h "set" = true
  · exact isS_ne a (by decide)
  rw [if_neg a] at x
  by_cases b : isS h "send" = true
  · exact isS_ne b (by decide)
  rw [if_neg b, Bool.and_eq_true] at x
  exact isS_ne x.1 (by decide)
theorem many_pos : ∀ (i : Nat) (d : PyData), 1 ≤ manyD i d
  | 0, _ => Nat.le_refl _
  | i + 1, d => by
    unfold manyD
    split
    · rename_i e
      cases e
    · split
      · omega
      · omega
    · omega
theorem many_one {i : Nat} {d : PyData} (x : isOne d = true) : manyD i d = 1 := by
  cases i with
  | zero => rfl
  | succ i =>
    cases d with
    | tuple ds =>
      rcases ds with _ | ⟨h, _ | ⟨c, _ | ⟨a, _ | ⟨b, t⟩⟩⟩⟩
      · rfl
      · rfl
      · rfl
      · rfl
      · have n := one_head x
        show (if isS h "if" = true then _ else 1) = 1
        rw [n]
        rfl
    | _ => rfl
/-- what a reading f of deeds tells -/
def Tells (f : PyData → Nat → Option Nat) (b : PyData → Bool) (m : PyData → Nat) : Prop := ∀ d r, f d r = if b d = true ∧ m d ≤ r + 1 then some (r + 1 - m d) else none
theorem all_tells {f : PyData → Nat → Option Nat} {b : PyData → Bool} {m : PyData → Nat} (T : Tells f b m) (pos : ∀ d, 1 ≤ m d) : ∀ (ds : List PyData) (r : Nat), roomAll f ds r = if ds.all b = true ∧ (ds.map m).sum ≤ r then some (r - (ds.map m).sum) else none
  | [], r => by simp [roomAll]
  | d :: ds, 0 => by
    have := pos d
    rw [if_neg (by rintro ⟨_, h⟩; simp at h; omega)]
    rfl
  | d :: ds, r + 1 => by
    show (f d r).bind (roomAll f ds) = _
    rw [T d r]
    by_cases c : b d = true ∧ m d ≤ r + 1
    · rw [if_pos c, Option.bind_some, all_tells T pos ds]
      rw [List.all_cons, c.1, Bool.true_and, List.map_cons, List.sum_cons]
      by_cases e : ds.all b = true ∧ (ds.map m).sum ≤ r + 1 - m d
      · rw [if_pos e, if_pos ⟨e.1, by have := e.2; have := c.2; omega⟩]
        congr 1
        omega
      · rw [if_neg e, if_neg (fun z => e ⟨z.1, by have := z.2; omega⟩)]
    · rw [if_neg c, Option.bind_none, if_neg]
      rintro ⟨z, y⟩
      rw [List.all_cons, Bool.and_eq_true] at z
      rw [List.map_cons, List.sum_cons] at y
      exact c ⟨z.1, by omega⟩
theorem room_tells {f : PyData → Nat → Option Nat} {b : PyData → Bool} {m : PyData → Nat} (T : Tells f b m) (pos : ∀ d, 1 ≤ m d) (d : PyData) (r : Nat) : roomR f d r = if areB b d = true ∧ manyAll m d ≤ r then some (r - manyAll m d) else none := by
  cases d with
  | tuple ds => exact all_tells T pos ds r
  | _ => rfl
theorem deed_tells : ∀ i, Tells (deedR i) (deedB i) (manyD i)
  | 0 => fun d r => by
    show (if isOne d = true then some r else none) = if isOne d = true ∧ 1 ≤ r + 1 then some (r + 1 - 1) else none
    by_cases h : isOne d = true
    · rw [if_pos h, if_pos ⟨h, by omega⟩]
      rfl
    · rw [if_neg h, if_neg (fun z => h z.1)]
  | i + 1 => fun d r => by
    by_cases h : isOne d = true
    · rw [deed_one h, many_one h, if_pos]
      · rfl
      · refine ⟨?_, by omega⟩
        unfold deedB
        rw [h]
        rfl
    · by_cases t : isTof d 4 = true
      · cases d with
        | tuple ds =>
          rcases ds with _ | ⟨x, _ | ⟨c, _ | ⟨a, _ | ⟨b, _ | ⟨g, u⟩⟩⟩⟩⟩
          · cases t
          · cases t
          · cases t
          · cases t
          · rw [deed_four h]
            have B : deedB (i + 1) (.tuple [x, c, a, b]) = (isS x "if" && (isC 6 c && (areB (deedB i) a && areB (deedB i) b))) := by
              show (isOne _ || _) = _
              rw [Bool.eq_false_iff.mpr h, Bool.false_or]
            have M : manyD (i + 1) (.tuple [x, c, a, b]) = if isS x "if" = true then 1 + manyAll (manyD i) a + manyAll (manyD i) b else 1 := rfl
            rw [B, M]
            by_cases e1 : isS x "if" = true
            · rw [if_pos e1, if_pos e1, e1, Bool.true_and]
              by_cases e2 : isC 6 c = true
              · rw [if_pos e2, e2, Bool.true_and]
                rw [room_tells (deed_tells i) (many_pos i) a r]
                by_cases e3 : areB (deedB i) a = true ∧ manyAll (manyD i) a ≤ r
                · rw [if_pos e3, Option.bind_some, room_tells (deed_tells i) (many_pos i) b, e3.1, Bool.true_and]
                  by_cases e4 : areB (deedB i) b = true ∧ manyAll (manyD i) b ≤ r - manyAll (manyD i) a
                  · rw [if_pos e4, if_pos ⟨e4.1, by have := e4.2; have := e3.2; omega⟩]
                    congr 1
                    omega
                  · rw [if_neg e4, if_neg (fun z => e4 ⟨z.1, by have := z.2; omega⟩)]
                · rw [if_neg e3, Option.bind_none, if_neg]
                  rintro ⟨z, y⟩
                  rw [Bool.and_eq_true] at z
                  exact e3 ⟨z.1, by omega⟩
              · rw [if_neg e2, Bool.eq_false_iff.mpr e2, Bool.false_and, if_neg]
                rintro ⟨z, _⟩
                cases z
            · rw [if_neg e1, Bool.eq_false_iff.mpr e1, Bool.false_and, if_neg]
              rintro ⟨z, _⟩
              cases z
          · have : decide (((x :: c :: a :: b :: g :: u).length : Int) = 4) = true := t
            have := of_decide_eq_true this
            simp at this
            omega
        | _ => cases t
      · have B : deedB (i + 1) d = false := by
          unfold deedB
          rw [Bool.eq_false_iff.mpr h, Bool.false_or]
          cases d with
          | tuple ds =>
            rcases ds with _ | ⟨x, _ | ⟨c, _ | ⟨a, _ | ⟨b, _ | ⟨g, u⟩⟩⟩⟩⟩
            · rfl
            · rfl
            · rfl
            · rfl
            · exact absurd rfl t
            · rfl
          | _ => rfl
        rw [deed_ne h (Bool.eq_false_iff.mpr t), B, if_neg]
        rintro ⟨z, _⟩
        cases z
/-- both looks tell the same -/
theorem looks_agree (d : PyData) : (areB (deedB 3) d && decide (manyAll (manyD 3) d < 13)) = hOk d := by
  unfold hOk
  rw [room_tells (deed_tells 3) (many_pos 3) d 12]
  by_cases a : areB (deedB 3) d = true
  · by_cases b : manyAll (manyD 3) d ≤ 12
    · rw [if_pos ⟨a, b⟩, a, decide_eq_true (by omega)]
      rfl
    · rw [if_neg (fun z => b z.2), a, decide_eq_false (by omega)]
      rfl
  · rw [if_neg (fun z => a z.1), Bool.eq_false_iff.mpr a]
    rfl
end Hd

set_option Elab.async false
set_option linter.all false
set_option maxRecDepth 100000
set_option maxHeartbeats 4000000
namespace Hd
open PySem L2 Pen RG Dat KEq
def spLD (K : PySem.W.Frag) (m : Nat) : Sp := fun vs H Q _ => ∃ (v : V) (d : PyData) (i : Nat), vs = [v, .int i] ∧ i < m ∧ Rp K H v d ∧ sm d = true ∧ ∀ H', Same H H' → Q (.bl (deedB i d)) H'
def spLA (K : PySem.W.Frag) (m : Nat) : Sp := fun vs H Q _ => ∃ (v : V) (d : PyData) (i : Nat), vs = [v, .int i] ∧ i < m ∧ Rp K H v d ∧ sm d = true ∧ ∀ H', Same H H' → Q (.bl (areB (deedB i) d)) H'
def spLM (K : PySem.W.Frag) (m : Nat) : Sp := fun vs H Q _ => ∃ (v : V) (d : PyData) (i : Nat), vs = [v] ∧ i < m ∧ Rp K H v d ∧ sm d = true ∧ areB (deedB i) d = true ∧ ∀ H', Same H H' → Q (.int (manyAll (manyD i) d : Nat)) H'
theorem deed_set {i : Nat} {h a b : PyData} (x : isS h "set" = true) : deedB i (.tuple [h, a, b]) = (isWord a && isE 6 b) := by
  have e : isOne (.tuple [h, a, b]) = (isWord a && isE 6 b) := by rw [one_cons, if_pos x]
  cases i with
  | zero => exact e
  | succ i =>
    show (isOne _ || false) = _
    rw [Bool.or_false]
    exact e
theorem deed_send {i : Nat} {h a b c : PyData} (x : isS h "send" = true) : deedB i (.tuple [h, a, b, c]) = (isWord a && (isKey b && isE 6 c)) := by
  have e : isOne (.tuple [h, a, b, c]) = (isWord a && (isKey b && isE 6 c)) := by rw [one_cons, if_neg (by rw [isS_ne x (by decide)]; decide), if_pos x]
  cases i with
  | zero => exact e
  | succ i =>
    show (isOne _ || (isS h "if" && _)) = _
    rw [isS_ne x (by decide), Bool.false_and, Bool.or_false]
    exact e
theorem deed_if {i : Nat} {h c a b : PyData} (x : isS h "if" = true) : deedB (i + 1) (.tuple [h, c, a, b]) = (isC 6 c && (areB (deedB i) a && areB (deedB i) b)) := by
  show (isOne _ || (isS h "if" && (isC 6 c && (areB (deedB i) a && areB (deedB i) b)))) = _
  have e : isOne (.tuple [h, c, a, b]) = false := by
    rw [one_cons, if_neg (by rw [isS_ne x (by decide)]; decide), if_neg (by rw [isS_ne x (by decide)]; decide), isS_ne x (by decide), Bool.false_and]
  rw [e, x, Bool.false_or, Bool.true_and]
theorem deed_if0 {h c a b : PyData} (x : isS h "if" = true) : deedB 0 (.tuple [h, c, a, b]) = false := by
  show isOne _ = _
  rw [one_cons, if_neg (by rw [isS_ne x (by decide)]; decide), if_neg (by rw [isS_ne x (by decide)]; decide), isS_ne x (by decide), Bool.false_and]
theorem deed_else {i : Nat} {d : PyData} (x : ¬ hasHead d ["set"] 3 = true) (y : ¬ hasHead d ["send"] 4 = true) (z : ¬ hasHead d ["if"] 4 = true) : deedB i d = hasHead d ["fail"] 1 := by
  have two : isOne d = hasHead d ["fail"] 1 := by
    cases d with
    | tuple ds =>
      cases ds with
      | nil => rfl
      | cons h tl =>
        show _ = (decide (tl.length + 1 = 1) && ([Str.ofString "fail"] : List Str).any fun z => isS h z)
        rw [any1]
        by_cases a1 : isS h "set" = true
        · rw [one_set_ne a1 (fun l => hh_not x (by rw [any1]; exact a1) (by omega)), isS_ne a1 (by decide), Bool.and_false]
        by_cases a2 : isS h "send" = true
        · rw [one_send_ne a1 a2 (fun l => hh_not y (by rw [any1]; exact a2) (by omega)), isS_ne a2 (by decide), Bool.and_false]
        rw [one_cons, if_neg a1, if_neg a2]
        cases tl with
        | nil => simp
        | cons p t => simp
    | _ => rfl
  cases i with
  | zero => exact two
  | succ i =>
    rw [← two]
    unfold deedB
    cases d with
    | tuple ds =>
      rcases ds with _ | ⟨h, _ | ⟨c, _ | ⟨a, _ | ⟨b, _ | ⟨g, u⟩⟩⟩⟩⟩
      · exact Bool.or_false _
      · exact Bool.or_false _
      · exact Bool.or_false _
      · exact Bool.or_false _
      · have n : isS h "if" = false := by
          cases e : isS h "if" with
          | false => rfl
          | true =>
            refine absurd ?_ z
            show (decide ([c, a, b].length + 1 = 4) && ([Str.ofString "if"] : List Str).any fun z => isS h z) = true
            rw [any1, e]
            rfl
        show (isOne _ || (isS h "if" && _)) = _
        rw [n, Bool.false_and, Bool.or_false]
      · exact Bool.or_false _
    | _ => exact Bool.or_false _
theorem key_or {d : PyData} (n : ¬ d = .none) : isKey d = isWord d := by
  cases d with
  | none => exact absurd rfl n
  | _ => rfl
section
variable {P : Program} {w : World} {K : PySem.W.Frag} {mg : Str → Option Value} {base : Heap}
end
end Hd

set_option Elab.async false
set_option linter.all false
set_option maxRecDepth 100000
set_option maxHeartbeats 4000000
namespace Hd
open PySem L2 Pen RG Dat KEq
theorem allB_get : ∀ {ds : List PyData} {f : PyData → Bool} {i : Nat} {d : PyData}, ds.all f = true → ds[i]? = some d → f d = true
  | ds, f, i, d, x, h => List.all_eq_true.mp x d (List.mem_of_getElem? h)
theorem szl' {n : Nat} (h : n ≤ 1000) : n < sizeLine := Nat.lt_of_le_of_lt h (by decide)
theorem sum_cast {f : PyData → Nat} : ∀ ds : List PyData, (ds.map fun d => ((f d : Nat) : Int)).sum = (((ds.map f).sum : Nat) : Int)
  | [] => rfl
  | d :: ds => by
    rw [List.map_cons, List.sum_cons, List.map_cons, List.sum_cons, sum_cast ds]
    omega
theorem if_shape {i : Nat} {h : PyData} {tl : List PyData} (x : deedB i (.tuple (h :: tl)) = true) (y : isS h "if" = true) : ∃ j c a b, i = j + 1 ∧ tl = [c, a, b] ∧ areB (deedB j) a = true ∧ areB (deedB j) b = true := by
  have n : isOne (.tuple (h :: tl)) = false := by
    rw [one_cons, if_neg (by rw [isS_ne y (by decide)]; decide), if_neg (by rw [isS_ne y (by decide)]; decide), isS_ne y (by decide), Bool.false_and]
  cases i with
  | zero => exact absurd (show isOne (.tuple (h :: tl)) = true from x) (by rw [n]; decide)
  | succ j =>
    rcases tl with _ | ⟨c, _ | ⟨a, _ | ⟨b, _ | ⟨g, u⟩⟩⟩⟩
    · exact absurd (show (isOne _ || false) = true from x) (by rw [n]; decide)
    · exact absurd (show (isOne _ || false) = true from x) (by rw [n]; decide)
    · exact absurd (show (isOne _ || false) = true from x) (by rw [n]; decide)
    · rw [deed_if y, Bool.and_eq_true, Bool.and_eq_true] at x
      exact ⟨j, c, a, b, rfl, rfl, x.2.1, x.2.2⟩
    · exact absurd (show (isOne _ || false) = true from x) (by rw [n]; decide)
theorem deed_shape {i : Nat} {d : PyData} (x : deedB i d = true) : ∃ h tl, d = .tuple (h :: tl) := by
  cases d with
  | tuple ds =>
    cases ds with
    | nil =>
      cases i with
      | zero => cases x
      | succ i => cases x
    | cons h tl => exact ⟨h, tl, rfl⟩
  | _ =>
    cases i with
    | zero => cases x
    | succ i => cases x
theorem many_short {i : Nat} {h : PyData} {tl : List PyData} (y : ¬ isS h "if" = true) : manyD i (.tuple (h :: tl)) = 1 := by
  cases i with
  | zero => rfl
  | succ i =>
    rcases tl with _ | ⟨c, _ | ⟨a, _ | ⟨b, u⟩⟩⟩
    · rfl
    · rfl
    · rfl
    · show (if isS h "if" = true then _ else 1) = 1
      rw [if_neg y]
section
variable {P : Program} {w : World} {K : PySem.W.Frag} {mg : Str → Option Value} {base : Heap}
end
end Hd

set_option Elab.async false
set_option linter.all false
set_option maxRecDepth 100000
set_option maxHeartbeats 4000000
/-! sets of texts: set(list of texts), sorted(such a set) -/
namespace TxS
open PySem PySem.Spec PyProof.Rows L2
/-- an entry's text -/
def txt (e : Int × Value) : Str := match e.2 with
  | .str x _ => x
  | _ => Str.empty
def Fine (w : World) (e : Int × Value) : Prop := ∃ x t, e.2 = Value.str x t ∧ e.1 = hashStr w x
/-- the set of the texts zs, each once, at a -/
def TSet (w : World) (h : Heap) (a : Addr) (zs : List Str) : Prop :=
  ∃ ob rows ep tb, h.get? a = some ob ∧ ob.ExactSet ∧ ob.data = .set rows ep tb ∧ (∀ e ∈ rows.toList, Fine w e) ∧ (rows.toList.map txt).Perm zs ∧ zs.Nodup ∧
    rows.size < scanBound ∧ tb.fits rows.size = true ∧ Ris tb.place.toList ∧ (w.params.followText "set-order" = true ∨ tb.led = true)
section
variable {P : Program} {w : World} {A : Around} {E : Value → Shared → Prop} {s : Shared} {a : Addr} {zs : List Str} {h h' : Heap}
theorem TSet.moved (R : TSet w h a zs) (k : ∀ o, h.get? a = some o → h'.get? a = some o) : TSet w h' a zs := by
  obtain ⟨ob, rows, ep, tb, hob, r⟩ := R
  exact ⟨ob, rows, ep, tb, k ob hob, r⟩
theorem fine_elems {l : List (Int × Value)} (g : ∀ e ∈ l, Fine w e) : ElemsOf (PySem.strKind P w) l := fun e he => by
  obtain ⟨x, t, e2, e1⟩ := g e he
  exact ⟨⟨x, by rw [e2]; exact strKind_is P w x t, e1⟩, by rw [e2]; rfl⟩
theorem fine_is {e : Int × Value} (g : Fine w e) (x : Str) : (PySem.strKind P w).is x e.2 = true ↔ txt e = x := by
  obtain ⟨y, t, e2, _⟩ := g
  unfold txt
  rw [e2]
  constructor
  · intro q
    have q2 : Value.isStrOf x (Value.str y t) = true := q
    obtain ⟨u, hu⟩ := Value.isStrOf_shape q2
    injection hu
  · rintro rfl
    exact strKind_is P w _ t
theorem fine_in {l : List (Int × Value)} (g : ∀ e ∈ l, Fine w e) (x : Str) : x ∈ l.map txt ↔ ∃ e ∈ l, (PySem.strKind P w).is x e.2 = true := by
  rw [List.mem_map]
  exact ⟨fun ⟨e, he, q⟩ => ⟨e, he, (fine_is (g e he) x).2 q⟩, fun ⟨e, he, q⟩ => ⟨e, he, (fine_is (g e he) x).1 q⟩⟩
theorem put_at {ob : Obj} {rows rows' : Array (Int × Value)} {ep : Nat} {tb tb' : SetTable} (ho : h.get? a = some ob) (hd : ob.data = .set rows ep tb) :
    (h.update a (Obj.putSet rows' tb')).get? a = some { ob with data := .set rows' (ep + 1) tb' } := L2.store_at ho hd
/-- the end of an add: the new entries are laid, and laid anew where the table is full -/
theorem add_end {g : Bool → Sem Unit} (hg : ∀ (b : Bool) (s₁ : Shared) (Q' : Unit → Shared → Prop), Q' () s₁ → wpAny (model P w) A (g b) Q' E s₁)
    {ob : Obj} {rows : Array (Int × Value)} {ep : Nat} {tb : SetTable} (ho : s.heap.get? a = some ob) (hx : ob.ExactSet) (hd : ob.data = .set rows ep tb)
    {rs : Array (Int × Value)} {t2 : SetTable} (fi : ∀ e ∈ rs.toList, Fine w e) (pm : (rs.toList.map txt).Perm zs) (nd : zs.Nodup)
    (hb : rs.size < scanBound) (hf : t2.fits rs.size = true) (hr : Ris t2.place.toList) (hl : w.params.followText "set-order" = true ∨ t2.led = true) {wd : Bool} {R : Option Bool → Shared → Prop}
    (hR : ∀ h', Heap.SameBut a s.heap h' → TSet w h' a zs → R (some true) { s with heap := h' }) :
    wpAny (model P w) A (do
        storeSet a rs t2
        if (!wd && t2.tooFull) = true then do
            g (relayAll t2 rs (SetTable.grown rs.size)).2.2
            storeSet a (relayAll t2 rs (SetTable.grown rs.size)).1 (relayAll t2 rs (SetTable.grown rs.size)).2.1
            pure (some true)
          else pure (some true)) R E s := by
  have o1 := put_at (rows' := rs) (tb' := t2) ho hd
  have b1 := Heap.SameBut.update s.heap a (Obj.putSet rs t2)
  refine wpAny_bind (wpAny_storeSet_of ho hd ?_ (fits_of_scanBound hb)); split
  · have p2 := relayAll_perm t2 rs (SetTable.grown rs.size); have f2 := relayAll_fits t2 rs (SetTable.grown rs.size)
    have r2 := relayAll_ris t2 rs (SetTable.grown rs.size); have l2 := relayAll_led t2 rs (SetTable.grown rs.size)
    generalize relayAll t2 rs (SetTable.grown rs.size) = z at p2 f2 r2 l2 ⊢
    obtain ⟨rs2, t3, gv⟩ := z
    dsimp only at p2 f2 r2 l2 ⊢
    have z2 : rs2.size = rs.size := by
      have := p2.length_eq
      rwa [Array.length_toList, Array.length_toList] at this
    have hb2 : rs2.size < scanBound := z2 ▸ hb
    refine wpAny_bind (hg _ _ _ (wpAny_bind (wpAny_storeSet_of o1 rfl ?_ (fits_of_scanBound hb2))))
    have o2 := put_at (rows' := rs2) (tb' := t3) o1 rfl
    refine wpAny_pure (hR _ (b1.trans (Heap.SameBut.update _ a _)) ⟨_, rs2, _, t3, o2, hx, rfl, fun e he => fi e (p2.mem_iff.mp he), (p2.map txt).trans pm, nd, hb2, f2, r2, ?_⟩)
    rcases hl with q | q
    · exact .inl q
    · exact .inr (l2.trans q)
  · exact wpAny_pure (hR _ b1 ⟨_, rs, _, t2, o1, hx, rfl, fi, pm, nd, hb, hf, hr, hl⟩)
/-- one text more -/
def more (zs : List Str) (x : Str) : List Str := if x ∈ zs then zs else x :: zs
theorem add_txt {x : Str} {tk : Tok} {Q : Bool → Shared → Prop} (R : TSet w s.heap a zs) (room : zs.length + 1 < scanBound)
    (hQ : ∀ b h', Heap.SameBut a s.heap h' → TSet w h' a (more zs x) → Q b { s with heap := h' }) :
    wpAny (model P w) A (setAddHashed a (.str x tk) ((PySem.strKind P w).hash x)) Q E s := by
  obtain ⟨ob, rows, ep, tb, ho, hx, hd, fi, pm, nd, hb, hf, hr, hl⟩ := R
  have isx : (PySem.strKind P w).is x (.str x tk) = true := strKind_is P w x tk
  have scx : (Value.str x tk).scannable = true := rfl
  have elx : ElemsOf (PySem.strKind P w) rows.toList := fine_elems fi
  have len : rows.size = zs.length := by
    have := pm.length_eq
    rwa [List.length_map, Array.length_toList] at this
  unfold setAddHashed setAddHashedIn; refine wpAny_holding (wpAny_bind (wpAny_setState_of ho hd hf ?_)); dsimp only
  rw [byScan_of scx hb elx]; simp only [↓reduceIte]
  unfold setAddByScan; refine wpAny_bind (wpAny_bind (wpAny_rule (wpAny_bind (wpAny_setScan_of isx ho hd hf elx ?_))))
  cases hfi : List.findIdx? (fun e => (PySem.strKind P w).is x e.2) rows.toList with
  | some j =>
    dsimp only
    obtain ⟨hj, pj, _⟩ := List.findIdx?_eq_some_iff_getElem.mp hfi
    have inz : x ∈ zs := pm.mem_iff.mp ((fine_in (P := P) fi x).2 ⟨rows.toList[j], List.getElem_mem hj, pj⟩)
    have em : more zs x = zs := if_pos inz
    exact wpAny_pure (wpAny_pure (hQ _ s.heap (Heap.SameBut.refl a s.heap) (by rw [em]; exact ⟨ob, rows, ep, tb, ho, hx, hd, fi, pm, nd, hb, hf, hr, hl⟩)))
  | none =>
    dsimp only
    have notz : x ∉ zs := fun z => by
      obtain ⟨e, he, q⟩ := (fine_in (P := P) fi x).1 (pm.mem_iff.mpr z)
      have c := List.findIdx?_eq_none_iff.mp hfi e he
      rw [q] at c
      cases c
    have em : more zs x = x :: zs := if_neg notz
    have gw : ∀ (b : Bool) {s₁ : Shared} {Q' : Unit → Shared → Prop}, Q' () s₁ → wpAny (model P w) A (match b with | true => rule "set.scan.the-table-gave-way" | false => pure ()) Q' E s₁ :=
      fun b s₁ Q' q => by cases b <;> first | exact wpAny_pure q | exact wpAny_rule q
    have p1 := layNew_perm tb rows ((PySem.strKind P w).hash x) (.str x tk); have f1 := layNew_fits tb rows ((PySem.strKind P w).hash x) (.str x tk)
    have r1 := layNew_ris tb rows ((PySem.strKind P w).hash x) (.str x tk) hr; have l1 := layNew_led tb rows ((PySem.strKind P w).hash x) (.str x tk)
    generalize layNew tb rows ((PySem.strKind P w).hash x) (.str x tk) = z at p1 f1 r1 l1 ⊢
    obtain ⟨rs, t1, wd, gv⟩ := z
    dsimp only at p1 f1 r1 l1 ⊢
    rw [Array.toList_push] at p1
    have pc : rs.toList.Perm (((PySem.strKind P w).hash x, Value.str x tk) :: rows.toList) := p1.trans (List.perm_append_singleton _ _)
    have fi1 : ∀ e ∈ rs.toList, Fine w e := fun e he => (List.mem_cons.mp (pc.mem_iff.mp he)).elim (fun z => by rw [z]; exact ⟨x, tk, rfl, rfl⟩) (fi e)
    have pm1 : (rs.toList.map txt).Perm (more zs x) := by
      rw [em]
      exact (pc.map txt).trans (List.Perm.cons x pm)
    have nd1 : (more zs x).Nodup := by
      rw [em]
      exact List.nodup_cons.mpr ⟨notz, nd⟩
    have len1 : rs.size = zs.length + 1 := by
      have := pc.length_eq
      rw [Array.length_toList, List.length_cons, Array.length_toList] at this
      omega
    have hb1 : rs.size < scanBound := len1 ▸ room
    have led1 : w.params.followText "set-order" = true ∨ t1.led = true := hl.elim .inl fun q => .inr (l1.trans q)
    refine wpAny_bind (gw _ ?_); split
    · refine wpAny_bind ?_; rw [hashByValue_scannable 8 scx]
      refine wpAny_pure (add_end ?_ ho hx hd fi1 pm1 nd1 hb1 ?_ ?_ ?_ ?_)
      · intro b s₁ Q' q; cases b <;> first | exact wpAny_pure q | exact wpAny_rule q
      · first | (split <;> first | exact f1 | exact SetTable.fits_plain_off f1) | exact f1
      · first | (split <;> exact r1) | exact r1
      · first | (split <;> exact led1) | exact led1
      · intro h' sb r; dsimp only; exact wpAny_pure (hQ _ h' sb r)
    · refine wpAny_bind (wpAny_pure ?_); simp only [↓reduceIte]
      refine add_end ?_ ho hx hd fi1 pm1 nd1 hb1 f1 r1 led1 ?_
      · intro b s₁ Q' q; cases b <;> first | exact wpAny_pure q | exact wpAny_rule q
      · intro h' sb r; dsimp only; exact wpAny_pure (hQ _ h' sb r)
/-- the texts of a list, each once -/
def once (xs : List Str) : List Str := xs.foldl more []
theorem more_len (zs : List Str) (x : Str) : (more zs x).length ≤ zs.length + 1 := by
  unfold more
  split
  · omega
  · exact Nat.le_refl _
theorem mem_more {zs : List Str} {x y : Str} : y ∈ more zs x ↔ y ∈ zs ∨ y = x := by
  unfold more
  split
  · rename_i h
    exact ⟨.inl, fun q => q.elim id fun e => e ▸ h⟩
  · rw [List.mem_cons]
    exact Or.comm
theorem more_nodup {zs : List Str} {x : Str} (nd : zs.Nodup) : (more zs x).Nodup := by
  unfold more
  split
  · exact nd
  · rename_i h
    exact List.nodup_cons.mpr ⟨h, nd⟩
theorem fold_len : ∀ (xs zs : List Str), (xs.foldl more zs).length ≤ zs.length + xs.length
  | [], _ => Nat.le_refl _
  | x :: xs, zs => by
    have a := fold_len xs (more zs x)
    have b := more_len zs x
    rw [List.foldl_cons, List.length_cons]
    omega
theorem mem_fold : ∀ (xs zs : List Str) (y : Str), y ∈ xs.foldl more zs ↔ y ∈ zs ∨ y ∈ xs
  | [], zs, y => by simp
  | x :: xs, zs, y => by
    rw [List.foldl_cons, mem_fold xs, mem_more, List.mem_cons, or_assoc]
theorem fold_nodup : ∀ (xs zs : List Str), zs.Nodup → (xs.foldl more zs).Nodup
  | [], _, nd => nd
  | x :: xs, zs, nd => fold_nodup xs _ (more_nodup nd)
theorem once_len (xs : List Str) : (once xs).length ≤ xs.length := Nat.le_trans (fold_len xs []) (by simp)
theorem mem_once {xs : List Str} {y : Str} : y ∈ once xs ↔ y ∈ xs := (mem_fold xs [] y).trans (by simp)
theorem once_nodup (xs : List Str) : (once xs).Nodup := fold_nodup xs [] List.nodup_nil
theorem once_take {xs : List Str} {i : Nat} {x : Str} (h : xs[i]? = some x) : once (xs.take (i + 1)) = more (once (xs.take i)) x := by
  unfold once
  rw [List.take_add_one, h]
  exact List.foldl_append ..
theorem new_at (hc : h.get? a = some { cls := .type "set", dict := none, data := .set #[] 0 (.fresh 0 0 (!w.params.followText "set-order")) }) : TSet w h a [] :=
  ⟨_, #[], 0, _, hc, ⟨rfl, rfl, rfl⟩, rfl, fun e he => by simp at he, .nil, List.nodup_nil, by decide, rfl, List.Pairwise.nil, by
    cases q : w.params.followText "set-order"
    · exact .inr rfl
    · exact .inl rfl⟩
/-- set.update.loop over texts -/
theorem loop_txt {I : Addr} {fp wr : List Addr} {G : Array GenState → Array GenState → Prop} {n : Nat} {Pv : Nat → Value → Prop} {St : Nat → Shared → Prop} {R : Result → Shared → Prop}
    (W : WalksS P w A.in1 I fp wr G n Pv St) (S : Addr) (off : S ∉ fp) (xs : List Str) (len : n = xs.length) (room : xs.length + 1 < scanBound) (val : ∀ i v, Pv i v → ∃ x t, xs[i]? = some x ∧ v = .str x t) :
    ∀ (k i : Nat) (s : Shared), n - i = k → i ≤ n → St i s → TSet w s.heap S (once (xs.take i)) →
      (∀ s', Moved (S :: wr) G s s' → TSet w s'.heap S (once xs) → R (.ok (.ret .none)) s') → codeAny (model P w) A (.builtin "set.update.loop" ⟨[.ref S, .ref I], []⟩) R s := by
  have offw : S ∉ wr := fun q => off (W.sub _ q)
  have sub : ∀ b ∈ wr, b ∈ S :: wr := fun b q => List.mem_cons_of_mem _ q
  intro k
  induction k with
  | zero =>
    intro i s hk hi st T hR
    obtain rfl : i = n := by omega
    have whole : xs.take i = xs := List.take_of_length_le (by omega)
    rw [whole] at T
    refine codeAny_builtin F.entry_set_update_loop ?_; rw [Around.under_plainId F.plain_set_update_loop _]
    show wpAny _ A.in1 (pyNext (.ref I) >>= _) _ _ s; refine wpAny_bind (W.done s _ _ st fun s' mv => ?_)
    show wpAny _ A.in1 (ret Value.none) _ _ s'; exact wpAny_pure (hR s' (mv.mono sub) (T.moved fun o e => mv.heap S o offw e))
  | succ k ih =>
    intro i s hk hi st T hR
    have lt : i < n := by omega
    refine codeAny_builtin F.entry_set_update_loop ?_; rw [Around.under_plainId F.plain_set_update_loop _]
    show wpAny _ A.in1 (pyNext (.ref I) >>= _) _ _ s; refine wpAny_bind (W.item i s _ _ lt st fun v s' pv st' mv => ?_)
    obtain ⟨x, t, ex, rfl⟩ := val i v pv
    have T' : TSet w s'.heap S (once (xs.take i)) := T.moved fun o e => mv.heap S o offw e
    have few : (once (xs.take i)).length + 1 < scanBound := by
      have a1 := once_len (xs.take i)
      have a2 : (xs.take i).length ≤ xs.length := by
        rw [List.length_take]
        omega
      omega
    show wpAny _ A.in1 (holding [Value.str x t] (setAdd S (.str x t)) >>= _) _ _ s'; refine wpAny_bind (wpAny_holding ?_)
    unfold setAdd; refine wpAny_holding (wpAny_bind ((PySem.strKind P w).pyHash (k := x) (strKind_is _ _ _ _) ?_))
    refine add_txt (s := { s' with toks := s'.toks + 1 }) T' few fun b h' same T2 => ?_
    rw [← once_take ex] at T2
    refine wpAny_pure ⟨plainId_quiet F.plain_set_update_loop _, ih (i + 1) _ (by omega) lt (W.frame _ s' _ _ st' (Nat.le_succ _) fun c hc o e => ?_) T2 fun s'' mv2 T3 => hR s'' (Moved.trans W.gtrans ((mv.mono sub).then_heap (Nat.le_succ _) fun c o hc e => ?_) mv2) T3⟩
    · exact (same.2 c fun z => off (z ▸ hc)).trans e
    · exact (same.2 c fun z => hc (z ▸ List.mem_cons_self)).trans e
/-- an empty set's object -/
abbrev blank (w : World) : Obj := { cls := .type "set", dict := none, data := .set #[] 0 (.fresh 0 0 (!w.params.followText "set-order")) }
set_option maxHeartbeats 8000000 in
theorem call_txt {l : Addr} {items : Array Value} (xs : List Str) {Q : Value → Shared → Prop} (calm : A.handled = none) (hl : s.heap.IsList l items) (hit : StrsAre items.toList xs) (room : xs.length + 1 < scanBound)
    (hQ : ∀ (h' : Heap) (tk : Nat), TSet w h' s.heap.objs.size (once xs) → (∀ b o, s.heap.get? b = some o → h'.get? b = some o) → Q (.ref s.heap.objs.size) { s with heap := h', toks := tk }) :
    wpAny (model P w) A (call (.type "set") [.ref l]) Q E s := by
  have lens : items.size = xs.length := by
    have q := StrsAre.len_eq hit
    rwa [Array.length_toList] at q
  obtain ⟨cc, cl, mro⟩ := F.called_set.mro; have made := F.called_set.made; have subs := F.called_set.sub
  refine wpAny_call (codeAny_of_tree ?_); show wpAny _ _ (callAny (.type "set") _) _ _ _
  refine wpAny_pure ⟨Code.quiet_builtin _ (by decide +kernel), codeAny_builtin F.entry_type_call ?_⟩; rw [Around.under_plain (weight_type_call_type "set" [.ref l] []) rfl]
  have n1 := F.called_set.notType; have n2 := F.called_set.canCreate; have n3 := F.typeCall_set_1 (.ref l)
  repeat (any_goals (first | assumption | wp_step))
  refine codeAny_mono (code_set_led1 (.ref l) (E := E) (Q₁ := fun ob s₁ => ob = .ref s.heap.objs.size ∧ s₁ = { s with heap := s.heap.push (blank w) }) ⟨rfl, rfl⟩) fun r s₁ hr => ?_
  cases r with
  | error e => exact hr
  | ok fl =>
    cases fl with
    | ret ob =>
      obtain ⟨rfl, rfl⟩ := hr
      have at_ : (s.heap.push (blank w)).get? s.heap.objs.size = some (blank w) := Heap.get?_push_size _ rfl
      have ty_ : Shared.TypeIs { s with heap := s.heap.push (blank w) } (.ref s.heap.objs.size) "set" := ⟨_, at_, rfl⟩
      have i1 := F.called_set.init.lookup; have i2 := F.called_set.init.bind (.ref s.heap.objs.size)
      repeat (any_goals (first | assumption | wp_step))
      refine codeAny_mono (codeAny_call_builtin (R := wants (fun r s₂ => r = .none ∧ ∃ h' tk, s₂ = { s with heap := h', toks := tk } ∧ TSet w h' s.heap.objs.size (once xs) ∧ (∀ b o, s.heap.get? b = some o → h'.get? b = some o)) E)
        F.called_set.init.plain F.entry_set_init (check_set_init_1 ty_ ?_)) fun r₂ s₂ hr₂ => ?_
      · obtain ⟨lo, lo1, lo2, ln, lo3⟩ := hl
        obtain ⟨lc, ld, ldata, ls⟩ := lo
        simp only at lo2 lo3
        subst lo2; subst lo3
        have lat : (s.heap.push (blank w)).get? l = some { cls := .type "list", dict := ld, data := .seq items ln, slots := ls } := Heap.get?_push_of_some _ lo1
        have m1 := F.sub_list_set; have m2 := F.sub_list_frozenset
        have m3 : (Value.type "list" == Value.type "dict") = false := by decide
        have lis : (s.heap.push (blank w)).IsList l items := ⟨_, lat, rfl, ln, rfl⟩
        unfold Builtin.«set.__init__» noKeywords Builtin.Frozenset.updateFrom; generalize hPI : pyIter = PI
        wp_walk
        subst hPI; refine wpAny_pyIter_list lis (wpAny_bind (wpAny_runValue ?_))
        have llt : l < s.heap.objs.size := Heap.lt_size lo1
        have calm3 : A.in1.in1.in1.handled = none := by simp [calm]
        have big : (s.heap.push (blank w)).objs.size = s.heap.objs.size + 1 := Heap.size_push ..
        have lne : l ≠ (s.heap.push (blank w)).objs.size := by
          rw [big]
          exact Nat.ne_of_lt (Nat.lt_succ_of_lt llt)
        have sne : s.heap.objs.size ∉ [(s.heap.push (blank w)).objs.size, l] := by
          rw [big]
          intro q
          rcases List.mem_cons.mp q with q | q
          · exact absurd q (Nat.ne_of_lt (Nat.lt_succ_self _))
          · exact absurd (List.mem_singleton.mp q) (Nat.ne_of_gt llt)
        refine loop_txt ((Walks.list calm3 _ l lne items).toS) s.heap.objs.size sne xs lens room (fun i v hv => ?_) (items.size - 0) 0 _ (by omega) (Nat.zero_le _) ⟨⟨_, Heap.get?_push_size _ rfl, rfl, rfl⟩, (lis.push _)⟩ ?hS ?hR
        · obtain ⟨t, e⟩ := SS.strs_at hit i v (by rw [Array.getElem?_toList]; exact hv)
          have lt : i < xs.length := lens ▸ (Array.getElem?_eq_some_iff.mp hv).1
          refine ⟨xs[i], t, List.getElem?_eq_getElem lt, ?_⟩
          rw [e, List.getD_eq_getElem?_getD, List.getElem?_eq_getElem lt]
          rfl
        case hS => exact new_at (Heap.get?_push_of_some _ at_)
        case hR =>
          intro s' mv T
          obtain ⟨h', g2, d', tk', os'⟩ := s'
          obtain rfl : g2 = s.gens := mv.gens
          obtain rfl : d' = s.drawn := mv.drawn
          obtain rfl : os' = s.os := mv.os
          show wpAny _ _ _ _ _ _; refine wpAny_pure ?_; show wpAny _ _ (ret Value.none) _ _ _
          refine wpAny_pure ⟨rfl, h', tk', rfl, T, fun b o e => ?_⟩
          have b0 : b < s.heap.objs.size := Heap.lt_size e
          refine mv.heap b o (fun q => ?_) (Heap.get?_push_of_some _ (Heap.get?_push_of_some _ e))
          rcases List.mem_cons.mp q with q | q
          · exact absurd q (Nat.ne_of_lt b0)
          · have := List.mem_singleton.mp q
            rw [big] at this
            exact absurd this (Nat.ne_of_lt (Nat.lt_succ_of_lt b0))
      · cases r₂ with
        | error e => exact hr₂
        | ok fl₂ =>
          cases fl₂ with
          | ret r =>
            obtain ⟨rfl, h', tk, rfl, T, kp⟩ := hr₂
            repeat (any_goals (first | assumption | wp_step))
            exact hQ _ _ T kp
          | _ => exact hr₂.elim
    | _ => exact hr.elim
theorem strs_of : ∀ (l : List (Int × Value)), (∀ e ∈ l, Fine w e) → StrsAre (l.map (·.2)) (l.map txt)
  | [], _ => .nil
  | (_, _) :: l, g => by
    obtain ⟨x, t, rfl, rfl⟩ := g _ List.mem_cons_self
    exact .cons x t (strs_of l fun e he => g e (List.mem_cons_of_mem _ he))
theorem strs_back : ∀ {us : List Value}, (∀ u ∈ us, ∃ x t, u = Value.str x t) → StrsAre us (us.map fun u => txt (0, u))
  | [], _ => .nil
  | u :: us, g => by
    obtain ⟨x, t, rfl⟩ := g _ List.mem_cons_self
    exact .cons x t (strs_back fun v hv => g v (List.mem_cons_of_mem _ hv))
theorem sorted_txt {Q : Value → Shared → Prop} (T : TSet w s.heap a zs) (calm : A.handled = none) (h64 : zs.length < 64)
    (hQ : ∀ s' p (out : Array Value) (c : Nat) (ys : List Str), (∀ b o, s.heap.get? b = some o → s'.heap.get? b = some o) → s'.gens = s.gens → s'.os = s.os → s.heap.objs.size ≤ p →
      s'.heap.get? p = some (seqObj "list" out c) → StrsAre out.toList ys → ys.Perm zs → sortedS ys = true → Q (.ref p) s') :
    wpAny (model P w) A (call (.builtin "sorted") [.ref a]) Q E s := by
  obtain ⟨ob, rows, ep, tb, ho, hx, hd, fi, pm, nd, hb, hf, hr, hl⟩ := T
  have lens : rows.size = zs.length := by
    have := pm.length_eq
    rwa [List.length_map, Array.length_toList] at this
  refine Calls.call_function_entry kind_sorted plain_sorted entry_sorted (args_sorted1 _) ?_; unfold Builtin.«sorted»
  refine wpAny_bind (m := checkCount "sorted" 1 1 _) (wpAny_pure (wpAny_bind (collect_set (A := A.in1) calm ⟨ob, ho, hx.1, hd⟩ hf hb hr hl fun s1 us k1 z1 g1 o1 p1 => ?_)))
  have ul : us.length = zs.length := by
    rw [p1.length_eq, List.length_map, Array.length_toList, lens]
  have S1 : StrsAre us (us.map fun u => txt (0, u)) := strs_back fun u hu => by
    obtain ⟨e, he, q⟩ := List.mem_map.mp (p1.mem_iff.mp hu)
    obtain ⟨x, t, e2, _⟩ := fi e he
    exact ⟨x, t, q ▸ e2⟩
  have pz : (us.map fun u => txt (0, u)).Perm zs := by
    have q := p1.map fun u => txt (0, u)
    rw [List.map_map] at q
    exact q.trans pm
  refine wpAny_bind (wpAny_newList ?_ (by rw [ul, sizeLine_eq]; omega))
  have lo : (s1.heap.push (seqObj "list" us.toArray 0)).get? s1.heap.objs.size = some (seqObj "list" us.toArray 0) := Heap.get?_push_size _ rfl
  refine wpAny_bind (wpAny_holding (wpAny_call_entry slot_list_sort ⟨_, lo, rfl⟩ entry_list_sort (list_sort_treeK strKind_oneLt lo S1.keysOf (fun v₁ v₂ rest e => keyKind_strs (by rw [← e]; exact S1)) (by rw [ul]; exact h64) fun st' a1 a2 => ⟨_, rfl, ?_⟩) (args_list_sort _)))
  obtain ⟨ys, y1, y2, y3⟩ := sorted_out_str S1 a1 a2
  obtain ⟨c, hc⟩ := sortedHeap_at (vs := us) (out := (arrOf st').map (·.2)) lo
  refine wpAny_pure ⟨_, rfl, hQ _ s1.heap.objs.size _ c ys (fun b u e => ?_) g1 o1 z1 hc y1 (y2.trans pz) y3⟩
  have q := k1 b u e
  have lt := Heap.lt_size q
  show (sortedHeap (s1.heap.push (seqObj "list" us.toArray 0)) s1.heap.objs.size us ((arrOf st').map (·.2))).get? b = some u
  rw [sortedHeap_old (Nat.ne_of_lt lt) (by rw [size_push']; exact Nat.lt_succ_of_lt lt)]
  exact Heap.get?_push_of_some _ q
end
/-! ### the rules -/
/-- the set of the texts zs at a -/
def TxO (w : World) (a : Addr) (zs : List Str) : HO := .ext fun h => TSet w h a zs
section
variable {X : Cx}
theorem txO_new {w : World} {P : Program} {H : Hp} {h : Heap} {a : Addr} {zs : List Str} (T : TSet w h a zs) : ObjOk P w H h a (TxO w a zs) := by
  have ⟨o, _, _, _, ho, _⟩ := T
  exact ⟨T, ⟨o, ho⟩, fun h1 h2 p k => TSet.moved p k⟩
theorem txO_get {pins : List (Addr × Obj)} {σ : L2.St} {H : Hp} {s : Shared} {a : Addr} {zs : List Str} (I : Inv X pins σ H s) (ha : H a = some (TxO X.w a zs)) : TSet X.w s.heap a zs := (I.hok a _ ha).1
/-- set(xs), a list of texts -/
def rSetTx (K : PySem.W.Frag) (w : World) : List V → Hp → VK → Prop := fun vs H Q => ∃ (l : Addr) (xs : List Str), vs = [V.ref l] ∧ SqL K H l (xs.map V.str) ∧ xs.length ≤ 4000 ∧ ∀ p, H p = none → Q (.ref p) (upd H p (TxO w p (once xs)))
theorem cr_setTx (hc : X.calm = true) : CallR X (.type "set") (rSetTx X.K X.w) := by
  intro pins s σ H vs us Q I r h
  obtain ⟨l, xs, rfl, hs, room, q⟩ := h
  obtain ⟨its, rv, hl, _⟩ := I.list hs
  rw [Vals.ref1 r]
  refine call_txt xs (I.ok.hd hc) hl.isList (by rw [List.toList_toArray]; exact rv.strs) (by unfold scanBound; omega) fun h' tk T kp => ?_
  exact ⟨.ref _, upd H s.heap.objs.size (TxO X.w s.heap.objs.size (once xs)), I.laid (t' := tk) kp (Nat.le_refl _) (txO_new T), rfl, q _ (I.hok.fresh (Nat.le_refl _))⟩
/-- sorted(such a set) -/
def rSortTx (w : World) : List V → Hp → VK → Prop := fun vs H Q => ∃ (a : Addr) (zs : List Str), vs = [V.ref a] ∧ H a = some (TxO w a zs) ∧ zs.length < 64 ∧ ∀ (ys : List Str) (p : Addr), ys.Perm zs → sortedS ys = true → H p = none → Q (.ref p) (upd H p (.lst (ys.map V.str)))
theorem cr_sortTx (hc : X.calm = true) : CallR X (.builtin "sorted") (rSortTx X.w) := by
  intro pins s σ H vs us Q I r h
  obtain ⟨a, zs, rfl, ha, h64, q⟩ := h
  rw [Vals.ref1 r]
  refine sorted_txt (txO_get I ha) (I.ok.hd hc) h64 fun s' p out c ys kp g o hp hg hs pm so => ?_
  have few : (ys.map V.str).length ≤ sizeLine := by
    rw [List.length_map, pm.length_eq, sizeLine_eq]
    omega
  have fr : H p = none := I.hok.fresh hp
  have J : Inv X pins σ (upd H p (.lst (ys.map V.str))) { s with heap := s'.heap, gens := s'.gens, drawn := s'.drawn, toks := s'.toks } :=
    I.call (ch := []) (Un.laid kp hp fr) (I.hok.laid kp hp ⟨few, out.toList, c, vals_of_strs hs, hg⟩) (by rw [g]; exact I.bare) (fun _ z => nomatch z)
  have e : s' = { s with heap := s'.heap, gens := s'.gens, drawn := s'.drawn, toks := s'.toks } := by
    cases s'; cases s; cases o; rfl
  rw [e]
  exact ⟨.ref p, _, J, rfl, q ys p pm so fr⟩
end
end TxS

set_option Elab.async false
set_option linter.all false
set_option maxRecDepth 100000
set_option maxHeartbeats 8000000
namespace Hd
open PySem L2 Pen RG Dat KEq
abbrev sRn : Stmt := top 23
theorem cut1 {xs : List V} {i : Nat} : cutV xs (some (i : Int)) none = xs.drop i := by
  unfold cutV
  rw [HT.sIx_none, HT.sIx_nat]
  by_cases h : i ≤ xs.length
  · rw [Nat.min_eq_left h]
    exact List.take_of_length_le (by rw [List.length_drop]; exact Nat.le_refl _)
  · rw [Nat.min_eq_right (by omega), List.drop_length, List.drop_eq_nil_of_le (by omega)]
    exact List.take_nil
theorem list3 {α : Type} {τ : List α} (h : τ.length = 3) : ∃ x0 x1 x2, τ = [x0, x1, x2] := by
  match τ, h with
  | [x0, x1, x2], _ => exact ⟨x0, x1, x2, rfl⟩
structure TxtN (mg : Str → Option Value) : Prop where
  isinstance : mg "isinstance" = none
  tuple : mg "tuple" = none
def spRn (K : PySem.W.Frag) (m : Nat) : Sp := fun vs H Q _ => ∃ (v : V) (d : PyData), vs = [v] ∧ Rp K H v d ∧ trOk m d = true ∧ m ≤ 12 ∧ ∀ l H', Same H H' → H l = none → H' l = some (.lst ((rn d).map V.str)) → Q (.ref l) H'
section
variable {P : Program} {w : World} {K : PySem.W.Frag} {mg : Str → Option Value} {base : Heap}
theorem scRn : FnScope ["tree", "names", "part"] ["tree"] (defScope sRn) := ⟨rfl, rfl, rfl, by decide +kernel, rfl, by decide +kernel, by decide +kernel⟩
theorem ok_rn {f : Addr} {fd : FuncData} (F : Fun K "row_names" "row_names" sRn f fd) (T : TxtN mg) (TRn : DefT K mg "row_names" f) (bRn : Binds K fd ["tree"] []) : ∀ m, FnOk P w K mg base CX0 (m + 1) f fd ["tree"] (spRn K m)
  | 0 => by
    refine F.ok scRn (fun vs H Q E h => ?_) (fun cdv A outer s H vs Q E hr h => ?_)
    · obtain ⟨v, d, rfl, _⟩ := h
      rfl
    · obtain ⟨v, d, rfl, _, h0, _⟩ := h
      cases h0
  | m + 1 => by
    have GRn := ok_rn F T TRn bRn m
    refine F.ok scRn (fun vs H Q E h => ?_) (fun cdv A outer s H vs Q E hr h => ?_)
    · obtain ⟨v, d, rfl, _⟩ := h
      rfl
    · obtain ⟨v, d, rfl, rp, ok, m12, k⟩ := h
      refine ⟨_, (pss_cons (ps_if (pt_cmpR op_eq (pe_ix ix_tup (pv 0) pe_int (fun _ _ => rfl)) pe_str (nomark _)) (pss_one (ps_ret (Ab.pe_lstA (pa_cons (pe_ix ix_tup (pv 0) pe_int (fun _ _ => rfl)) pa_nil)))) pss_nil)
      (pss_cons (ps_set (i := 1) scRn.nd rfl (Or.inl rfl) (pe_lst pa_nil))
      (pss_cons (ps_for PassesOwn.never rfl (pi_tup (pe_slice sl_tup (pv 0) (po_some pe_int) po_none)) (pg_name (i := 2) scRn.nd rfl (Or.inl rfl)) (pss_one (ps_if (pt_val (pe_callB call_isi (by rfl) T.isinstance (by decide +kernel) (pa_cons (pv 2) (pa_cons (pe_bltn (v := V.ty "tuple") (by rfl) T.tuple (by decide +kernel) rfl) pa_nil)))) (pss_one (ps_expr (pe_bm PySem.F.plainAttrs_list PySem.F.slot_list_extend PySem.F.type_list_extend mt_extend (pv 1) (pa_cons (pe_call GRn (hr.mono (by omega)) rfl TRn.mg TRn.kp bRn .nil pass0 (pa_cons (pv 2) pa_nil)) pa_nil)))) pss_nil)))
      (pss_one (ps_ret (pv 1)))))), ?_⟩
      cases d with
      | tuple ds =>
        cases ds with
        | nil => cases ok
        | cons hd t =>
          cases hd with
          | str x =>
            cases rp with
            | @tup a xs _ q rr =>
              cases rr with
              | @cons v0 ys _ _ r0 rt =>
                cases r0
                have ok' : (if x = "row" then _ else _) = true := ok
                refine ⟨_, rfl, a, _, 0, _, rfl, rfl, q, atI_nat (j := 0) rfl, rfl, _, rfl, ite2 (fun i1 => ?yes) (fun i1 => ?no)⟩
                case yes =>
                  have ex : x = "row" := V.str.inj (of_decide_eq_true i1)
                  rw [if_pos ex] at ok'
                  match t, ys, rt, ok' with
                  | [.str n], _, .cons (.str _) .nil, _ =>
                    refine ⟨_, rfl, a, _, 1, _, rfl, rfl, q, atI_nat (j := 1) rfl, sz (by simp), fun l H' nl _ s e => k l H' s nl ?_⟩
                    rw [e]
                    show _ = some (HO.lst ((if x = "row" then [n] else rnAll [.str n]).map V.str))
                    rw [if_pos ex]
                    rfl
                case no =>
                  have nx : ¬ x = "row" := fun e => i1 (decide_eq_true (congrArg V.str e))
                  rw [if_neg nx] at ok'
                  obtain ⟨l2, al⟩ := Bool.and_eq_true_iff.mp ok'
                  refine ⟨Nat.zero_le _, fun l nl => ?_⟩
                  have ec : cutV (V.str x :: ys) (some 1) none = ys := cut1 (i := 1)
                  have s1 := same_new (o := .lst []) nl
                  refine ⟨_, rfl, 1, rfl, a, _, rfl, sqT_same s1 q, by rw [show (1 : Int) = ((1 : Nat) : Int) from rfl, HT.sIx_nat]; exact fun h => absurd h.1 (by simp), fun p np => ?_⟩
                  rw [ec]
                  have s2 := same_new (o := .tup ys) np
                  have lp : l ≠ p := fun e => by rw [e, upd_same] at np; cases np
                  refine ⟨p, rfl, ⟨_, SqT.of upd_same⟩, for_tup (xs := ys) (fun i σ G => (σ.length = 3 ∧ σ[1]? = some (some (.ref l))) ∧ Same H G ∧ G p = some (.tup ys) ∧ G l = some (.lst ((rnAll (t.take i)).map V.str))) ⟨⟨rfl, rfl⟩, s1.trans s2, upd_same, by rw [upd_ne lp, upd_same]; rfl⟩ (fun i σ G _ h => SqT.of h.2.2.1) (fun i z σ G hz h => ?_) (fun σ G h => ?_)⟩
                  · obtain ⟨⟨v0, v1⟩, sg, gp, gl⟩ := h
                    obtain ⟨y0, y1, y2, rfl⟩ := list3 v0
                    obtain rfl : y1 = _ := Option.some.inj v1
                    obtain ⟨d, hd, rd⟩ := rp_get rt hz
                    have rdG := Rp.same sg rd
                    have ln : (rnAll (t.take i)).length + 2 ^ m ≤ sizeLine := by
                      have : ∀ (l : List PyData), l.length ≤ 2 → (∀ p ∈ l, (rn p).length ≤ 2 ^ m) → (rnAll l).length ≤ 2 ^ m + 2 ^ m := fun l l2 hl => by
                        match l, l2, hl with
                        | [], _, _ => exact Nat.zero_le _
                        | [a], _, hl =>
                          have := hl a (by simp)
                          show (rn a ++ []).length ≤ _
                          rw [List.append_nil]
                          omega
                        | [a, b], _, hl =>
                          have h1 := hl a (by simp)
                          have h2 := hl b (by simp)
                          show (rn a ++ (rn b ++ [])).length ≤ _
                          rw [List.append_nil, List.length_append]
                          omega
                        | _ :: _ :: _ :: _, l2, _ => simp at l2
                      have pm : 2 ^ m ≤ 2 ^ 12 := Nat.pow_le_pow_right (by decide) (by omega)
                      have q := this (t.take i) (by have := of_decide_eq_true l2; rw [List.length_take]; omega) (fun p hp => by
                        have q := List.all_eq_true.mp al p (List.mem_of_mem_take hp)
                        cases p with
                        | tuple z => exact rn_len m _ q
                        | _ => exact Nat.zero_le _)
                      exact Nat.le_trans (Nat.add_le_add_right q _) (Nat.le_trans (by omega : 2 ^ m + 2 ^ m + 2 ^ m ≤ 3 * 2 ^ 12) (by decide))
                    refine ⟨_, rfl, z, .ty "tuple", _, _, _, rfl, .ty _, rp_ty rdG, kit_tup d, _, rfl, ite2 (fun i2 => ?_) (fun i2 => ?_)⟩
                    · obtain ⟨z', rfl⟩ : ∃ z', d = .tuple z' := by
                        cases d <;> first | exact ⟨_, rfl⟩ | cases i2
                      have okd : trOk m (.tuple z') = true := List.all_eq_true.mp al _ (List.mem_of_getElem? hd)
                      refine ⟨_, rfl, .inl ⟨rfl, _, SqL.of gl⟩, _, rfl, z, _, rfl, rdG, okd, by omega, fun l3 G3 s3 n3 e3 => ?_⟩
                      have gl3 := s3 _ _ gl
                      have rl := rn_len m _ okd
                      refine ⟨l, l3, _, _, rfl, rfl, gl3, e3, by rw [List.length_map, List.length_map]; exact Nat.le_trans (Nat.add_le_add_left rl _) ln, ⟨rfl, rfl⟩, ?_, ?_, ?_⟩
                      · exact fun b o e => by
                          rw [upd_ne (ne_of_none e nl)]
                          exact s3 _ _ (sg _ _ e)
                      · rw [upd_ne lp.symm]
                        exact s3 _ _ gp
                      · rw [upd_same, rnAll_take hd, List.map_append]
                    · have e0 : rn d = [] := by
                        cases d <;> first | rfl | exact absurd rfl i2
                      refine ⟨⟨rfl, rfl⟩, sg, gp, ?_⟩
                      rw [rnAll_take hd, e0, List.append_nil]
                      exact gl
                  · obtain ⟨⟨v0, v1⟩, sg, gp, gl⟩ := h
                    refine ⟨_, v1, k l G sg nl ?_⟩
                    rw [gl, List.take_of_length_le (by rw [← RpAll.len rt]; exact Nat.le_refl _)]
                    show _ = some (HO.lst ((if x = "row" then _ else rnAll t).map V.str))
                    rw [if_neg nx]
          | _ => cases ok
      | _ => cases ok
end
end Hd

set_option Elab.async false
set_option linter.all false
set_option maxRecDepth 100000
set_option maxHeartbeats 8000000
namespace Hd
open PySem L2 Pen RG Dat KEq
abbrev sAd : Stmt := top 33
abbrev sTo : Stmt := top 34
/-- the deeds within a deed -/
def subs (g : List PyData → List PyData) : PyData → List PyData
  | .tuple [h, _, a, b] => if isS h "if" = true then g (tupOf a) ++ g (tupOf b) else []
  | _ => []
def allF (g : List PyData → List PyData) : List PyData → List PyData
  | [] => []
  | d :: ds => (d :: subs g d) ++ allF g ds
/-- all deeds of deeds, ifs within at most i others -/
def allD : Nat → List PyData → List PyData
  | 0 => allF fun _ => []
  | i + 1 => allF (allD i)
def inD : Nat → List PyData → List PyData
  | 0 => fun _ => []
  | i + 1 => allD i
theorem allD_eq : ∀ i, allD i = allF (inD i)
  | 0 => rfl
  | _ + 1 => rfl
theorem subs_four {g : List PyData → List PyData} {h c a b : PyData} : subs g (.tuple [h, c, a, b]) = if isS h "if" = true then g (tupOf a) ++ g (tupOf b) else [] := rfl
/-- a deed, whatever room it has -/
def Deed (d : PyData) : Prop := ∃ i r r', deedR i d r = some r'
theorem allF_take {g : List PyData → List PyData} {d : PyData} : ∀ {ds : List PyData} {i : Nat}, ds[i]? = some d → allF g (ds.take (i + 1)) = allF g (ds.take i) ++ (d :: subs g d)
  | [], _, h => by simp at h
  | e :: ds, 0, h => by
    have q : e = d := by simpa using h
    subst q
    show (e :: subs g e) ++ [] = [] ++ _
    simp
  | e :: ds, i + 1, h => by
    have ih := allF_take (g := g) (ds := ds) (i := i) (by simpa using h)
    show (e :: subs g e) ++ allF g (ds.take (i + 1)) = ((e :: subs g e) ++ allF g (ds.take i)) ++ _
    rw [ih, List.append_assoc]
/-- what the deeds of a list are, and how many -/
def Good (g : List PyData → List PyData) (j : Nat) : Prop := ∀ ds r r', roomAll (deedR j) ds r = some r' → (g ds).length + r' ≤ r ∧ ∀ d ∈ g ds, Deed d
theorem subs_good {g : List PyData → List PyData} {j : Nat} (hg : Good g j) {d : PyData} {r r' : Nat} (h : deedR (j + 1) d r = some r') : (subs g d).length + r' ≤ r ∧ ∀ e ∈ subs g d, Deed e := by
  rcases deed_cases h with ⟨rfl, e⟩ | ⟨n, x, rfl, _, _, e⟩ | ⟨n, k, x, rfl, _, _, _, e⟩ | ⟨j', c, as, bs, r1, ej, rfl, _, ha, hb⟩
  · exact ⟨by show 0 + r' ≤ r; omega, fun e he => by cases he⟩
  · exact ⟨by show 0 + r' ≤ r; omega, fun e he => by cases he⟩
  · have z : subs g (.tuple [.str "send", .str n, k, x]) = [] := subs_four.trans (if_neg (by decide +kernel))
    rw [z]
    exact ⟨by show 0 + r' ≤ r; omega, fun e he => by cases he⟩
  · cases ej
    have z : subs g (.tuple [.str "if", c, .tuple as, .tuple bs]) = g as ++ g bs := subs_four.trans (if_pos (by decide +kernel))
    rw [z]
    obtain ⟨a1, a2⟩ := hg _ _ _ ha
    obtain ⟨b1, b2⟩ := hg _ _ _ hb
    refine ⟨by rw [List.length_append]; omega, fun e he => ?_⟩
    rcases List.mem_append.mp he with he | he
    · exact a2 e he
    · exact b2 e he
theorem subs_zero {d : PyData} {r r' : Nat} (h : deedR 0 d r = some r') (g : List PyData → List PyData) : subs g d = [] ∧ r' = r := by
  rcases deed_cases h with ⟨rfl, e⟩ | ⟨n, x, rfl, _, _, e⟩ | ⟨n, k, x, rfl, _, _, _, e⟩ | ⟨j', c, as, bs, r1, ej, _⟩
  · exact ⟨rfl, e⟩
  · exact ⟨rfl, e⟩
  · exact ⟨subs_four.trans (if_neg (by decide +kernel)), e⟩
  · cases ej
theorem allF_good {g : List PyData → List PyData} {j : Nat} (hs : ∀ d r r', deedR j d r = some r' → (subs g d).length + r' ≤ r ∧ ∀ e ∈ subs g d, Deed e) : Good (allF g) j
  | [], r, r', h => ⟨by
    have := Option.some.inj h
    show 0 + r' ≤ r
    omega, fun e he => by cases he⟩
  | d :: ds, 0, _, h => by cases h
  | d :: ds, r + 1, r', h => by
    have h : (deedR j d r).bind (roomAll (deedR j) ds) = some r' := h
    obtain ⟨r1, a, b⟩ := Option.bind_eq_some_iff.mp h
    obtain ⟨a1, a2⟩ := hs _ _ _ a
    obtain ⟨b1, b2⟩ := allF_good hs ds _ _ b
    refine ⟨by show ((d :: subs g d) ++ allF g ds).length + r' ≤ r + 1; rw [List.length_append, List.length_cons]; omega, fun e he => ?_⟩
    rcases List.mem_append.mp he with he | he
    · rcases List.mem_cons.mp he with rfl | he
      · exact ⟨_, _, _, a⟩
      · exact a2 e he
    · exact b2 e he
theorem allD_good : ∀ i, Good (allD i) i
  | 0 => allF_good fun d r r' h => by
    obtain ⟨e1, e2⟩ := subs_zero h fun _ => []
    rw [e1, e2]
    exact ⟨by show 0 + r ≤ r; omega, fun e he => by cases he⟩
  | i + 1 => allF_good fun d r r' h => subs_good (allD_good i) h
theorem room_at {j : Nat} {d : PyData} : ∀ {ds : List PyData} {i r r' : Nat}, roomAll (deedR j) ds r = some r' → ds[i]? = some d → ∃ r1 r2, r1 ≤ r ∧ deedR j d r1 = some r2
  | [], _, _, _, _, h => by simp at h
  | _ :: _, _, 0, _, q, _ => by cases q
  | e :: ds, 0, r + 1, r', q, h => by
    have z : e = d := by simpa using h
    subst z
    have q : (deedR j e r).bind (roomAll (deedR j) ds) = some r' := q
    obtain ⟨r1, a, _⟩ := Option.bind_eq_some_iff.mp q
    exact ⟨r, r1, by omega, a⟩
  | e :: ds, i + 1, r + 1, r', q, h => by
    have q : (deedR j e r).bind (roomAll (deedR j) ds) = some r' := q
    obtain ⟨r1, a, b⟩ := Option.bind_eq_some_iff.mp q
    have le := deedR_le j e r r1 a
    obtain ⟨x, y, hx, z⟩ := room_at b (by simpa using h)
    exact ⟨x, y, by omega, z⟩
theorem room_take {j : Nat} : ∀ {ds : List PyData} {r r' : Nat} (i : Nat), roomAll (deedR j) ds r = some r' → ∃ r2, roomAll (deedR j) (ds.take i) r = some r2
  | [], r, _, i, _ => ⟨r, by rw [List.take_nil]; rfl⟩
  | _ :: _, 0, _, _, q => by cases q
  | e :: ds, r + 1, r', 0, q => ⟨r + 1, rfl⟩
  | e :: ds, r + 1, r', i + 1, q => by
    have q : (deedR j e r).bind (roomAll (deedR j) ds) = some r' := q
    obtain ⟨r1, a, b⟩ := Option.bind_eq_some_iff.mp q
    obtain ⟨r2, z⟩ := room_take i b
    exact ⟨r2, by show (deedR j e r).bind (roomAll (deedR j) (ds.take i)) = some r2; rw [a]; exact z⟩
theorem allD_few {i : Nat} {ds : List PyData} {r r' : Nat} (h : roomAll (deedR i) ds r = some r') (r12 : r ≤ 12) (n : Nat) : (allD i (ds.take n)).length ≤ 12 := by
  obtain ⟨r2, q⟩ := room_take n h
  have := (allD_good i _ _ _ q).1
  omega
theorem rpAll_app {K : PySem.W.Frag} {H : Hp} : ∀ {xs ys : List V} {as bs : List PyData}, RpAll K H xs as → RpAll K H ys bs → RpAll K H (xs ++ ys) (as ++ bs)
  | _, _, _, _, .nil, h => h
  | _, _, _, _, .cons a r, h => .cons a (rpAll_app r h)
theorem rp_h1 {K : PySem.W.Frag} {H : Hp} {v : V} {h : Str} (r : Rp K H v (.tuple [.str h])) : ∃ a, v = .ref a ∧ SqT K H a [V.str h] := by
  cases r with
  | @tup a xs _ q rr =>
    cases rr with
    | cons z0 zt =>
      cases z0
      cases zt
      exact ⟨a, rfl, q⟩
theorem rp_h3 {K : PySem.W.Frag} {H : Hp} {v : V} {h : Str} {d e : PyData} (r : Rp K H v (.tuple [.str h, d, e])) : ∃ a vd ve, v = .ref a ∧ SqT K H a [V.str h, vd, ve] ∧ Rp K H vd d ∧ Rp K H ve e := by
  cases r with
  | @tup a xs _ q rr =>
    cases rr with
    | cons z0 zt =>
      cases z0
      cases zt with
      | cons z1 zt =>
        cases zt with
        | cons z2 zt =>
          cases zt
          exact ⟨a, _, _, rfl, q, z1, z2⟩
theorem rp_h4 {K : PySem.W.Frag} {H : Hp} {v : V} {h : Str} {d e f : PyData} (r : Rp K H v (.tuple [.str h, d, e, f])) : ∃ a vd ve vf, v = .ref a ∧ SqT K H a [V.str h, vd, ve, vf] ∧ Rp K H vd d ∧ Rp K H ve e ∧ Rp K H vf f := by
  cases r with
  | @tup a xs _ q rr =>
    cases rr with
    | cons z0 zt =>
      cases z0
      cases zt with
      | cons z1 zt =>
        cases zt with
        | cons z2 zt =>
          cases zt with
          | cons z3 zt =>
            cases zt
            exact ⟨a, _, _, _, rfl, q, z1, z2, z3⟩
def spAd (K : PySem.W.Frag) (m : Nat) : Sp := fun vs H Q _ => ∃ (H0 : Hp) (v : V) (ds : List PyData) (i r r' : Nat), vs = [v] ∧ i < m ∧ Same H0 H ∧ Rp K H0 v (.tuple ds) ∧ roomAll (deedR i) ds r = some r' ∧ r ≤ 12 ∧
  ∀ l xs H', Same H H' → H l = none → H' l = some (.lst xs) → RpAll K H0 xs (allD i ds) → Q (.ref l) H'
section
variable {P : Program} {w : World} {K : PySem.W.Frag} {mg : Str → Option Value} {base : Heap}
theorem scAd : FnScope ["deeds", "found", "deed"] ["deeds"] (defScope sAd) := ⟨rfl, rfl, rfl, by decide +kernel, rfl, by decide +kernel, by decide +kernel⟩
theorem ok_ad {f : Addr} {fd : FuncData} (F : Fun K "all_deeds" "all_deeds" sAd f fd) (TAd : DefT K mg "all_deeds" f) (bAd : Binds K fd ["deeds"] []) : ∀ m, FnOk P w K mg base CX0 (m + 1) f fd ["deeds"] (spAd K m)
  | 0 => by
    refine F.ok scAd (fun vs H Q E h => ?_) (fun cdv A outer s H vs Q E hr h => ?_)
    · obtain ⟨H0, v, ds, i, r, r', rfl, _⟩ := h
      rfl
    · obtain ⟨H0, v, ds, i, r, r', rfl, lt, _⟩ := h
      exact absurd lt (Nat.not_lt_zero _)
  | m + 1 => by
    have GAd := ok_ad F TAd bAd m
    refine F.ok scAd (fun vs H Q E h => ?_) (fun cdv A outer s H vs Q E hr h => ?_)
    · obtain ⟨H0, v, ds, i, r, r', rfl, _⟩ := h
      rfl
    · obtain ⟨H0, v, ds, i, r, r', rfl, lt, s0, rp, room, r12, k⟩ := h
      refine ⟨_, (pss_cons (ps_set (i := 1) scAd.nd rfl (Or.inl rfl) (pe_lst pa_nil))
      (pss_cons (ps_for PassesOwn.never rfl (pi_tup (pv 0)) (pg_name (i := 2) scAd.nd rfl (Or.inl rfl)) (pss_cons (ps_expr (pe_bm PySem.F.plainAttrs_list PySem.F.slot_list_append PySem.F.type_list_append mt_append (pv 1) (pa_cons (pv 2) pa_nil)))
      (pss_one (ps_if (pt_cmpR op_eq (pe_ix ix_tup (pv 2) pe_int (fun _ _ => rfl)) pe_str (nomark _)) (pss_cons (ps_expr (pe_bm PySem.F.plainAttrs_list PySem.F.slot_list_extend PySem.F.type_list_extend mt_extend (pv 1) (pa_cons (pe_call GAd (hr.mono (by omega)) rfl TAd.mg TAd.kp bAd .nil pass0 (pa_cons (pe_ix ix_tup (pv 2) pe_int (fun _ _ => rfl)) pa_nil)) pa_nil)))
      (pss_one (ps_expr (pe_bm PySem.F.plainAttrs_list PySem.F.slot_list_extend PySem.F.type_list_extend mt_extend (pv 1) (pa_cons (pe_call GAd (hr.mono (by omega)) rfl TAd.mg TAd.kp bAd .nil pass0 (pa_cons (pe_ix ix_tup (pv 2) pe_int (fun _ _ => rfl)) pa_nil)) pa_nil))))) pss_nil))))
      (pss_one (ps_ret (pv 1))))), ?_⟩
      cases rp with
      | @tup a xs _ q rr =>
        refine ⟨Nat.zero_le _, fun l nl => ?_⟩
        have l0 : H0 l = none := by
          cases e : H0 l with
          | none => rfl
          | some o => rw [s0 _ _ e] at nl; cases nl
        have s1 := same_new (o := .lst []) nl
        refine ⟨_, rfl, a, rfl, ⟨_, sqT_same (s0.trans s1) q⟩, for_tup (xs := xs) (fun n σ G => (σ.length = 3 ∧ σ[1]? = some (some (.ref l))) ∧ Same H G ∧ ∃ ys, G l = some (.lst ys) ∧ RpAll K H0 ys (allD i (ds.take n))) ⟨⟨rfl, rfl⟩, s1, [], upd_same, by rw [List.take_zero]; cases i <;> exact .nil⟩ (fun n σ G _ h => sqT_same (s0.trans h.2.1) q) (fun n z σ G hz h => ?_) (fun σ G h => ?_)⟩
        · obtain ⟨⟨v0, v1⟩, sg, ys, gl, ry⟩ := h
          obtain ⟨y0, y1, y2, rfl⟩ := list3 v0
          obtain rfl : y1 = _ := Option.some.inj v1
          obtain ⟨d, hd, rd⟩ := rp_get rr hz
          obtain ⟨r1, r2, le1, dd⟩ := room_at room hd
          have leq : (r2 : Nat) = r2 := rfl
          have ln : ys.length ≤ 12 := Nat.le_trans (Nat.le_of_eq (RpAll.len ry)) (allD_few room r12 n)
          have big : 40 ≤ sizeLine := by decide
          have step : allD i (ds.take (n + 1)) = allD i (ds.take n) ++ (d :: subs (inD i) d) := by
            rw [allD_eq]
            exact allF_take hd
          rw [step]
          have sgX : ∀ {G2 : Hp} (o : HO), Same H G2 → Same H (upd G2 l o) := fun o s2 b u e => by
            rw [upd_ne (ne_of_none e nl)]
            exact s2 _ _ e
          have r1s : RpAll K H0 (ys ++ [z]) (allD i (ds.take n) ++ [d]) := rpAll_app ry (.cons rd .nil)
          refine ⟨_, rfl, .inl ⟨rfl, _, SqL.of gl⟩, _, rfl, l, ys, z, rfl, rfl, gl, by omega, ?_⟩
          rcases deed_cases dd with ⟨rfl, e⟩ | ⟨n', x, rfl, _, _, e⟩ | ⟨n', k', x, rfl, _, _, _, e⟩ | ⟨j, c, as, bs, r3, ej, rfl, _, ha, hb⟩
          · obtain ⟨az, rfl, qz⟩ := rp_h1 rd
            refine ⟨_, rfl, az, _, 0, _, rfl, rfl, sqT_same (s0.trans (sgX _ sg)) qz, atI_nat (j := 0) rfl, rfl, _, rfl, ite2 (fun i1 => absurd i1 (by decide +kernel)) (fun _ => ?_)⟩
            exact ⟨⟨rfl, rfl⟩, sgX _ sg, _, upd_same, r1s⟩
          · obtain ⟨az, vn, vx, rfl, qz, _, _⟩ := rp_h3 rd
            refine ⟨_, rfl, az, _, 0, _, rfl, rfl, sqT_same (s0.trans (sgX _ sg)) qz, atI_nat (j := 0) rfl, rfl, _, rfl, ite2 (fun i1 => absurd i1 (by decide +kernel)) (fun _ => ?_)⟩
            exact ⟨⟨rfl, rfl⟩, sgX _ sg, _, upd_same, r1s⟩
          · have z : subs (inD i) (.tuple [.str "send", .str n', k', x]) = [] := subs_four.trans (if_neg (by decide +kernel))
            rw [z]
            obtain ⟨az, vn, vk, vx, rfl, qz, _, _, _⟩ := rp_h4 rd
            refine ⟨_, rfl, az, _, 0, _, rfl, rfl, sqT_same (s0.trans (sgX _ sg)) qz, atI_nat (j := 0) rfl, rfl, _, rfl, ite2 (fun i1 => absurd i1 (by decide +kernel)) (fun _ => ?_)⟩
            exact ⟨⟨rfl, rfl⟩, sgX _ sg, _, upd_same, r1s⟩
          · subst ej
            have z : subs (inD (j + 1)) (.tuple [.str "if", c, .tuple as, .tuple bs]) = allD j as ++ allD j bs := subs_four.trans (if_pos (by decide +kernel))
            rw [z]
            have fa := allD_few ha (by omega) as.length
            have fb := allD_few hb (by have := roomAll_le (deedR_le j) ha; omega) bs.length
            rw [List.take_length] at fa fb
            obtain ⟨az, vc, va, vb, rfl, qz, rc, ra, rb⟩ := rp_h4 rd
            have qz' : ∀ {G2 : Hp}, Same H G2 → SqT K G2 az [V.str "if", vc, va, vb] := fun s2 => sqT_same (s0.trans s2) qz
            refine ⟨_, rfl, az, _, 0, _, rfl, rfl, qz' (sgX _ sg), atI_nat (j := 0) rfl, rfl, _, rfl, ite2 (fun _ => ?_) (fun i1 => absurd (by decide +kernel) i1)⟩
            refine ⟨_, rfl, .inl ⟨rfl, _, SqL.of upd_same⟩, _, rfl, az, _, 2, _, rfl, rfl, qz' (sgX _ sg), atI_nat (j := 2) rfl, H0, va, as, j, r1, r3, rfl, by omega, s0.trans (sgX _ sg), ra, ha, by omega, fun l2 x2 G2 s2 n2 e2 p2 => ?_⟩
            have l2l : G2 l = some (.lst (ys ++ [V.ref az])) := s2 _ _ upd_same
            have t2 : Same H G2 := (sgX _ sg).trans s2
            have lx2 := RpAll.len p2
            have lyz := RpAll.len ry
            refine ⟨l, l2, _, _, rfl, rfl, l2l, e2, by rw [List.length_append]; simp only [List.length_cons, List.length_nil]; omega, ?_⟩
            refine ⟨_, rfl, .inl ⟨rfl, _, SqL.of upd_same⟩, _, rfl, az, _, 3, _, rfl, rfl, qz' (sgX _ t2), atI_nat (j := 3) rfl, H0, vb, bs, j, r3, r2, rfl, by omega, s0.trans (sgX _ t2), rb, hb, by have := roomAll_le (deedR_le j) ha; omega, fun l3 x3 G3 s3 n3 e3 p3 => ?_⟩
            have l3l : G3 l = some (.lst ((ys ++ [V.ref az]) ++ x2)) := s3 _ _ upd_same
            have t3 : Same H G3 := (sgX _ t2).trans s3
            have lx3 := RpAll.len p3
            refine ⟨l, l3, _, _, rfl, rfl, l3l, e3, by rw [List.length_append, List.length_append]; simp only [List.length_cons, List.length_nil]; omega, ⟨rfl, rfl⟩, sgX _ t3, _, upd_same, ?_⟩
            have eq : allD (j + 1) (ds.take n) ++ (PyData.tuple [.str "if", c, .tuple as, .tuple bs] :: (allD j as ++ allD j bs)) = ((allD (j + 1) (ds.take n) ++ [PyData.tuple [.str "if", c, .tuple as, .tuple bs]]) ++ allD j as) ++ allD j bs := by simp
            rw [eq]
            exact rpAll_app (rpAll_app r1s p2) p3
        · obtain ⟨⟨v0, v1⟩, sg, ys, gl, ry⟩ := h
          rw [List.take_of_length_le (by rw [← RpAll.len rr]; exact Nat.le_refl _)] at ry
          exact ⟨_, v1, k l ys G sg nl gl ry⟩
/-- the tree of a deed, none of a fail -/
def treesOf : PyData → List PyData
  | .tuple [_, _, x] => [x]
  | .tuple [h, c, _, x] => if isS h "if" = true then [c] else [x]
  | _ => []
theorem treesOf_four {h c a x : PyData} : treesOf (.tuple [h, c, a, x]) = if isS h "if" = true then [c] else [x] := rfl
def spTo (K : PySem.W.Frag) : Sp := fun vs H Q _ => ∃ (H0 : Hp) (v : V) (d : PyData), vs = [v] ∧ Same H0 H ∧ Rp K H0 v d ∧ Deed d ∧ ∀ t xs H', Same H H' → H t = none → H' t = some (.tup xs) → RpAll K H0 xs (treesOf d) → Q (.ref t) H'
theorem scTo : FnScope ["deed"] ["deed"] (defScope sTo) := ⟨rfl, rfl, rfl, by decide +kernel, rfl, by decide +kernel, by decide +kernel⟩
theorem ok_to {f : Addr} {fd : FuncData} (F : Fun K "trees_of" "trees_of" sTo f fd) : FnOk P w K mg base CX0 1 f fd ["deed"] (spTo K) := by
  refine F.ok scTo (fun vs H Q E h => ?_) (fun cdv A outer s H vs Q E hr h => ?_)
  · obtain ⟨H0, v, d, rfl, _⟩ := h
    rfl
  · obtain ⟨H0, v, d, rfl, s0, rd, ⟨i, r, r', dd⟩, k⟩ := h
    refine ⟨_, (pss_cons (ps_if (pt_cmpR op_eq (pe_ix ix_tup (pv 0) pe_int (fun _ _ => rfl)) pe_str (nomark _)) (pss_one (ps_ret (Ab.pe_tupA (pa_cons (pe_ix ix_tup (pv 0) pe_int (fun _ _ => rfl)) pa_nil)))) pss_nil)
      (pss_cons (ps_if (pt_cmpR op_eq (pe_ix ix_tup (pv 0) pe_int (fun _ _ => rfl)) pe_str (nomark _)) (pss_one (ps_ret (Ab.pe_tupA pa_nil))) pss_nil)
      (pss_one (ps_ret (Ab.pe_tupA (pa_cons (pe_ix ix_tup (pv 0) (pe_un un_neg pe_int) (fun _ _ => rfl)) pa_nil)))))), ?_⟩
    rcases deed_cases dd with ⟨rfl, e⟩ | ⟨n', x, rfl, _, _, e⟩ | ⟨n', k', x, rfl, _, _, _, e⟩ | ⟨j, c, as, bs, r3, ej, rfl, _, ha, hb⟩
    · obtain ⟨az, rfl, qz⟩ := rp_h1 rd
      refine ⟨_, rfl, az, _, 0, _, rfl, rfl, sqT_same s0 qz, atI_nat (j := 0) rfl, rfl, _, rfl, ite2 (fun i1 => absurd i1 (by decide +kernel)) (fun _ => ?_)⟩
      refine ⟨_, rfl, az, _, 0, _, rfl, rfl, sqT_same s0 qz, atI_nat (j := 0) rfl, rfl, _, rfl, ite2 (fun _ => ?_) (fun i1 => absurd (by decide +kernel) i1)⟩
      exact ⟨Nat.zero_le _, fun t G nt s e => k t [] G s nt e .nil⟩
    · obtain ⟨az, vn, vx, rfl, qz, rn, rx⟩ := rp_h3 rd
      refine ⟨_, rfl, az, _, 0, _, rfl, rfl, sqT_same s0 qz, atI_nat (j := 0) rfl, rfl, _, rfl, ite2 (fun i1 => absurd i1 (by decide +kernel)) (fun _ => ?_)⟩
      refine ⟨_, rfl, az, _, 0, _, rfl, rfl, sqT_same s0 qz, atI_nat (j := 0) rfl, rfl, _, rfl, ite2 (fun i1 => absurd i1 (by decide +kernel)) (fun _ => ?_)⟩
      exact ⟨_, rfl, _, rfl, az, _, (-1 : Int), _, rfl, rfl, sqT_same s0 qz, rfl, sz (by simp), fun t G nt s e => k t [vx] G s nt e (.cons rx .nil)⟩
    · have z : treesOf (.tuple [.str "send", .str n', k', x]) = [x] := treesOf_four.trans (if_neg (by decide +kernel))
      rw [z] at k
      obtain ⟨az, vn, vk, vx, rfl, qz, rn, rk, rx⟩ := rp_h4 rd
      refine ⟨_, rfl, az, _, 0, _, rfl, rfl, sqT_same s0 qz, atI_nat (j := 0) rfl, rfl, _, rfl, ite2 (fun i1 => absurd i1 (by decide +kernel)) (fun _ => ?_)⟩
      refine ⟨_, rfl, az, _, 0, _, rfl, rfl, sqT_same s0 qz, atI_nat (j := 0) rfl, rfl, _, rfl, ite2 (fun i1 => absurd i1 (by decide +kernel)) (fun _ => ?_)⟩
      exact ⟨_, rfl, _, rfl, az, _, (-1 : Int), _, rfl, rfl, sqT_same s0 qz, rfl, sz (by simp), fun t G nt s e => k t [vx] G s nt e (.cons rx .nil)⟩
    · have z : treesOf (.tuple [.str "if", c, .tuple as, .tuple bs]) = [c] := treesOf_four.trans (if_pos (by decide +kernel))
      rw [z] at k
      obtain ⟨az, vc, va, vb, rfl, qz, rc, ra, rb⟩ := rp_h4 rd
      refine ⟨_, rfl, az, _, 0, _, rfl, rfl, sqT_same s0 qz, atI_nat (j := 0) rfl, rfl, _, rfl, ite2 (fun _ => ?_) (fun i1 => absurd (by decide +kernel) i1)⟩
      exact ⟨_, rfl, az, _, 1, _, rfl, rfl, sqT_same s0 qz, atI_nat (j := 1) rfl, sz (by simp), fun t G nt s e => k t [vc] G s nt e (.cons rc .nil)⟩
end
end Hd

set_option Elab.async false
set_option linter.all false
set_option maxRecDepth 100000
set_option maxHeartbeats 2000000
/-! the sorted list of the texts of a list, each once: one alone -/
namespace TxS
open PySem PySem.Spec PyProof.Rows L2
abbrev cpl (x : Str) : List Nat := x.cps.toList
theorem cpl_inj {x y : Str} (h : cpl x = cpl y) : x = y := by
  cases x with
  | mk a =>
    cases y with
    | mk b =>
      have e : a = b := Array.toList_inj.mp h
      rw [e]
theorem ris_all : ∀ (p : Str) (l : List Str), risingS p l = true → ∀ x ∈ l, ¬ cpl x < cpl p
  | _, [], _, x, h => by cases h
  | p, y :: r, h, x, hx => by
    have h' : (!ltCps (cpl y) (cpl p) && risingS y r) = true := h
    rw [Bool.and_eq_true, ltCps_eq] at h'
    have a : ¬ cpl y < cpl p := by simpa using h'.1
    rcases List.mem_cons.mp hx with e | m
    · rw [e]
      exact a
    · exact fun z => (List.le_trans (α := Nat) a (ris_all y r h'.2 x m)) z
theorem ris_pair : ∀ (p : Str) (l : List Str), risingS p l = true → (p :: l).Pairwise fun a b => ¬ cpl b < cpl a
  | p, [], _ => List.pairwise_singleton ..
  | p, y :: r, h => by
    have h' : (!ltCps (cpl y) (cpl p) && risingS y r) = true := h
    rw [Bool.and_eq_true] at h'
    exact List.pairwise_cons.mpr ⟨ris_all p (y :: r) h, ris_pair y r h'.2⟩
theorem srt_pair {l : List Str} (h : sortedS l = true) : l.Pairwise fun a b => ¬ cpl b < cpl a := by
  cases l with
  | nil => exact .nil
  | cons x r => exact ris_pair x r h
theorem perm_once {a b : List Str} (ha : a.Nodup) (hb : b.Nodup) (h : ∀ x, x ∈ a ↔ x ∈ b) : a.Perm b := by
  rw [List.perm_iff_count]
  intro x
  by_cases m : x ∈ a
  · rw [List.Nodup.count ha, List.Nodup.count hb]
    simp [h x]
  · rw [List.count_eq_zero_of_not_mem m, List.count_eq_zero_of_not_mem (fun z => m ((h x).mpr z))]
/-- the texts of xs, each once, ascending -/
structure SrtOf (xs ys : List Str) : Prop where
  perm : ys.Perm (once xs)
  srt : sortedS ys = true
theorem SrtOf.one {a b ys zs : List Str} (x : SrtOf a ys) (y : SrtOf b zs) (h : ∀ z, z ∈ a ↔ z ∈ b) : ys = zs := by
  have p : ys.Perm zs := x.perm.trans ((perm_once (once_nodup a) (once_nodup b) fun z => mem_once.trans ((h z).trans mem_once.symm)).trans y.perm.symm)
  exact List.Perm.eq_of_pairwise (le := fun a b => ¬ cpl b < cpl a) (fun a b _ _ h1 h2 => cpl_inj (List.le_antisymm h1 h2)) (srt_pair x.srt) (srt_pair y.srt) p
theorem SrtOf.mem {a ys : List Str} (x : SrtOf a ys) {z : Str} : z ∈ ys ↔ z ∈ a := x.perm.mem_iff.trans mem_once
theorem SrtOf.len {a ys : List Str} (x : SrtOf a ys) : ys.length = (once a).length := x.perm.length_eq
/-- few words, few in all -/
theorem once_few {A xs : List Str} (h : ∀ x ∈ xs, x ∈ A) : (once xs).length ≤ A.length := by
  have nd := once_nodup xs
  have sub : ∀ x ∈ once xs, x ∈ A := fun x hx => h x (mem_once.mp hx)
  revert nd sub
  generalize once xs = l
  clear h
  intro nd sub
  induction l generalizing A with
  | nil => exact Nat.zero_le _
  | cons y l ih =>
    have m := sub y List.mem_cons_self
    have q := ih (A := A.erase y) (List.nodup_cons.mp nd).2 fun x hx => by
      have ne : x ≠ y := fun e => (List.nodup_cons.mp nd).1 (e ▸ hx)
      exact (List.mem_erase_of_ne ne).mpr (sub x (List.mem_cons_of_mem _ hx))
    have e := List.length_erase_of_mem m
    have pos := List.length_pos_of_mem m
    rw [List.length_cons]
    omega
end TxS

set_option Elab.async false
set_option linter.all false
set_option maxRecDepth 100000
set_option maxHeartbeats 8000000
namespace Hd
open PySem L2 Pen RG Dat KEq TxS
abbrev sFp : Stmt := top 32
/-! ### the trees of a deed are such -/
def tq (n : Nat) (p : PyData) : Bool := match p with
  | .tuple q => trOk n (.tuple q)
  | _ => true
theorem tq_of {n : Nat} {p : PyData} (h : trOk n p = true) : tq n p = true := by
  cases p with
  | tuple q => exact h
  | _ => rfl
theorem tr_two {n : Nat} {z : Str} {a b : PyData} (hz : ¬ z = "row") (ha : trOk n a = true) (hb : trOk n b = true) : trOk (n + 1) (.tuple [.str z, a, b]) = true := by
  show (if z = "row" then _ else decide (2 ≤ 2) && (tq n a && (tq n b && true))) = true
  rw [if_neg hz, tq_of ha, tq_of hb]
  rfl
theorem tr_one {n : Nat} {z : Str} {a : PyData} (hz : ¬ z = "row") (ha : trOk n a = true) : trOk (n + 1) (.tuple [.str z, a]) = true := by
  show (if z = "row" then _ else decide (1 ≤ 2) && (tq n a && true)) = true
  rw [if_neg hz, tq_of ha]
  rfl
theorem ops_row {z : Str} (h : z ∈ ops) : ¬ z = "row" := by
  simp only [ops, List.mem_cons, List.not_mem_nil, or_false] at h
  rcases h with e | e | e <;> subst e <;> decide +kernel
theorem tr_e : ∀ (n m : Nat) (d : PyData), isE n d = true → n ≤ m → trOk m d = true
  | n, m, d, h, le => by
    obtain ⟨k, hd, tl, e, rfl, q⟩ := e_cases h
    subst e
    obtain ⟨j, rfl⟩ : ∃ j, m = j + 1 := ⟨m - 1, by omega⟩
    rcases q with ⟨h1, i, rfl, i0, i1⟩ | ⟨_, h1, rfl⟩ | ⟨_, _, h1, z, rfl, wz⟩ | ⟨_, _, _, h1, a, b, rfl, ea, eb⟩
    · rw [isS_is h1]
      show (if tV = "row" then _ else decide (1 ≤ 2) && (true && true)) = true
      rw [if_neg (by decide +kernel)]
      rfl
    · rw [isS_is h1]
      show (if tB' = "row" then _ else decide (0 ≤ 2) && true) = true
      rw [if_neg (by decide +kernel)]
      rfl
    · rw [isS_is h1]
      show (if tR = "row" then true else _) = true
      rw [if_pos (by decide +kernel)]
    · obtain ⟨z, m1, m2⟩ := List.any_eq_true.mp h1
      rw [isS_is m2]
      exact tr_two (ops_row m1) (tr_e k j a ea (by omega)) (tr_e k j b eb (by omega))
theorem tr_c : ∀ (n m : Nat) (d : PyData), isC n d = true → n + 6 ≤ m → trOk m d = true
  | n, m, d, h, le => by
    obtain ⟨k, e, q⟩ := c_cases h
    subst e
    obtain ⟨j, rfl⟩ : ∃ j, m = j + 1 := ⟨m - 1, by omega⟩
    rcases q with ⟨z, a, b, hz, rfl, ea, eb⟩ | ⟨a, rfl, ca⟩ | ⟨z, a, b, hz, rfl, ca, cb⟩
    · exact tr_two (by rcases hz with rfl | rfl <;> decide +kernel) (tr_e 6 j a ea (by omega)) (tr_e 6 j b eb (by omega))
    · exact tr_one (by decide +kernel) (tr_c k j a ca (by omega))
    · exact tr_two (by rcases hz with rfl | rfl <;> decide +kernel) (tr_c k j a ca (by omega)) (tr_c k j b cb (by omega))
theorem tr_all {d : PyData} (h : Deed d) : (treesOf d).length ≤ 1 ∧ ∀ t ∈ treesOf d, trOk 12 t = true := by
  obtain ⟨i, r, r', dd⟩ := h
  rcases deed_cases dd with ⟨rfl, e⟩ | ⟨n', x, rfl, _, xe, e⟩ | ⟨n', k', x, rfl, _, _, xe, e⟩ | ⟨j, c, as, bs, r3, ej, rfl, xc, ha, hb⟩
  · exact ⟨Nat.zero_le _, fun t ht => by cases ht⟩
  · refine ⟨Nat.le_refl _, fun t ht => ?_⟩
    rw [List.mem_singleton.mp (show t ∈ [x] from ht)]
    exact tr_e 6 12 x xe (by decide)
  · have z : treesOf (.tuple [.str "send", .str n', k', x]) = [x] := treesOf_four.trans (if_neg (by decide +kernel))
    rw [z]
    refine ⟨Nat.le_refl _, fun t ht => ?_⟩
    rw [List.mem_singleton.mp ht]
    exact tr_e 6 12 x xe (by decide)
  · have z : treesOf (.tuple [.str "if", c, .tuple as, .tuple bs]) = [c] := treesOf_four.trans (if_pos (by decide +kernel))
    rw [z]
    refine ⟨Nat.le_refl _, fun t ht => ?_⟩
    rw [List.mem_singleton.mp ht]
    exact tr_c 6 12 c xc (by decide)
/-! ### what a footprint tells -/
def rdD (d : PyData) : List Str := (treesOf d).flatMap rn
def readsOf (ds : List PyData) : List Str := (allD 3 ds).flatMap rdD
def nmD (z : Str) : PyData → List Str
  | .tuple (h :: .str x :: _) => if isS h z = true then [x] else []
  | _ => []
def namesOf (z : Str) (ds : List PyData) : List Str := (allD 3 ds).flatMap (nmD z)
theorem rd_len {d : PyData} (h : Deed d) : (rdD d).length ≤ 4096 := by
  obtain ⟨l1, ok⟩ := tr_all h
  unfold rdD
  match treesOf d, l1, ok with
  | [], _, _ => exact Nat.zero_le _
  | [t], _, ok =>
    have := rn_len 12 t (ok t List.mem_cons_self)
    rw [List.flatMap_cons, List.flatMap_nil, List.append_nil]
    exact this
  | _ :: _ :: _, l1, _ => simp at l1
theorem flat_take {α : Type} {f : PyData → List α} {d : PyData} : ∀ {ds : List PyData} {i : Nat}, ds[i]? = some d → (ds.take (i + 1)).flatMap f = (ds.take i).flatMap f ++ f d
  | [], _, h => by simp at h
  | e :: ds, 0, h => by
    have q : e = d := by simpa using h
    subst q
    simp
  | e :: ds, i + 1, h => by
    have ih := flat_take (f := f) (ds := ds) (i := i) (by simpa using h)
    rw [List.take_succ_cons, List.take_succ_cons, List.flatMap_cons, List.flatMap_cons, ih, List.append_assoc]
theorem flat_len {α : Type} {f : PyData → List α} {n : Nat} : ∀ {ds : List PyData}, (∀ d ∈ ds, (f d).length ≤ n) → (ds.flatMap f).length ≤ n * ds.length
  | [], _ => Nat.zero_le _
  | d :: ds, h => by
    have ih := flat_len (f := f) (n := n) (ds := ds) fun e he => h e (List.mem_cons_of_mem _ he)
    have := h d List.mem_cons_self
    rw [List.flatMap_cons, List.length_append, List.length_cons, Nat.mul_succ]
    omega
theorem nm_two {z : Str} {h : PyData} {x : Str} {t : List PyData} : nmD z (.tuple (h :: .str x :: t)) = if isS h z = true then [x] else [] := rfl
theorem nm_len (z : Str) (d : PyData) : (nmD z d).length ≤ 1 := by
  unfold nmD
  split
  · split
    · exact Nat.le_refl _
    · exact Nat.zero_le _
  · exact Nat.zero_le _
theorem names_len (z : Str) {ds : List PyData} {r' : Nat} (h : roomAll (deedR 3) ds 12 = some r') : (namesOf z ds).length ≤ 12 := by
  have a := flat_len (f := nmD z) (n := 1) (ds := allD 3 ds) fun d _ => nm_len z d
  have b := (allD_good 3 _ _ _ h).1
  unfold namesOf
  omega
/-- the list of texts acc at D; off D all of Hb -/
def Acc (Hb : Hp) (D : Addr) (acc : List Str) (G : Hp) : Prop := G D = some (.lst (acc.map V.str)) ∧ ∀ b o, b ≠ D → Hb b = some o → G b = some o
theorem Acc.same {Hb G G1 : Hp} {D : Addr} {acc : List Str} (x : Acc Hb D acc G) (s : Same G G1) : Acc Hb D acc G1 := ⟨s _ _ x.1, fun b o n e => s _ _ (x.2 b o n e)⟩
theorem Acc.here {G : Hp} {D : Addr} {acc : List Str} (h : G D = some (.lst (acc.map V.str))) : Acc G D acc G := ⟨h, fun _ _ _ e => e⟩
theorem Acc.weak {H1 H2 G : Hp} {D : Addr} {a b : List Str} (x : Acc H1 D a H2) (y : Acc H2 D b G) : Acc H1 D b G := ⟨y.1, fun c o n e => y.2 c o n (x.2 c o n e)⟩
theorem Acc.more {Hb G : Hp} {D : Addr} {acc : List Str} (z : Str) (x : Acc Hb D acc G) : Acc Hb D (acc ++ [z]) (upd G D (.lst (acc.map V.str ++ [V.str z]))) := by
  refine ⟨by rw [upd_same, List.map_append]; rfl, fun b o n e => ?_⟩
  rw [upd_ne n]
  exact x.2 b o n e
theorem Acc.start {H : Hp} {D : Addr} (h : H D = none) : Acc H D [] (upd H D (.lst [])) := ⟨upd_same, fun b o n e => by rw [upd_ne n]; exact e⟩
theorem Acc.all {H G : Hp} {D : Addr} {acc : List Str} (x : Acc H D acc G) (h : H D = none) : Same H G := fun b o e => x.2 b o (ne_of_none e h) e
theorem goesL {K : PySem.W.Frag} {a D : Addr} {xs : List V} {g : TG} {tt : TT} {vs : List Nat} {ti : CN.TN} {σ : L2.St} {Nx : Hp → Prop} (Pv : Nat → Hp → Prop) (hl : ∀ i H, Pv i H → SqL K H a xs)
    (hs : ∀ i x H, xs[i]? = some x → Pv i H → g x (wipe σ vs) H fun σ2 H2 => wipe σ2 vs = wipe σ vs ∧ tt σ2 H2 fun b H3 => if b = true then ti D σ2 H3 (Pv (i + 1)) else Pv (i + 1) H3) (hd : ∀ H, Pv xs.length H → Nx H) :
    CN.Goes (Itl K a) (fun i m H => m = xs.length - i ∧ i ≤ xs.length ∧ Pv i H) g tt vs ti D σ Nx := by
  rintro i m H ⟨rfl, hi, p⟩
  by_cases lt : i < xs.length
  · refine .inr ⟨⟨xs, xs[i], hl i H p, List.getElem?_eq_getElem lt⟩, Pv (i + 1), fun Hz pz => ⟨xs.length - (i + 1), by omega, rfl, lt, pz⟩, fun x Hy y => ?_⟩
    obtain ⟨e, y⟩ := y
    subst e
    exact hs i x _ (y xs (hl i _ p)) p
  · have e : i = xs.length := by omega
    subst e
    exact .inl ⟨⟨xs, hl _ H p, Nat.le_refl _⟩, hd H p⟩
theorem goesT {K : PySem.W.Frag} {a D : Addr} {xs : List V} {g : TG} {tt : TT} {vs : List Nat} {ti : CN.TN} {σ : L2.St} {Nx : Hp → Prop} (Pv : Nat → Hp → Prop) (hl : ∀ i H, Pv i H → SqT K H a xs)
    (hs : ∀ i x H, xs[i]? = some x → Pv i H → g x (wipe σ vs) H fun σ2 H2 => wipe σ2 vs = wipe σ vs ∧ tt σ2 H2 fun b H3 => if b = true then ti D σ2 H3 (Pv (i + 1)) else Pv (i + 1) H3) (hd : ∀ H, Pv xs.length H → Nx H) :
    CN.Goes (Itt K a) (fun i m H => m = xs.length - i ∧ i ≤ xs.length ∧ Pv i H) g tt vs ti D σ Nx := by
  rintro i m H ⟨rfl, hi, p⟩
  by_cases lt : i < xs.length
  · refine .inr ⟨⟨xs, xs[i], hl i H p, List.getElem?_eq_getElem lt⟩, Pv (i + 1), fun Hz pz => ⟨xs.length - (i + 1), by omega, rfl, lt, pz⟩, fun x Hy y => ?_⟩
    obtain ⟨e, y⟩ := y
    subst e
    exact hs i x _ (y xs (hl i _ p)) p
  · have e : i = xs.length := by omega
    subst e
    exact .inl ⟨⟨xs, hl _ H p, Nat.le_refl _⟩, hd H p⟩
/-- a turn of [deed[1] for deed in deeds if deed[0] == z] -/
theorem names_turn {K : PySem.W.Frag} {z : Str} (hz : z = "set" ∨ z = "send") {G0 G : Hp} {Db : Addr} {D : List PyData} {i : Nat} {d : PyData} {x : V} {σ : L2.St} (hx : σ[5]? = some (some x)) (he : D[i]? = some d) (few : D.length ≤ 12) (dd : Deed d) (rd : Rp K G x d) (g0 : Acc G0 Db ((D.take i).flatMap (nmD z)) G) :
    tTest (tOp rEq (tOp (rIxT K) (tVar 5) (tC (.int 0))) (tC (V.str z))) σ G fun b H3 => if b = true then (tOp (rIxT K) (tVar 5) (tC (.int 1))) σ H3 fun y H4 => ∃ acc, H4 Db = some (.lst acc) ∧ acc.length < sizeLine ∧ Acc G0 Db ((D.take (i + 1)).flatMap (nmD z)) (upd H4 Db (.lst (acc ++ [y]))) else Acc G0 Db ((D.take (i + 1)).flatMap (nmD z)) H3 := by
  rw [flat_take he]
  have big : 100 < sizeLine := by decide
  have len : ((D.take i).flatMap (nmD z)).length ≤ 12 := by
    have := flat_len (f := nmD z) (n := 1) (ds := D.take i) fun d _ => nm_len z d
    rw [List.length_take] at this
    omega
  have yes : ∀ {a : Addr} {n : Str} {ws : List V} {es : List PyData}, x = .ref a → SqT K G a (V.str z :: V.str n :: ws) → d = .tuple (.str z :: .str n :: es) → tTest (tOp rEq (tOp (rIxT K) (tVar 5) (tC (.int 0))) (tC (V.str z))) σ G fun b H3 => if b = true then (tOp (rIxT K) (tVar 5) (tC (.int 1))) σ H3 fun y H4 => ∃ acc, H4 Db = some (.lst acc) ∧ acc.length < sizeLine ∧ Acc G0 Db ((D.take i).flatMap (nmD z) ++ nmD z d) (upd H4 Db (.lst (acc ++ [y]))) else Acc G0 Db ((D.take i).flatMap (nmD z) ++ nmD z d) H3 := by
    intro a n ws es ex q ed
    subst ex
    subst ed
    have e1 : nmD z (.tuple (.str z :: .str n :: es)) = [n] := if_pos (beq_self_eq_true z)
    rw [e1]
    refine ⟨_, hx, a, _, 0, _, rfl, rfl, q, atI_nat (j := 0) rfl, rfl, _, rfl, ite2 (fun _ => ?_) (fun y => absurd (decide_eq_true rfl) y)⟩
    exact ⟨_, hx, a, _, 1, _, rfl, rfl, q, atI_nat (j := 1) rfl, _, g0.1, by rw [List.length_map]; omega, g0.more n⟩
  have no : ∀ {a : Addr} {h : Str} {ws : List V}, x = .ref a → SqT K G a (V.str h :: ws) → ¬ h = z → nmD z d = [] → tTest (tOp rEq (tOp (rIxT K) (tVar 5) (tC (.int 0))) (tC (V.str z))) σ G fun b H3 => if b = true then (tOp (rIxT K) (tVar 5) (tC (.int 1))) σ H3 fun y H4 => ∃ acc, H4 Db = some (.lst acc) ∧ acc.length < sizeLine ∧ Acc G0 Db ((D.take i).flatMap (nmD z) ++ nmD z d) (upd H4 Db (.lst (acc ++ [y]))) else Acc G0 Db ((D.take i).flatMap (nmD z) ++ nmD z d) H3 := by
    intro a h ws ex q ne e1
    subst ex
    rw [e1, List.append_nil]
    refine ⟨_, hx, a, _, 0, _, rfl, rfl, q, atI_nat (j := 0) rfl, rfl, _, rfl, ite2 (fun y => absurd (V.str.inj (of_decide_eq_true y)) ne) (fun _ => ?_)⟩
    exact g0
  obtain ⟨i', r, r', dd⟩ := dd
  rcases deed_cases dd with ⟨rfl, e⟩ | ⟨n', y, rfl, _, _, e⟩ | ⟨n', k', y, rfl, _, _, _, e⟩ | ⟨j, c, as, bs, r3, ej, rfl, _, ha, hb⟩
  · obtain ⟨az, ex, qz⟩ := rp_h1 rd
    exact no ex qz (by rcases hz with rfl | rfl <;> decide +kernel) rfl
  · obtain ⟨az, vn, vx, ex, qz, rn, rx⟩ := rp_h3 rd
    cases rn
    rcases hz with rfl | rfl
    · exact yes ex qz rfl
    · exact no ex qz (by decide +kernel) (nm_two.trans (if_neg (by decide +kernel)))
  · obtain ⟨az, vn, vk, vx, ex, qz, rn, rk, rx⟩ := rp_h4 rd
    cases rn
    rcases hz with rfl | rfl
    · exact no ex qz (by decide +kernel) (nm_two.trans (if_neg (by decide +kernel)))
    · exact yes ex qz rfl
  · obtain ⟨az, vc, va, vb, ex, qz, rc, ra, rb⟩ := rp_h4 rd
    refine no ex qz (by rcases hz with rfl | rfl <;> decide +kernel) ?_
    cases c with
    | str x => exact nm_two.trans (if_neg (by rcases hz with rfl | rfl <;> decide +kernel))
    | _ => rfl
/-! ### errors that are raised -/
def spIv (C : Addr) (f : Str) : Sp := fun vs G Want _ => ∃ (a : Addr) (y : V), vs = [.ref a, y] ∧ G a = some (exo a C none) ∧ ∀ dx, G dx = none → dx ≠ a → Want .non (upd (upd G dx (exd dx [(f, y)])) a (exo a C (some dx)))
theorem raise_ends {H1 : Hp} {C : Addr} {f : Str} {v : V} {Q : XK} (k : ∀ e H', Same H1 H' → H' e = some (.xd [(f, v)]) → Q (.ref C) (some e) H') (a : Addr) (na : H1 a = none) :
    spIv C f [.ref a, v] (upd H1 a (exo a C none)) (fun v H2 => v = .non ∧ ∃ (d : Addr) (fs : List (Str × V)), H2 a = some (exo a C (some d)) ∧ H2 d = some (exd d fs) ∧ H1 d = none ∧ Q (.ref C) (some d) (upd (del H2 a) d (.xd fs))) (fun _ _ _ => False) := by
  refine ⟨a, v, rfl, upd_same, fun dx ndx hne => ⟨rfl, dx, _, upd_same, by rw [upd_ne hne, upd_same], ?_, k dx _ (fun b o e => ?_) upd_same⟩⟩
  · rw [upd_ne hne] at ndx
    exact ndx
  · have ba : b ≠ a := ne_of_none e na
    have nd : H1 dx = none := by
      rw [upd_ne hne] at ndx
      exact ndx
    have bd : b ≠ dx := ne_of_none e nd
    rw [upd_ne bd, del_ne ba, upd_ne ba, upd_ne bd, upd_ne ba]
    exact e
/-- an own error at C, made with one value -/
structure ErrC (P : Program) (w : World) (K : PySem.W.Frag) (mg : Str → Option Value) (base : Heap) (x : Str) (C : Addr) (fI : Addr) (dI : FuncData) : Prop where
  oex : OexC K C
  ini : PySem.W.findIn K (.ref C) "__init__" = some (some (.ref fI))
  isF : PySem.W.typeIn K (.ref fI) = some (.type "function")
  ok : FnOk P w K mg base CX0 1 fI dI ["self", "value"] (spIv C "value")
  binds : Binds K dI ["self", "value"] []
  mg : mg x = some (.ref C)
structure TxtF (mg : Str → Option Value) : Prop where
  tuple : mg "tuple" = none
  sorted : mg "sorted" = none
  set : mg "set" = none
def spFp (K : PySem.W.Frag) (C : Addr) : Sp := fun vs H Q E => ∃ (v : V) (d : PyData), vs = [v] ∧ Rp K H v d ∧ sm d = true ∧
  ((∃ (ds : List PyData) (r' : Nat), d = .tuple ds ∧ roomAll (deedR 3) ds 12 = some r' ∧ (readsOf ds).length ≤ 4000 ∧ (once (readsOf ds)).length < 64 ∧
      ∀ (t a b c : Addr) (y1 y2 y3 : List Str) (H' : Hp), Same H H' → SrtOf (readsOf ds) y1 → SrtOf (namesOf "set" ds) y2 → SrtOf (namesOf "send" ds) y3 → H' t = some (.tup [.ref a, .ref b, .ref c]) → DpT.TupF H' a (y1.map V.str) → DpT.TupF H' b (y2.map V.str) → DpT.TupF H' c (y3.map V.str) → Q (.ref t) H') ∨
    (hOk d = false ∧ ∀ e H', Same H H' → H' e = some (.xd [("value", v)]) → E (.ref C) (some e) H'))
section
variable {P : Program} {w : World} {K : PySem.W.Frag} {mg : Str → Option Value} {base : Heap}
theorem scFp : FnScope ["handler", "deeds", "reads", "writes", "kinds", "deed", "tree", "name"] ["handler"] (defScope sFp) := ⟨rfl, rfl, rfl, by decide +kernel, rfl, by decide +kernel, by decide +kernel⟩
abbrev readC : List Comprehension := match (defBody sFp).getD 2 (Stmt.Pass ⟨0, 0, 0, 0⟩) with
  | Stmt.Assign _ (Expr.ListComp _ cs _ _) _ => cs
  | _ => []
theorem deed_all {i : Nat} {ds : List PyData} {r r' : Nat} (h : roomAll (deedR i) ds r = some r') {k : Nat} {d : PyData} (e : (allD i ds)[k]? = some d) : Deed d := (allD_good i _ _ _ h).2 d (List.mem_of_getElem? e)
theorem ok_fp {f fH fA fT fR C fI : Addr} {fd dH dA dT dR dI : FuncData} (F : Fun K "footprint" "footprint" sFp f fd) (T : TxtF mg) (X : ErrC P w K mg base "InvalidHandler" C fI dI)
    (GHand : FnOk P w K mg base CX0 27 fH dH ["value"] (spHand K)) (THand : DefT K mg "is_handler" fH) (bHand : Binds K dH ["value"] [])
    (GAd : FnOk P w K mg base CX0 5 fA dA ["deeds"] (spAd K 4)) (TAd : DefT K mg "all_deeds" fA) (bAd : Binds K dA ["deeds"] [])
    (GTo : FnOk P w K mg base CX0 1 fT dT ["deed"] (spTo K)) (TTo : DefT K mg "trees_of" fT) (bTo : Binds K dT ["deed"] [])
    (GRn : FnOk P w K mg base CX0 13 fR dR ["tree"] (spRn K 12)) (TRn : DefT K mg "row_names" fR) (bRn : Binds K dR ["tree"] []) : FnOk P w K mg base (L2.CX P w) 28 f fd ["handler"] (spFp K C) := by
  refine F.okX scFp (fun vs H Q E h => ?_) (fun cdv A outer s H vs Q E hr h => ?_)
  · obtain ⟨v, d, rfl, _⟩ := h
    rfl
  · obtain ⟨v, d, rfl, rp, small, k⟩ := h
    refine ⟨_, (pss_cons (ps_if (pt_not (pt_val (pe_call GHand (hr.mono (by decide)) rfl THand.mg THand.kp bHand .nil pass0 (pa_cons (pv 0) pa_nil)))) (pss_one (ps_raise rfl (takes_of rfl rfl rfl rfl) (pmk_oex X.oex X.ini X.isF X.ok (hr.mono (by decide)) X.binds .nil pass0 rfl X.mg (pa_cons (pv 0) pa_nil)))) pss_nil)
      (pss_cons (ps_set (i := 1) scFp.nd rfl (Or.inl rfl) (pe_call GAd (hr.mono (by decide)) rfl TAd.mg TAd.kp bAd .nil pass0 (pa_cons (pv 0) pa_nil)))
      (pss_cons (CN.ps_setLcN (i := 2) (own := [("deed", 5), ("tree", 6), ("name", 7)]) (g := gName 5) (tt := tYes) (vs2 := [6, 7]) (ti := (CN.tNext (iTup K (tCall (spTo K) [] E0 (tCons (tVar 5) tNil))) (gName 6) tYes [6, 7] (CN.tNext (iList K (tCall (spRn K 12) [] E0 (tCons (tVar 6) tNil))) (gName 7) tYes [7] (CN.tEmit (tVar 7))))) rfl scFp.nd rfl rfl (by rfl) (pi_list (pv 1)) (blkOk_by (N := ["handler", "deeds", "reads", "writes", "kinds", "deed", "tree", "name"]) (sc := defScope sFp) (by decide +kernel)) (fun _ _ _ _ _ => by exact ⟨(pg_name (i := 5) scFp.nd rfl (Or.inl rfl)), pts_nil, (CN.pin_next (c := (readC.getD 1 default)) (vs := [6, 7]) (g := gName 6) (tt := tYes) rfl rfl rfl rfl (by intro d z; cases z <;> rfl) (pi_tup (pe_call GTo (hr.mono (by decide)) rfl TTo.mg TTo.kp bTo .nil pass0 (pa_cons (pv 5) pa_nil))) (pg_name (i := 6) scFp.nd rfl (Or.inl rfl)) pts_nil (CN.pin_next (c := (readC.getD 2 default)) (vs := [7]) (g := gName 7) (tt := tYes) rfl rfl rfl rfl (by intro d z; cases z <;> rfl) (pi_list (pe_call GRn (hr.mono (by decide)) rfl TRn.mg TRn.kp bRn .nil pass0 (pa_cons (pv 6) pa_nil))) (pg_name (i := 7) scFp.nd rfl (Or.inl rfl)) pts_nil (CN.pin_emit rfl rfl (pv 7)) (by decide) (fun _ _ => rfl)) (by decide) (fun _ _ => rfl))⟩) (by decide) (by intro d z; cases z <;> rfl) (fun _ => rfl))
      (pss_cons (ps_setLc (i := 3) (own := [("deed", 5)]) (g := gName 5) (tt := tTest (tOp rEq (tOp (rIxT K) (tVar 5) (tC (.int 0))) (tC (V.str "set")))) (te := (tOp (rIxT K) (tVar 5) (tC (.int 1)))) rfl scFp.nd rfl rfl (by rfl) (pi_list (pv 1)) (blkOk_by (N := ["handler", "deeds", "reads", "writes", "kinds", "deed", "tree", "name"]) (sc := defScope sFp) (by decide +kernel)) (fun _ _ _ _ _ => by exact (pg_name (i := 5) scFp.nd rfl (Or.inl rfl))) (fun _ _ _ _ _ => by exact pts_one (pt_cmpR op_eq (pe_ix ix_tup (pv 5) pe_int (fun _ _ => rfl)) pe_str (nomark _))) (fun _ _ _ _ _ => by exact (pe_ix ix_tup (pv 5) pe_int (fun _ _ => rfl))))
      (pss_cons (ps_setLc (i := 4) (own := [("deed", 5)]) (g := gName 5) (tt := tTest (tOp rEq (tOp (rIxT K) (tVar 5) (tC (.int 0))) (tC (V.str "send")))) (te := (tOp (rIxT K) (tVar 5) (tC (.int 1)))) rfl scFp.nd rfl rfl (by rfl) (pi_list (pv 1)) (blkOk_by (N := ["handler", "deeds", "reads", "writes", "kinds", "deed", "tree", "name"]) (sc := defScope sFp) (by decide +kernel)) (fun _ _ _ _ _ => by exact (pg_name (i := 5) scFp.nd rfl (Or.inl rfl))) (fun _ _ _ _ _ => by exact pts_one (pt_cmpR op_eq (pe_ix ix_tup (pv 5) pe_int (fun _ _ => rfl)) pe_str (nomark _))) (fun _ _ _ _ _ => by exact (pe_ix ix_tup (pv 5) pe_int (fun _ _ => rfl))))
      (pss_one (ps_ret (Ab.pe_tupA (pa_cons (pe_callTy DpT.call_tupleF (by rfl) T.tuple (by decide +kernel) (pa_cons (pe_callB (TxS.cr_sortTx rfl) (by rfl) T.sorted (by decide +kernel) (pa_cons (pe_callTy (TxS.cr_setTx rfl) (by rfl) T.set (by decide +kernel) (pa_cons (pv 2) pa_nil)) pa_nil)) pa_nil)) (pa_cons (pe_callTy DpT.call_tupleF (by rfl) T.tuple (by decide +kernel) (pa_cons (pe_callB (TxS.cr_sortTx rfl) (by rfl) T.sorted (by decide +kernel) (pa_cons (pe_callTy (TxS.cr_setTx rfl) (by rfl) T.set (by decide +kernel) (pa_cons (pv 3) pa_nil)) pa_nil)) pa_nil)) (pa_cons (pe_callTy DpT.call_tupleF (by rfl) T.tuple (by decide +kernel) (pa_cons (pe_callB (TxS.cr_sortTx rfl) (by rfl) T.sorted (by decide +kernel) (pa_cons (pe_callTy (TxS.cr_setTx rfl) (by rfl) T.set (by decide +kernel) (pa_cons (pv 4) pa_nil)) pa_nil)) pa_nil)) pa_nil))))))))))), ?_⟩
    refine ⟨_, rfl, v, _, rfl, rp, small, fun H1 s1 => ⟨_, rfl, ?_⟩⟩
    rcases k with ⟨ds, r', rfl, room, l4, l64, k⟩ | ⟨no, k⟩
    case inr =>
      rw [no]
      refine iteT ?_
      exact ⟨_, rfl, (by decide : 1 ≤ 1000), fun a na => raise_ends (fun e H' s e2 => k e H' (s1.trans s) e2) a na⟩
    case inl =>
      have hok : hOk (.tuple ds) = true := by
        show (roomAll (deedR 3) ds 12).isSome = true
        rw [room]
        rfl
      rw [hok]
      refine iteF ?_
      refine ⟨_, rfl, H1, v, ds, 3, 12, r', rfl, by decide, .refl _, Rp.same s1 rp, room, Nat.le_refl _, fun l xs H2 s2 nl el rx => ?_⟩
      have hd : ∀ {k : Nat} {d : PyData}, (allD 3 ds)[k]? = some d → Deed d := fun e => deed_all room e
      have few : (allD 3 ds).length ≤ 12 := by
        have := (allD_good 3 _ _ _ room).1
        omega
      have l4' : ((allD 3 ds).flatMap rdD).length ≤ 4000 := l4
      have l64' : (once ((allD 3 ds).flatMap rdD)).length < 64 := l64
      have k' := k
      unfold readsOf namesOf at k'
      have n1 := names_len "set" room
      have n2 := names_len "send" room
      unfold namesOf at n1 n2
      generalize allD 3 ds = D at rx hd few l4' l64' k' n1 n2
      have lx : xs.length = D.length := RpAll.len rx
      have big : 100000 ≤ sizeLine := by decide
      -- the names that are read
      refine ⟨_, rfl, l, rfl, ⟨_, SqL.of el⟩, fun Da hDa => ⟨_, ⟨_, rfl, Nat.zero_le _, Acc.start hDa⟩, goesL (xs := xs) (fun i G => Acc H2 Da ((D.take i).flatMap rdD) G) (fun i G h => SqL.of (h.2 _ _ (ne_of_none el hDa) el)) (fun i x G hx g0 => ?_) (fun G g0 => ?_)⟩⟩
      · obtain ⟨d, he, rd⟩ := rp_get rx hx
        have sG : Same H1 G := s2.trans (g0.all hDa)
        have ilt : i < 12 := by
          have := (List.getElem?_eq_some_iff.mp he).1
          omega
        obtain ⟨tl, tk⟩ := tr_all (hd he)
        have base1 : ((D.take i).flatMap rdD).length ≤ 4096 * i := by
          have := flat_len (f := rdD) (n := 4096) (ds := D.take i) fun e hm => by
            obtain ⟨j, hj⟩ := List.mem_iff_getElem?.mp (List.mem_of_mem_take hm)
            exact rd_len (hd hj)
          rw [List.length_take] at this
          exact Nat.le_trans this (Nat.mul_le_mul_left _ (Nat.min_le_left _ _))
        refine ⟨rfl, _, rfl, H1, x, d, rfl, sG, rd, hd he, fun t ts G1 sg1 nt et rt => ⟨t, rfl, ⟨_, SqT.of et⟩, _, ⟨_, rfl, Nat.zero_le _, ?start⟩, goesT (xs := ts) (fun j G2 => Acc G1 Da ((D.take i).flatMap rdD ++ ((treesOf d).take j).flatMap rn) G2) (fun j G2 h => SqT.of (h.2 _ _ (fun e => by rw [e, g0.1] at nt; cases nt) et)) (fun j y G2 hy h0 => ?step) (fun G2 h0 => ?fin)⟩⟩
        case start =>
          rw [List.take_zero, List.flatMap_nil, List.append_nil]
          exact Acc.here (sg1 _ _ g0.1)
        case step =>
          obtain ⟨tr, ht, rtr⟩ := rp_get rt hy
          have jlt : j < 1 := by
            have := (List.getElem?_eq_some_iff.mp ht).1
            omega
          have ok12 := tk tr (List.mem_of_getElem? ht)
          have len := rn_len 12 tr ok12
          have sG2 : Same H1 G2 := fun b o e => h0.2 _ _ (ne_of_none (s2 _ _ e) hDa) (sg1 _ _ (sG _ _ e))
          have j0 : j = 0 := by omega
          subst j0
          refine ⟨rfl, _, rfl, y, tr, rfl, Rp.same sG2 rtr, ok12, Nat.le_refl _, fun ln G3 s3 nln eln => ⟨ln, rfl, ⟨_, SqL.of eln⟩, _, ⟨_, rfl, Nat.zero_le _, ?start3⟩, goesL (xs := (rn tr).map V.str) (fun k G4 => Acc G3 Da ((D.take i).flatMap rdD ++ (rn tr).take k) G4) (fun k G4 h => SqL.of (h.2 _ _ (fun e => by rw [e, h0.1] at nln; cases nln) eln)) (fun k z G4 hz q0 => ?step3) (fun G4 q0 => ?fin3)⟩⟩
          case start3 =>
            rw [List.take_zero, List.append_nil]
            have a := (h0.same s3).1
            rw [List.take_zero, List.flatMap_nil, List.append_nil] at a
            exact Acc.here a
          case step3 =>
            obtain ⟨w1, hw, rfl⟩ : ∃ w1, (rn tr)[k]? = some w1 ∧ V.str w1 = z := by
              rw [List.getElem?_map] at hz
              obtain ⟨c, a, b⟩ := Option.map_eq_some_iff.mp hz
              exact ⟨c, a, b⟩
            have klt : k < 4096 := by
              have := (List.getElem?_eq_some_iff.mp hw).1
              omega
            refine ⟨rfl, _, rfl, _, q0.1, ?_, ?_⟩
            · rw [List.length_map, List.length_append, List.length_take]
              have : 4096 * i ≤ 4096 * 12 := Nat.mul_le_mul_left _ (by omega)
              exact Nat.lt_of_lt_of_le (by omega : ((D.take i).flatMap rdD).length + min k (rn tr).length < 100000) big
            · have e : (rn tr).take (k + 1) = (rn tr).take k ++ [w1] := take_more hw
              rw [e, ← List.append_assoc]
              exact q0.more w1
          case fin3 =>
            rw [List.length_map, List.take_length] at q0
            have ge := flat_take (f := rn) ht
            rw [ge]
            rw [List.take_zero, List.flatMap_nil, List.nil_append]
            exact Acc.weak (h0.same s3) q0
        case fin =>
          rw [RpAll.len rt, List.take_length] at h0
          rw [flat_take he]
          exact Acc.weak (g0.same sg1) h0
      · rw [lx, List.take_length] at g0
        have s3 : Same H2 G := g0.all hDa
        have gl := s3 _ _ el
        have r0 : Acc G Da (D.flatMap rdD) G := Acc.here g0.1
        have sG : Same H1 G := s2.trans s3
        -- the names that are set, the kinds that are sent
        refine ⟨_, rfl, l, rfl, ⟨_, SqL.of gl⟩, fun Db hDb => lc_list (xs := xs) (fun i G1 => Acc G Db ((D.take i).flatMap (nmD "set")) G1) (Acc.start hDb) (fun i G1 _ h => SqL.of (h.all hDb _ _ gl)) (fun i x G1 hx h => ?_) (fun G1 h => ?_)⟩
        · obtain ⟨d, he, rd⟩ := rp_get rx hx
          exact ⟨rfl, names_turn (.inl rfl) rfl he few (hd he) (Rp.same (sG.trans (h.all hDb)) rd) h⟩
        rw [lx, List.take_length] at h
        have s4 := h.all hDb
        have gl1 := s4 _ _ gl
        refine ⟨_, rfl, l, rfl, ⟨_, SqL.of gl1⟩, fun Dc hDc => lc_list (xs := xs) (fun i G2 => Acc G1 Dc ((D.take i).flatMap (nmD "send")) G2) (Acc.start hDc) (fun i G2 _ h => SqL.of (h.all hDc _ _ gl1)) (fun i x G2 hx h => ?_) (fun G2 h2 => ?_)⟩
        · obtain ⟨d, he, rd⟩ := rp_get rx hx
          exact ⟨rfl, names_turn (.inr rfl) rfl he few (hd he) (Rp.same ((sG.trans s4).trans (h.all hDc)) rd) h⟩
        rw [lx, List.take_length] at h2
        have s5 := h2.all hDc
        have e1 : G2 Da = some (.lst ((D.flatMap rdD).map V.str)) := s5 _ _ (s4 _ _ g0.1)
        have e2 : G2 Db = some (.lst ((D.flatMap (nmD "set")).map V.str)) := s5 _ _ h.1
        have e3 : G2 Dc = some (.lst ((D.flatMap (nmD "send")).map V.str)) := h2.1
        have o2 : (once (D.flatMap (nmD "set"))).length < 64 := Nat.lt_of_le_of_lt (once_len _) (by omega)
        have o3 : (once (D.flatMap (nmD "send"))).length < 64 := Nat.lt_of_le_of_lt (once_len _) (by omega)
        refine ⟨_, rfl, Da, _, rfl, SqL.of e1, l4', fun p1 n1' => ⟨p1, _, rfl, upd_same, l64', fun y1 p2 m1 t1 n2' => ⟨p2, _, rfl, SqL.of upd_same, fun ta oa n3 c1 d1 => ?_⟩⟩⟩
        have u1 := (same_new (o := TxO w p1 (once (D.flatMap rdD))) n1').trans ((same_new (o := .lst (y1.map V.str)) n2').trans (same_new (o := .frz oa (.tup (y1.map V.str))) n3))
        refine ⟨_, rfl, Db, _, rfl, SqL.of (u1 _ _ e2), by omega, fun p3 n4 => ⟨p3, _, rfl, upd_same, o2, fun y2 p4 m2 t2 n5 => ⟨p4, _, rfl, SqL.of upd_same, fun tb ob n6 c2 d2 => ?_⟩⟩⟩
        have u2 := (same_new (o := TxO w p3 (once (D.flatMap (nmD "set")))) n4).trans ((same_new (o := .lst (y2.map V.str)) n5).trans (same_new (o := .frz ob (.tup (y2.map V.str))) n6))
        refine ⟨_, rfl, Dc, _, rfl, SqL.of (u2 _ _ (u1 _ _ e3)), by omega, fun p5 n7 => ⟨p5, _, rfl, upd_same, o3, fun y3 p6 m3 t3 n8 => ⟨p6, _, rfl, SqL.of upd_same, fun tc oc n9 c3 d3 => ?_⟩⟩⟩
        have u3 := (same_new (o := TxO w p5 (once (D.flatMap (nmD "send")))) n7).trans ((same_new (o := .lst (y3.map V.str)) n8).trans (same_new (o := .frz oc (.tup (y3.map V.str))) n9))
        refine ⟨sz (by simp), fun t G3 nt st et => ?_⟩
        exact k' t ta tb tc y1 y2 y3 G3 ((((((s1.trans sG).trans s4).trans s5).trans u1).trans u2).trans (u3.trans st)) ⟨m1, t1⟩ ⟨m2, t2⟩ ⟨m3, t3⟩ et ⟨oa, c1, d1, st _ _ (u3 _ _ (u2 _ _ upd_same))⟩ ⟨ob, c2, d2, st _ _ (u3 _ _ upd_same)⟩ ⟨oc, c3, d3, st _ _ upd_same⟩
end
end Hd

set_option Elab.async false
set_option linter.all false
set_option maxRecDepth 100000
set_option maxHeartbeats 8000000
namespace Hd
open PySem L2 Pen RG Dat KEq
abbrev vMro : List Value := [.type "ValueError", .type "Exception", .type "BaseException", .type "object"]
section
variable {P : Program} {w : World} {K : PySem.W.Frag} {mg : Str → Option Value} {base : Heap}
abbrev sI1 : Stmt := inCl (top 1) 0
theorem scI1 : FnScope ["self", "value"] ["self", "value"] (defScope sI1) := ⟨rfl, rfl, rfl, by decide +kernel, rfl, by decide +kernel, by decide +kernel⟩
theorem ok_i1 {f C : Addr} {fd : FuncData} (F : Fun K "__init__" "InvalidHandler.__init__" sI1 f fd) (T : OexC K C) (no : PySem.W.findIn K (.ref C) "value" = some none) : FnOk P w K mg base CX0 1 f fd ["self", "value"] (spIv C "value") := by
  refine F.ok scI1 (fun vs H Q E h => ?_) (fun cdv A outer s H vs Q E hr h => ?_)
  · obtain ⟨a, y, rfl, _⟩ := h
    rfl
  · obtain ⟨a, y, rfl, ha, k⟩ := h
    refine ⟨_, (pss_one (ps_ost (pv 0) (pv 1))), ?_⟩
    exact ⟨_, rfl, _, rfl, a, C, rfl, T, no, .inl ⟨ha, fun dx nd ne => k dx nd ne⟩⟩
end
end Hd

set_option Elab.async false
set_option linter.all false
set_option maxRecDepth 100000
set_option maxHeartbeats 8000000
namespace Hd
open PySem PySem.Spec L2 Pen RG Dat KEq
/-! ### dict(zip(words, words)) -/
def wordsK (xs ys : List Str) : List (Key × V) := (xs.zip ys).map fun z => (Sum.inr z.1, V.str z.2)
def tDZ (ta : TA) : TE := fun σ H Q => ta σ H fun vs H1 => ∃ (a b : Addr) (xs ys : List Str), vs = [.ref a, .ref b] ∧ H1 a = some (.lst (xs.map V.str)) ∧ H1 b = some (.lst (ys.map V.str)) ∧ xs.Nodup ∧ xs.length = ys.length ∧ xs.length ≤ 1000 ∧
  ∀ d, H1 d = none → Q (.ref d) (upd H1 d (.dK (wordsK xs ys)))
theorem str_get : ∀ {xs : List Str} {us : List Value} {i : Nat}, Vals (xs.map V.str) us → i < xs.length → ∃ x t, xs[i]? = some x ∧ us[i]? = some (.str x t)
  | x :: xs, _, 0, .cons r _, _ => by
    obtain ⟨t, rfl⟩ := r
    exact ⟨x, t, rfl, rfl⟩
  | x :: xs, _, i + 1, .cons _ rr, h => str_get (i := i) rr (by simpa using h)
theorem zip_kv : ∀ {xs ys : List Str} {us vs : List Value}, Vals (xs.map V.str) us → Vals (ys.map V.str) vs → ∃ prs : List (Key × Value), KV (wordsK xs ys) prs ∧ prs.length = min us.length vs.length ∧ ∀ (i : Nat) (k v : Value), us[i]? = some k → vs[i]? = some v → ∃ q : Key, prs[i]? = some (q, v) ∧ keyIs q k = true
  | [], ys, us, vs, r, _ => by
    cases r
    exact ⟨[], .nil, by simp, fun i k v h => by simp at h⟩
  | x :: xs, [], us, vs, _, r => by
    cases r
    exact ⟨[], .nil, by simp, fun i k v _ h => by simp at h⟩
  | x :: xs, y :: ys, _, _, .cons r rr, .cons q qq => by
    obtain ⟨prs, a, b, c⟩ := zip_kv rr qq
    obtain ⟨t, rfl⟩ := r
    refine ⟨(Sum.inr x, _) :: prs, .cons ⟨rfl, q⟩ a, by simp [b], fun i k v h1 h2 => ?_⟩
    cases i with
    | zero =>
      cases h1
      cases h2
      exact ⟨_, rfl, by simp [keyIs, Value.isStrOf]⟩
    | succ i => exact c i k v (by simpa using h1) (by simpa using h2)
theorem kv_keys {kvs : List (Key × V)} {prs : List (Key × Value)} (h : KV kvs prs) : kvs.map (·.1) = prs.map (·.1) := by
  unfold KV at h
  induction h with
  | nil => rfl
  | cons a _ ih => rw [List.map_cons, List.map_cons, ih, a.1]
theorem wordsK_nd : ∀ {xs : List Str} (ys : List Str), xs.Nodup → ((wordsK xs ys).map (·.1)).Nodup := by
  intro xs ys nd
  unfold wordsK
  rw [List.map_map]
  induction xs generalizing ys with
  | nil => simp
  | cons x xs ih =>
    cases ys with
    | nil => simp
    | cons y ys =>
      rw [List.nodup_cons] at nd
      rw [List.zip_cons_cons, List.map_cons, List.nodup_cons]
      refine ⟨fun m => nd.1 ?_, ih ys nd.2⟩
      obtain ⟨z, hz, ez⟩ := List.mem_map.mp m
      have e : z.1 = x := by
        have ez : (Sum.inr z.1 : Key) = Sum.inr x := ez
        exact Sum.inr.inj ez
      rw [← e]
      exact (List.of_mem_zip hz).1
theorem pe_dz {X : Cx} {e e2 : Expr} {ta : TA} {p p2 pos pos2 : Pos} (hc : X.calm = true) (gd : Gl X "dict") (md : X.mg "dict" = none) (hg : Gl X "zip") (hm : X.mg "zip" = none) (ha : PA X [e, e2] ta)
    (hs : starEach [e, e2] X.env = (false, eval e X.env) :: starEach [e2] X.env := by rfl) (hpl : (backTo pos (starEach [e2] X.env)).any (·.1) = false := by rfl)
    (he : starEach [.Call (.Name "zip" p) [e, e2] [] pos] X.env = (false, eval (.Call (.Name "zip" p) [e, e2] [] pos) X.env) :: starEach [] X.env := by rfl) (hp2 : (backTo pos2 (starEach [] X.env)).any (·.1) = false := by rfl) :
    PE X (.Call (.Name "dict" p2) [.Call (.Name "zip" p) [e, e2] [] pos] [] pos2) (tDZ ta) := by
  refine ⟨fun pins s σ H Q I h => ?_⟩
  refine wpAny_Call_Name_kw (ld_blt I gd md PyProof.Rows.boot_dict ?_)
  refine PyProof.Rows.callWith_type1 ?_ he hp2
  rw [he]
  show wpAny _ _ (spliced ((false, eval (.Call (.Name "zip" p) [e, e2] [] pos) X.env) :: backTo pos2 (starEach [] X.env))) _ _ s
  refine Calls.spliced_cons ?_
  refine PyProof.Rows.Call_ (ld_blt I hg hm PyProof.Rows.boot_zip (PyProof.Rows.callWith_type1 (thn (ha.run pos pins s σ H _ I h) fun us s1 ⟨vs, H1, I1, r1, q1⟩ => ?_) hs hpl))
  obtain ⟨a, b, xs, ys, ex, ea, eb, nd, ll, l1k, q⟩ := q1
  subst ex
  cases r1 with
  | cons r rr =>
    cases rr with
    | cons r' rr =>
      cases rr
      cases r
      cases r'
      obtain ⟨its, rv, p1, _⟩ := I1.list (SqL.of ea)
      obtain ⟨its2, rv2, p2', _⟩ := I1.list (SqL.of eb)
      refine call_zip_2 p1.isList p2'.isList fun h' hz hTI hTO h1 h2 hsz hk => ?_
      refine Calls.spliced_nil ?_
      obtain ⟨prs, kv, lp, get⟩ := zip_kv rv rv2
      have i2 : ∀ i k v, its.toArray[i]? = some k ∧ its2.toArray[i]? = some v → ∃ q, prs[i]? = some (q, v) ∧ (mixKind X.prog X.w).is q k = true := fun i k v ⟨a1, a2⟩ => get i k v (by simpa using a1) (by simpa using a2)
      have l2 := rv.length
      have l3 := rv2.length
      rw [List.length_map] at l2 l3
      have big : (1000 : Nat) ≤ sizeLine := by decide
      refine PySem.call_dict_pairs (knd := mixKind X.prog X.w) (kvs := prs) (PySem.PairArg.zip (s1.heap.objs.size + 4) (s1.heap.objs.size + 2) (s1.heap.objs.size + 3) s1.heap.objs.size (s1.heap.objs.size + 1) a b (PySem.W.ktu_apart s1.heap.objs.size a b p1.lt p2'.lt) its.toArray its2.toArray) (I1.ok.hd hc) ⟨hz, hTI, ⟨_, _, hTO⟩, h1, h2, p1.isList.at fun o z => hk _ o z, p2'.isList.at fun o z => hk _ o z⟩ ⟨by simp [lp], i2⟩ (by simp; omega) fun h'' tk dd keep => ?_
      have le : s1.heap.objs.size ≤ h'.objs.size := by omega
      have kk : ∀ b o, s1.heap.get? b = some o → h''.get? b = some o := fun b o z => keep b o (fun m => by
        have lt := Heap.lt_size z
        simp only [List.mem_cons, List.not_mem_nil, or_false] at m
        rcases m with m | m | m | m
        all_goals rw [m] at lt
        · exact Nat.not_lt.mpr (Nat.le_add_right _ _) lt
        · exact Nat.not_lt.mpr (Nat.le_add_right _ _) lt
        · exact Nat.lt_irrefl _ lt
        · exact Nat.not_lt.mpr (Nat.le_add_right _ _) lt) (hk _ _ z)
      have nm : (h'.objs.size == sysModules) = false := beq_eq_false_iff_ne.mpr (Nat.ne_of_gt (Nat.lt_of_lt_of_le I1.big le))
      have ndp : (prs.map (·.1)).Nodup := by rw [← kv_keys kv]; exact wordsK_nd ys nd
      rw [merged_nil_of_nodup prs ndp] at dd
      have len : (wordsK xs ys).length ≤ sizeLine := by
        unfold wordsK
        rw [List.length_map, List.length_zip]
        omega
      exact ⟨.ref h'.objs.size, upd H1 h'.objs.size (.dK (wordsK xs ys)), I1.laid (t' := tk) kk le ⟨len, nm, prs, kv, dd⟩, rfl, q _ (I1.hok.fresh le)⟩
end Hd

set_option Elab.async false
set_option linter.all false
set_option maxRecDepth 100000
set_option maxHeartbeats 8000000
namespace Hd
open PySem L2 Pen RG Dat KEq TxS
/-! ### tables, by their values -/
def vl (t : List (Z × Int)) (z : Z) : Int := (lk t z).getD 0
theorem lk_put : ∀ (t : List (Z × Int)) (z z' : Z) (v : Int), lk (tput t z v) z' = if z = z' then some v else lk t z'
  | [], z, z', v => rfl
  | e :: t, z, z', v => by
    by_cases h : e.1 = z
    · have a : tput (e :: t) z v = (z, v) :: t := if_pos h
      rw [a]
      show (if z = z' then some v else lk t z') = if z = z' then some v else if e.1 = z' then some e.2 else lk t z'
      by_cases q : z = z'
      · rw [if_pos q, if_pos q]
      · rw [if_neg q, if_neg q, if_neg (fun y => q (h.symm.trans y))]
    · have a : tput (e :: t) z v = e :: tput t z v := if_neg h
      rw [a]
      show (if e.1 = z' then some e.2 else lk (tput t z v) z') = if z = z' then some v else if e.1 = z' then some e.2 else lk t z'
      rw [lk_put t z z' v]
      by_cases q : z = z'
      · rw [if_pos q, if_neg (fun y => h (y.trans q.symm)), if_pos q]
      · rw [if_neg q, if_neg q]
theorem vl_put (t : List (Z × Int)) (z z' : Z) (v : Int) : vl (tput t z v) z' = if z = z' then v else vl t z' := by
  unfold vl
  rw [lk_put]
  split <;> rfl
/-! ### what a run looks at -/
def Ag (R : List Str) (key : Str) (t u : List (Z × Int)) : Prop := ∀ n ∈ R, vl t (n, key) = vl u (n, key)
theorem Ag.put {R : List Str} {key : Str} {t u : List (Z × Int)} (x : Ag R key t u) (z : Z) (v : Int) : Ag R key (tput t z v) (tput u z v) := by
  intro n hn
  rw [vl_put, vl_put, x n hn]
theorem rn_row (z : Str) : rn (.tuple [.str tR, .str z]) = [z] := by
  show (if tR = "row" then [z] else rnAll [.str z]) = _
  rw [if_pos (by decide +kernel)]
theorem rn_two {z : Str} {a b : PyData} (hz : ¬ z = "row") : rn (.tuple [.str z, a, b]) = rn a ++ rn b := by
  show (if z = "row" then _ else rn a ++ (rn b ++ [])) = _
  rw [if_neg hz, List.append_nil]
theorem rn_one {z : Str} {a : PyData} (hz : ¬ z = "row") : rn (.tuple [.str z, a]) = rn a := by
  show (if z = "row" then _ else rn a ++ []) = _
  rw [if_neg hz, List.append_nil]
theorem ev_val {t : List (Z × Int)} {key : Str} {body i : Int} {n : Nat} : evE t key body (n + 1) (.tuple [.str tV, .int i]) = i := by
  have e : isS (.str tV) tV = true := by decide +kernel
  show (if isS (.str tV) tV = true then i else _) = i
  rw [if_pos e]
theorem ev_body {t : List (Z × Int)} {key : Str} {body : Int} {n : Nat} : evE t key body (n + 1) (.tuple [.str tB']) = body := by
  have e : ¬ isS (.str tB') tV = true := by decide +kernel
  have e2 : isS (.str tB') tB' = true := by decide +kernel
  show (if isS (.str tB') tV = true then _ else if isS (.str tB') tB' = true then body else _) = body
  rw [if_neg e, if_pos e2]
theorem ev_row {t : List (Z × Int)} {key z : Str} {body : Int} {n : Nat} : evE t key body (n + 1) (.tuple [.str tR, .str z]) = vl t (z, key) := by
  have e : ¬ isS (.str tR) tV = true := by decide +kernel
  have e2 : ¬ isS (.str tR) tB' = true := by decide +kernel
  have e3 : isS (.str tR) tR = true := by decide +kernel
  show (if isS (.str tR) tV = true then _ else if isS (.str tR) tB' = true then _ else if isS (.str tR) tR = true then (lk t (z, key)).getD 0 else _) = _
  rw [if_neg e, if_neg e2, if_pos e3]
  rfl
theorem ops_heads {z : Str} (hz : z ∈ ops) : (¬ isS (.str z) tV = true) ∧ (¬ isS (.str z) tB' = true) ∧ (¬ isS (.str z) tR = true) := by
  simp only [ops, List.mem_cons, List.not_mem_nil, or_false] at hz
  rcases hz with e | e | e <;> subst e <;> decide +kernel
theorem ev_op {t : List (Z × Int)} {key z : Str} {body : Int} {n : Nat} {a b : PyData} (hz : z ∈ ops) : evE t key body (n + 1) (.tuple [.str z, a, b]) = cl (opE (.str z) (evE t key body n a) (evE t key body n b)) := by
  obtain ⟨e, e2, e3⟩ := ops_heads hz
  show (if isS (.str z) tV = true then _ else if isS (.str z) tB' = true then body else if isS (.str z) tR = true then _ else cl (opE (.str z) (evE t key body n a) (evE t key body n b))) = _
  rw [if_neg e, if_neg e2, if_neg e3]
theorem ev_ag {R : List Str} {key : Str} {body : Int} {t u : List (Z × Int)} (x : Ag R key t u) : ∀ (n : Nat) (d : PyData), isE n d = true → (∀ y ∈ rn d, y ∈ R) → evE t key body n d = evE u key body n d
  | n, d, h, m => by
    obtain ⟨k, hd, tl, e, rfl, q⟩ := e_cases h
    subst e
    rcases q with ⟨h1, i, rfl, i0, i1⟩ | ⟨_, h1, rfl⟩ | ⟨_, _, h1, z, rfl, wz⟩ | ⟨_, _, _, h1, a, b, rfl, ea, eb⟩
    · rw [isS_is h1, ev_val, ev_val]
    · rw [isS_is h1, ev_body, ev_body]
    · rw [isS_is h1] at m ⊢
      rw [ev_row, ev_row]
      exact x z (m z (by rw [rn_row]; exact List.mem_cons_self))
    · obtain ⟨z, m1, m2⟩ := List.any_eq_true.mp h1
      rw [isS_is m2] at m ⊢
      rw [rn_two (ops_row m1)] at m
      rw [ev_op m1, ev_op m1, ev_ag x k a ea (fun y hy => m y (List.mem_append_left _ hy)), ev_ag x k b eb (fun y hy => m y (List.mem_append_right _ hy))]
theorem ec_cmp {t : List (Z × Int)} {key z : Str} {body : Int} {n : Nat} {a b : PyData} (hz : z = "<" ∨ z = "=") : evC t key body (n + 1) (.tuple [.str z, a, b]) = if z = "<" then decide (evE t key body 6 a < evE t key body 6 b) else decide (evE t key body 6 a = evE t key body 6 b) := by
  rcases hz with e | e <;> subst e
  · show (if isS (.str "<") "and" = true then _ else if isS (.str "<") "or" = true then _ else if isS (.str "<") "<" = true then _ else _) = _
    rw [if_neg (by decide +kernel), if_neg (by decide +kernel), if_pos (by decide +kernel), if_pos rfl]
  · show (if isS (.str "=") "and" = true then _ else if isS (.str "=") "or" = true then _ else if isS (.str "=") "<" = true then _ else _) = _
    rw [if_neg (by decide +kernel), if_neg (by decide +kernel), if_neg (by decide +kernel), if_neg (by decide +kernel)]
theorem ec_not {t : List (Z × Int)} {key : Str} {body : Int} {n : Nat} {a : PyData} : evC t key body (n + 1) (.tuple [.str "not", a]) = !evC t key body n a := rfl
theorem ec_op {t : List (Z × Int)} {key z : Str} {body : Int} {n : Nat} {a b : PyData} (hz : z = "and" ∨ z = "or") : evC t key body (n + 1) (.tuple [.str z, a, b]) = if z = "and" then evC t key body n a && evC t key body n b else evC t key body n a || evC t key body n b := by
  rcases hz with e | e <;> subst e
  · show (if isS (.str "and") "and" = true then _ else _) = _
    rw [if_pos (by decide +kernel), if_pos rfl]
  · show (if isS (.str "or") "and" = true then _ else if isS (.str "or") "or" = true then _ else _) = _
    rw [if_neg (by decide +kernel), if_pos (by decide +kernel), if_neg (by decide +kernel)]
theorem cmp_row {z : Str} (hz : z = "<" ∨ z = "=") : ¬ z = "row" := by rcases hz with rfl | rfl <;> decide +kernel
theorem and_row {z : Str} (hz : z = "and" ∨ z = "or") : ¬ z = "row" := by rcases hz with rfl | rfl <;> decide +kernel
theorem ec_ag {R : List Str} {key : Str} {body : Int} {t u : List (Z × Int)} (x : Ag R key t u) : ∀ (n : Nat) (d : PyData), isC n d = true → (∀ y ∈ rn d, y ∈ R) → evC t key body n d = evC u key body n d
  | n, d, h, m => by
    obtain ⟨k, e, q⟩ := c_cases h
    subst e
    rcases q with ⟨z, a, b, hz, rfl, ea, eb⟩ | ⟨a, rfl, ca⟩ | ⟨z, a, b, hz, rfl, ca, cb⟩
    · rw [rn_two (cmp_row hz)] at m
      rw [ec_cmp hz, ec_cmp hz, ev_ag x 6 a ea (fun y hy => m y (List.mem_append_left _ hy)), ev_ag x 6 b eb (fun y hy => m y (List.mem_append_right _ hy))]
    · rw [rn_one (by decide +kernel)] at m
      rw [ec_not, ec_not, ec_ag x k a ca m]
    · rw [rn_two (and_row hz)] at m
      rw [ec_op hz, ec_op hz, ec_ag x k a ca (fun y hy => m y (List.mem_append_left _ hy)), ec_ag x k b cb (fun y hy => m y (List.mem_append_right _ hy))]
/-- two runs' states that look alike -/
structure Alike (R : List Str) (key : Str) (s u : Sta) : Prop where
  ag : Ag R key s.t u.t
  ss : s.ss = u.ss
def runP (R : List Str) (key : Str) (f : PyData → Sta → Bool × Sta) (d : PyData) : Prop := ∀ s u, Alike R key s u → (f d s).1 = (f d u).1 ∧ Alike R key (f d s).2 (f d u).2
theorem runAll_ag {R : List Str} {key : Str} {f : PyData → Sta → Bool × Sta} : ∀ {ds : List PyData}, (∀ d ∈ ds, runP R key f d) → ∀ s u, Alike R key s u → (runAll f ds s).1 = (runAll f ds u).1 ∧ Alike R key (runAll f ds s).2 (runAll f ds u).2
  | [], _, s, u, a => ⟨rfl, a⟩
  | d :: ds, h, s, u, a => by
    obtain ⟨e1, a1⟩ := h d List.mem_cons_self s u a
    show (if (f d s).1 = true then runAll f ds (f d s).2 else f d s).1 = (if (f d u).1 = true then runAll f ds (f d u).2 else f d u).1 ∧ Alike R key (if (f d s).1 = true then runAll f ds (f d s).2 else f d s).2 (if (f d u).1 = true then runAll f ds (f d u).2 else f d u).2
    rw [← e1]
    by_cases q : (f d s).1 = true
    · rw [if_pos q, if_pos q]
      exact runAll_ag (fun d hd => h d (List.mem_cons_of_mem _ hd)) _ _ a1
    · rw [if_neg q, if_neg q]
      exact ⟨e1, a1⟩
theorem allF_mem {g : List PyData → List PyData} {d x : PyData} : ∀ {ds : List PyData}, d ∈ ds → x ∈ d :: subs g d → x ∈ allF g ds
  | e :: ds, h, hx => by
    rcases List.mem_cons.mp h with e' | h
    · subst e'
      exact List.mem_append_left _ hx
    · exact List.mem_append_right _ (allF_mem h hx)
theorem room_mem {f : PyData → Nat → Option Nat} {d : PyData} : ∀ {ds : List PyData} {r r' : Nat}, roomAll f ds r = some r' → d ∈ ds → ∃ r1 r2, f d r1 = some r2
  | e :: ds, 0, _, h, _ => by cases h
  | e :: ds, r + 1, r', h, m => by
    have h : (f e r).bind (roomAll f ds) = some r' := h
    obtain ⟨r1, a, b⟩ := Option.bind_eq_some_iff.mp h
    rcases List.mem_cons.mp m with e' | m
    · subst e'
      exact ⟨r, r1, a⟩
    · exact room_mem b m
theorem run_ag {R : List Str} {key : Str} {body : Int} : ∀ (i : Nat) (ds : List PyData) (r r' : Nat), roomAll (deedR i) ds r = some r' → (∀ x ∈ (allD i ds).flatMap rdD, x ∈ R) → ∀ d ∈ ds, runP R key (deedE key body i) d := by
  intro i
  induction i with
  | zero =>
    intro ds r r' h m d hd s u a
    obtain ⟨r1, r2, dd⟩ := room_mem h hd
    have md : ∀ x ∈ rdD d, x ∈ R := fun x hx => m x (List.mem_flatMap.mpr ⟨d, allF_mem hd List.mem_cons_self, hx⟩)
    rcases deed_cases dd with ⟨rfl, e⟩ | ⟨n, y, rfl, wn, ye, e⟩ | ⟨n, k, y, rfl, wn, hk, ye, e⟩ | ⟨j, c, as, bs, r3, ej, _⟩
    · exact ⟨rfl, a⟩
    · have my : ∀ x ∈ rn y, x ∈ R := fun x hx => md x (by unfold rdD; exact List.mem_flatMap.mpr ⟨y, List.mem_singleton.mpr rfl, hx⟩)
      rw [deed_set1, deed_set1, ev_ag a.ag 6 y ye my]
      exact ⟨rfl, a.ag.put _ _, a.ss⟩
    · have t1 : treesOf (.tuple [.str "send", .str n, k, y]) = [y] := treesOf_four.trans (if_neg (by decide +kernel))
      have my : ∀ x ∈ rn y, x ∈ R := fun x hx => md x (by unfold rdD; rw [t1]; exact List.mem_flatMap.mpr ⟨y, List.mem_singleton.mpr rfl, hx⟩)
      rw [deed_send1, deed_send1, ev_ag a.ag 6 y ye my, a.ss]
      exact ⟨rfl, a.ag, rfl⟩
    · cases ej
  | succ i ih =>
    intro ds r r' h m d hd s u a
    obtain ⟨r1, r2, dd⟩ := room_mem h hd
    have all : ∀ x ∈ (d :: subs (allD i) d).flatMap rdD, x ∈ R := by
      intro x hx
      obtain ⟨e, he, hx⟩ := List.mem_flatMap.mp hx
      exact m x (List.mem_flatMap.mpr ⟨e, allF_mem hd he, hx⟩)
    have md : ∀ x ∈ rdD d, x ∈ R := fun x hx => all x (by rw [List.flatMap_cons]; exact List.mem_append_left _ hx)
    rcases deed_cases dd with ⟨rfl, e⟩ | ⟨n, y, rfl, wn, ye, e⟩ | ⟨n, k, y, rfl, wn, hk, ye, e⟩ | ⟨j, c, as, bs, r3, ej, rfl, yc, ha, hb⟩
    · exact ⟨rfl, a⟩
    · have my : ∀ x ∈ rn y, x ∈ R := fun x hx => md x (by unfold rdD; exact List.mem_flatMap.mpr ⟨y, List.mem_singleton.mpr rfl, hx⟩)
      rw [deed_set1, deed_set1, ev_ag a.ag 6 y ye my]
      exact ⟨rfl, a.ag.put _ _, a.ss⟩
    · have t1 : treesOf (.tuple [.str "send", .str n, k, y]) = [y] := treesOf_four.trans (if_neg (by decide +kernel))
      have my : ∀ x ∈ rn y, x ∈ R := fun x hx => md x (by unfold rdD; rw [t1]; exact List.mem_flatMap.mpr ⟨y, List.mem_singleton.mpr rfl, hx⟩)
      rw [deed_send1, deed_send1, ev_ag a.ag 6 y ye my, a.ss]
      exact ⟨rfl, a.ag, rfl⟩
    · cases ej
      have t1 : treesOf (.tuple [.str "if", c, .tuple as, .tuple bs]) = [c] := treesOf_four.trans (if_pos (by decide +kernel))
      have z : subs (allD i) (.tuple [.str "if", c, .tuple as, .tuple bs]) = allD i as ++ allD i bs := subs_four.trans (if_pos (by decide +kernel))
      have mc : ∀ x ∈ rn c, x ∈ R := fun x hx => md x (by unfold rdD; rw [t1]; exact List.mem_flatMap.mpr ⟨c, List.mem_singleton.mpr rfl, hx⟩)
      rw [z, List.flatMap_cons, List.flatMap_append] at all
      have ma := fun x hx => all x (List.mem_append_right _ (List.mem_append_left _ hx))
      have mb := fun x hx => all x (List.mem_append_right _ (List.mem_append_right _ hx))
      rw [deed_if1, deed_if1, ec_ag a.ag 6 c yc mc]
      by_cases q : evC u.t key body 6 c = true
      · rw [if_pos q]
        exact runAll_ag (ih as _ _ ha ma) s u a
      · rw [if_neg q]
        exact runAll_ag (ih bs _ _ hb mb) s u a
/-- a run on tables that are alike where it reads -/
theorem run_alike {R : List Str} {key : Str} {body : Int} {ds : List PyData} {r r' : Nat} (h : roomAll (deedR 3) ds r = some r') (m : ∀ x ∈ readsOf ds, x ∈ R) {t u : List (Z × Int)} (a : Ag R key t u) :
    (runAll (deedE key body 3) ds ⟨t, []⟩).1 = (runAll (deedE key body 3) ds ⟨u, []⟩).1 ∧ (runAll (deedE key body 3) ds ⟨t, []⟩).2.ss = (runAll (deedE key body 3) ds ⟨u, []⟩).2.ss := by
  obtain ⟨e, q⟩ := runAll_ag (run_ag 3 ds r r' h m) ⟨t, []⟩ ⟨u, []⟩ ⟨a, rfl⟩
  exact ⟨e, q.ss⟩
/-! ### what a run changes and sends -/
structure Kept (W : List Str) (S : List Str) (key : Str) (s u : Sta) : Prop where
  t : ∀ n k, (k ≠ key ∨ n ∉ W) → vl u.t (n, k) = vl s.t (n, k)
  ss : ∀ e ∈ u.ss, e ∈ s.ss ∨ e.1 ∈ S
theorem Kept.refl {W S : List Str} {key : Str} {s : Sta} : Kept W S key s s := ⟨fun _ _ _ => rfl, fun _ h => .inl h⟩
theorem Kept.trans {W S : List Str} {key : Str} {s u v : Sta} (a : Kept W S key s u) (b : Kept W S key u v) : Kept W S key s v := by
  refine ⟨fun n k h => (b.t n k h).trans (a.t n k h), fun e he => ?_⟩
  rcases b.ss e he with h | h
  · exact a.ss e h
  · exact .inr h
theorem runAll_kept {W S : List Str} {key : Str} {f : PyData → Sta → Bool × Sta} : ∀ {ds : List PyData}, (∀ d ∈ ds, ∀ s, Kept W S key s (f d s).2) → ∀ s, Kept W S key s (runAll f ds s).2
  | [], _, s => .refl
  | d :: ds, h, s => by
    have a := h d List.mem_cons_self s
    show Kept W S key s (if (f d s).1 = true then runAll f ds (f d s).2 else f d s).2
    split
    · exact a.trans (runAll_kept (fun d hd => h d (List.mem_cons_of_mem _ hd)) _)
    · exact a
theorem kept_set {W S : List Str} {key n : Str} {s : Sta} {v : Int} (h : n ∈ W) : Kept W S key s ⟨tput s.t (n, key) v, s.ss⟩ := by
  refine ⟨fun m k q => ?_, fun e he => .inl he⟩
  show vl (tput s.t (n, key) v) (m, k) = _
  rw [vl_put]
  refine if_neg fun y => ?_
  injection y with y1 y2
  rcases q with q | q
  · exact q y2.symm
  · exact q (y1 ▸ h)
theorem kept_send {W S : List Str} {key n k : Str} {s : Sta} {v : Int} (h : n ∈ S) : Kept W S key s ⟨s.t, s.ss ++ [(n, k, v)]⟩ := by
  refine ⟨fun _ _ _ => rfl, fun e he => ?_⟩
  rcases List.mem_append.mp he with m | m
  · exact .inl m
  · rw [List.mem_singleton.mp m]
    exact .inr h
theorem run_kp {W S : List Str} {key : Str} {body : Int} : ∀ (i : Nat) (ds : List PyData) (r r' : Nat), roomAll (deedR i) ds r = some r' → (∀ x ∈ (allD i ds).flatMap (nmD "set"), x ∈ W) → (∀ x ∈ (allD i ds).flatMap (nmD "send"), x ∈ S) → ∀ d ∈ ds, ∀ s, Kept W S key s (deedE key body i d s).2 := by
  intro i
  induction i with
  | zero =>
    intro ds r r' h mw ms d hd s
    obtain ⟨r1, r2, dd⟩ := room_mem h hd
    have mdw : ∀ x ∈ nmD "set" d, x ∈ W := fun x hx => mw x (List.mem_flatMap.mpr ⟨d, allF_mem hd List.mem_cons_self, hx⟩)
    have mds : ∀ x ∈ nmD "send" d, x ∈ S := fun x hx => ms x (List.mem_flatMap.mpr ⟨d, allF_mem hd List.mem_cons_self, hx⟩)
    rcases deed_cases dd with ⟨rfl, e⟩ | ⟨n, y, rfl, wn, ye, e⟩ | ⟨n, k, y, rfl, wn, hk, ye, e⟩ | ⟨j, c, as, bs, r3, ej, _⟩
    · exact .refl
    · rw [deed_set1]
      exact kept_set (mdw n (by rw [nm_two, if_pos (by decide +kernel)]; exact List.mem_cons_self))
    · rw [deed_send1]
      exact kept_send (mds n (by rw [nm_two, if_pos (by decide +kernel)]; exact List.mem_cons_self))
    · cases ej
  | succ i ih =>
    intro ds r r' h mw ms d hd s
    obtain ⟨r1, r2, dd⟩ := room_mem h hd
    have allw : ∀ x ∈ (d :: subs (allD i) d).flatMap (nmD "set"), x ∈ W := by
      intro x hx
      obtain ⟨e, he, hx⟩ := List.mem_flatMap.mp hx
      exact mw x (List.mem_flatMap.mpr ⟨e, allF_mem hd he, hx⟩)
    have alls : ∀ x ∈ (d :: subs (allD i) d).flatMap (nmD "send"), x ∈ S := by
      intro x hx
      obtain ⟨e, he, hx⟩ := List.mem_flatMap.mp hx
      exact ms x (List.mem_flatMap.mpr ⟨e, allF_mem hd he, hx⟩)
    have mdw : ∀ x ∈ nmD "set" d, x ∈ W := fun x hx => allw x (by rw [List.flatMap_cons]; exact List.mem_append_left _ hx)
    have mds : ∀ x ∈ nmD "send" d, x ∈ S := fun x hx => alls x (by rw [List.flatMap_cons]; exact List.mem_append_left _ hx)
    rcases deed_cases dd with ⟨rfl, e⟩ | ⟨n, y, rfl, wn, ye, e⟩ | ⟨n, k, y, rfl, wn, hk, ye, e⟩ | ⟨j, c, as, bs, r3, ej, rfl, yc, ha, hb⟩
    · exact .refl
    · rw [deed_set1]
      exact kept_set (mdw n (by rw [nm_two, if_pos (by decide +kernel)]; exact List.mem_cons_self))
    · rw [deed_send1]
      exact kept_send (mds n (by rw [nm_two, if_pos (by decide +kernel)]; exact List.mem_cons_self))
    · cases ej
      have z : subs (allD i) (.tuple [.str "if", c, .tuple as, .tuple bs]) = allD i as ++ allD i bs := subs_four.trans (if_pos (by decide +kernel))
      rw [z, List.flatMap_cons, List.flatMap_append] at allw alls
      rw [deed_if1]
      by_cases q : evC s.t key body 6 c = true
      · rw [if_pos q]
        exact runAll_kept (ih as _ _ ha (fun x hx => allw x (List.mem_append_right _ (List.mem_append_left _ hx))) (fun x hx => alls x (List.mem_append_right _ (List.mem_append_left _ hx)))) s
      · rw [if_neg q]
        exact runAll_kept (ih bs _ _ hb (fun x hx => allw x (List.mem_append_right _ (List.mem_append_right _ hx))) (fun x hx => alls x (List.mem_append_right _ (List.mem_append_right _ hx)))) s
theorem run_kept {key : Str} {body : Int} {ds : List PyData} {r r' : Nat} (h : roomAll (deedR 3) ds r = some r') (L : List (Z × Int)) : Kept (namesOf "set" ds) (namesOf "send" ds) key ⟨L, []⟩ (runAll (deedE key body 3) ds ⟨L, []⟩).2 :=
  runAll_kept (run_kp 3 ds r r' h (fun _ h => h) (fun _ h => h)) _
end Hd

set_option Elab.async false
set_option linter.all false
set_option maxRecDepth 100000
set_option maxHeartbeats 8000000
namespace Hd
open PySem L2 Pen RG Dat KEq TxS
/-! ### a handler with other words -/
def isRS (z : Str) : Bool := z == "row" || z == "set"
def isVB (z : Str) : Bool := z == "value" || (z == "body" || z == "fail")
def renK (g : Str → Str) : PyData → PyData
  | .str y => .str (g y)
  | d => d
mutual
def ren (f g h : Str → Str) : PyData → PyData
  | .tuple ds => .tuple (renT f g h ds)
  | d => d
def renT (f g h : Str → Str) : List PyData → List PyData
  | .str z :: t => if isVB z = true then .str z :: t else if isRS z = true then .str z :: renF f g h t else if (z == "send") = true then .str z :: renS f g h t else .str z :: renA f g h t
  | d :: t => ren f g h d :: renA f g h t
  | [] => []
def renF (f g h : Str → Str) : List PyData → List PyData
  | .str x :: t => .str (f x) :: renA f g h t
  | t => t
def renS (f g h : Str → Str) : List PyData → List PyData
  | [.str k, y, e] => [.str (h k), renK g y, ren f g h e]
  | t => t
def renA (f g h : Str → Str) : List PyData → List PyData
  | [] => []
  | d :: t => ren f g h d :: renA f g h t
end
section
variable {f g h : Str → Str}
theorem ren_tup (ds : List PyData) : ren f g h (.tuple ds) = .tuple (renT f g h ds) := by simp only [ren]
theorem ren_vb {z : Str} {t : List PyData} (e : isVB z = true) : ren f g h (.tuple (.str z :: t)) = .tuple (.str z :: t) := by
  rw [ren_tup]
  simp only [renT, e, ↓reduceIte]
theorem ren_rs {z x : Str} {t : List PyData} (e : isVB z = false) (e2 : isRS z = true) : ren f g h (.tuple (.str z :: .str x :: t)) = .tuple (.str z :: .str (f x) :: renA f g h t) := by
  rw [ren_tup]
  simp only [renT, renF, e, e2, ↓reduceIte, Bool.false_eq_true]
theorem ren_send {k : Str} {y e : PyData} : ren f g h (.tuple [.str "send", .str k, y, e]) = .tuple [.str "send", .str (h k), renK g y, ren f g h e] := by
  have e1 : isVB "send" = false := by decide +kernel
  have e2 : isRS "send" = false := by decide +kernel
  have e3 : (("send" : Str) == "send") = true := by decide +kernel
  rw [ren_tup]
  simp only [renT, renS, e1, e2, e3, ↓reduceIte, Bool.false_eq_true]
theorem ren_other {z : Str} {t : List PyData} (e : isVB z = false) (e2 : isRS z = false) (e3 : (z == "send") = false) : ren f g h (.tuple (.str z :: t)) = .tuple (.str z :: renA f g h t) := by
  rw [ren_tup]
  simp only [renT, e, e2, e3, ↓reduceIte, Bool.false_eq_true]
theorem renA_cons (d : PyData) (t : List PyData) : renA f g h (d :: t) = ren f g h d :: renA f g h t := by simp only [renA]
theorem renA_nil : renA f g h [] = [] := by simp only [renA]
theorem renT_tups {ds : List PyData} (e : ∀ z t, ds ≠ .str z :: t) : renT f g h ds = renA f g h ds := by
  cases ds with
  | nil => simp only [renT, renA]
  | cons d t =>
    cases d with
    | str z => exact absurd rfl (e z t)
    | _ => simp only [renT, renA]
theorem renA_len : ∀ ds : List PyData, (renA f g h ds).length = ds.length
  | [] => by rw [renA_nil]
  | d :: ds => by rw [renA_cons, List.length_cons, List.length_cons, renA_len ds]
theorem renA_take {d : PyData} : ∀ {ds : List PyData} {i : Nat}, ds[i]? = some d → renA f g h (ds.take (i + 1)) = renA f g h (ds.take i) ++ [ren f g h d]
  | [], _, e => by simp at e
  | x :: ds, 0, e => by
    have q : x = d := by simpa using e
    subst q
    rw [List.take_succ_cons, List.take_zero, List.take_zero, renA_cons, renA_nil]
    rfl
  | x :: ds, i + 1, e => by
    have ih := renA_take (ds := ds) (i := i) (by simpa using e)
    rw [List.take_succ_cons, List.take_succ_cons, renA_cons, renA_cons, ih]
    rfl
end
theorem ops_vb {z : Str} (hz : z ∈ ops) : isVB z = false ∧ isRS z = false ∧ (z == "send") = false := by
  simp only [ops, List.mem_cons, List.not_mem_nil, or_false] at hz
  rcases hz with e | e | e <;> subst e <;> decide +kernel
/-- tables that are alike, with other words -/
structure Sim (A B : List Str) (f g : Str → Str) (t u : List (Z × Int)) : Prop where
  v : ∀ n ∈ A, ∀ k ∈ B, vl u (f n, g k) = vl t (n, k)
  ku : ∀ e ∈ u, ∃ n ∈ A, ∃ k ∈ B, e.1 = (f n, g k)
  kt : ∀ e ∈ t, e.1.1 ∈ A ∧ e.1.2 ∈ B
/-- one-one on a list -/
def OneOn (A : List Str) (f : Str → Str) : Prop := ∀ a ∈ A, ∀ b ∈ A, f a = f b → a = b
theorem tput_mem {z : Z} {v : Int} {e : Z × Int} : ∀ {t : List (Z × Int)}, e ∈ tput t z v → e = (z, v) ∨ e ∈ t
  | [], h => .inl (List.mem_singleton.mp h)
  | x :: t, h => by
    have h : e ∈ (if x.1 = z then (z, v) :: t else x :: tput t z v) := h
    split at h
    · rcases List.mem_cons.mp h with q | q
      · exact .inl q
      · exact .inr (List.mem_cons_of_mem _ q)
    · rcases List.mem_cons.mp h with q | q
      · exact .inr (q ▸ List.mem_cons_self)
      · rcases tput_mem q with q | q
        · exact .inl q
        · exact .inr (List.mem_cons_of_mem _ q)
theorem Sim.put {A B : List Str} {f g : Str → Str} {t u : List (Z × Int)} {n key : Str} (x : Sim A B f g t u) (of : OneOn A f) (og : OneOn B g) (hn : n ∈ A) (hk : key ∈ B) (v : Int) : Sim A B f g (tput t (n, key) v) (tput u (f n, g key) v) := by
  refine ⟨fun m hm k hk' => ?_, fun e he => ?_, fun e he => ?_⟩
  · rw [vl_put, vl_put]
    by_cases q : (n, key) = (m, k)
    · injection q with q1 q2
      subst q1
      subst q2
      rw [if_pos rfl, if_pos rfl]
    · rw [if_neg q, if_neg fun y => q (by
        injection y with y1 y2
        rw [of n hn m hm y1, og key hk k hk' y2]), x.v m hm k hk']
  · rcases tput_mem he with e1 | e1
    · rw [e1]
      exact ⟨n, hn, key, hk, rfl⟩
    · exact x.ku e e1
  · rcases tput_mem he with e1 | e1
    · rw [e1]
      exact ⟨hn, hk⟩
    · exact x.kt e e1
section
variable {A B C : List Str} {f g h : Str → Str}
/-- an expression with other words: one as well, and worth the same -/
theorem re_e (wf : ∀ x ∈ A, isWord (.str (f x)) = true) : ∀ (n : Nat) (d : PyData), isE n d = true → (∀ y ∈ rn d, y ∈ A) → isE n (ren f g h d) = true ∧ ∀ (t u : List (Z × Int)) (key : Str) (body : Int), key ∈ B → Sim A B f g t u → evE u (g key) body n (ren f g h d) = evE t key body n d
  | n, d, hd0, m => by
    obtain ⟨k, hd, tl, e, rfl, q⟩ := e_cases hd0
    subst e
    rcases q with ⟨h1, i, rfl, i0, i1⟩ | ⟨_, h1, rfl⟩ | ⟨_, _, h1, z, rfl, wz⟩ | ⟨_, _, _, h1, a, b, rfl, ea, eb⟩
    · rw [isS_is h1, ren_vb (by decide +kernel)]
      refine ⟨gI.val i0 i1 _ (by omega) (by omega), fun t u key body hk s => ?_⟩
      rw [ev_val, ev_val]
    · rw [isS_is h1, ren_vb (by decide +kernel)]
      refine ⟨gI.body _ (by omega) (by omega), fun t u key body hk s => ?_⟩
      rw [ev_body, ev_body]
    · rw [isS_is h1] at m ⊢
      have hz : z ∈ A := m z (by rw [rn_row]; exact List.mem_cons_self)
      rw [ren_rs (by decide +kernel) (by decide +kernel), renA_nil]
      refine ⟨gI.row (wf z hz) _ (by omega) (by omega), fun t u key body hk s => ?_⟩
      rw [ev_row, ev_row]
      exact s.v z hz key hk
    · obtain ⟨z, m1, m2⟩ := List.any_eq_true.mp h1
      rw [isS_is m2] at m ⊢
      rw [rn_two (ops_row m1)] at m
      obtain ⟨e1, e2, e3⟩ := ops_vb m1
      rw [ren_other e1 e2 e3, renA_cons, renA_cons, renA_nil]
      obtain ⟨a1, a2⟩ := re_e wf k a ea (fun y hy => m y (List.mem_append_left _ hy))
      obtain ⟨b1, b2⟩ := re_e wf k b eb (fun y hy => m y (List.mem_append_right _ hy))
      refine ⟨?_, fun t u key body hk s => ?_⟩
      · have q : (¬ isS (.str z) tV = true) ∧ (¬ isS (.str z) tB' = true) ∧ (¬ isS (.str z) tR = true) := ops_heads m1
        have q4 : (ops.any fun y => isS (.str z) y) = true := List.any_eq_true.mpr ⟨z, m1, beq_self_eq_true z⟩
        show (if isS (.str z) tV = true then _ else if isS (.str z) tB' = true then _ else if isS (.str z) tR = true then _ else if (ops.any fun y => isS (.str z) y) = true then isE k (ren f g h a) && isE k (ren f g h b) else false) = true
        rw [if_neg q.1, if_neg q.2.1, if_neg q.2.2, if_pos q4, a1, b1]
        rfl
      · rw [ev_op m1, ev_op m1, a2 t u key body hk s, b2 t u key body hk s]
theorem cmp_vb {z : Str} (hz : z = "<" ∨ z = "=") : isVB z = false ∧ isRS z = false ∧ (z == "send") = false := by rcases hz with rfl | rfl <;> decide +kernel
theorem and_vb {z : Str} (hz : z = "and" ∨ z = "or") : isVB z = false ∧ isRS z = false ∧ (z == "send") = false := by rcases hz with rfl | rfl <;> decide +kernel
theorem re_c (wf : ∀ x ∈ A, isWord (.str (f x)) = true) : ∀ (n : Nat) (d : PyData), isC n d = true → (∀ y ∈ rn d, y ∈ A) → isC n (ren f g h d) = true ∧ ∀ (t u : List (Z × Int)) (key : Str) (body : Int), key ∈ B → Sim A B f g t u → evC u (g key) body n (ren f g h d) = evC t key body n d
  | n, d, hd0, m => by
    obtain ⟨k, e, q⟩ := c_cases hd0
    subst e
    rcases q with ⟨z, a, b, hz, rfl, ea, eb⟩ | ⟨a, rfl, ca⟩ | ⟨z, a, b, hz, rfl, ca, cb⟩
    · rw [rn_two (cmp_row hz)] at m
      obtain ⟨e1, e2, e3⟩ := cmp_vb hz
      rw [ren_other e1 e2 e3, renA_cons, renA_cons, renA_nil]
      obtain ⟨a1, a2⟩ := re_e (B := B) (g := g) (h := h) wf 6 a ea (fun y hy => m y (List.mem_append_left _ hy))
      obtain ⟨b1, b2⟩ := re_e (B := B) (g := g) (h := h) wf 6 b eb (fun y hy => m y (List.mem_append_right _ hy))
      refine ⟨?_, fun t u key body hk s => ?_⟩
      · have q : ((["<", "="] : List Str).any fun y => isS (.str z) y) = true := by rcases hz with e | e <;> subst e <;> decide +kernel
        show (if ((["<", "="] : List Str).any fun y => isS (.str z) y) = true then isE 6 (ren f g h a) && isE 6 (ren f g h b) else _) = true
        rw [if_pos q, a1, b1]
        rfl
      · rw [ec_cmp hz, ec_cmp hz, a2 t u key body hk s, b2 t u key body hk s]
    · rw [rn_one (by decide +kernel)] at m
      rw [ren_other (by decide +kernel) (by decide +kernel) (by decide +kernel), renA_cons, renA_nil]
      obtain ⟨a1, a2⟩ := re_c wf k a ca m
      refine ⟨?_, fun t u key body hk s => ?_⟩
      · have q : ¬ ((["<", "="] : List Str).any fun y => isS (.str "not") y) = true := by decide +kernel
        have q2 : isS (.str "not") "not" = true := by decide +kernel
        show (if ((["<", "="] : List Str).any fun y => isS (.str "not") y) = true then _ else if isS (.str "not") "not" = true then isC k (ren f g h a) else _) = true
        rw [if_neg q, if_pos q2, a1]
      · rw [ec_not, ec_not, a2 t u key body hk s]
    · rw [rn_two (and_row hz)] at m
      obtain ⟨e1, e2, e3⟩ := and_vb hz
      rw [ren_other e1 e2 e3, renA_cons, renA_cons, renA_nil]
      obtain ⟨a1, a2⟩ := re_c wf k a ca (fun y hy => m y (List.mem_append_left _ hy))
      obtain ⟨b1, b2⟩ := re_c wf k b cb (fun y hy => m y (List.mem_append_right _ hy))
      refine ⟨?_, fun t u key body hk s => ?_⟩
      · have q : (¬ ((["<", "="] : List Str).any fun y => isS (.str z) y) = true) ∧ (¬ isS (.str z) "not" = true) ∧ ((["and", "or"] : List Str).any fun y => isS (.str z) y) = true := by rcases hz with e | e <;> subst e <;> decide +kernel
        show (if ((["<", "="] : List Str).any fun y => isS (.str z) y) = true then _ else if isS (.str z) "not" = true then _ else if ((["and", "or"] : List Str).any fun y => isS (.str z) y) = true then isC k (ren f g h a) && isC k (ren f g h b) else _) = true
        rw [if_neg q.1, if_neg q.2.1, if_pos q.2.2, a1, b1]
        rfl
      · rw [ec_op hz, ec_op hz, a2 t u key body hk s, b2 t u key body hk s]
end
end Hd

set_option Elab.async false
set_option linter.all false
set_option maxRecDepth 100000
set_option maxHeartbeats 8000000
namespace Hd
open PySem L2 Pen RG Dat KEq TxS
/-! ### runs with other words -/
structure SimS (A B C : List Str) (f g h : Str → Str) (s u : Sta) : Prop where
  t : Sim A B f g s.t u.t
  ss : u.ss = s.ss.map fun e => (h e.1, g e.2.1, e.2.2)
  si : ∀ e ∈ s.ss, e.1 ∈ C ∧ e.2.1 ∈ B
def simP (A B C : List Str) (f g h : Str → Str) (F F' : PyData → Sta → Bool × Sta) (d d' : PyData) : Prop := ∀ s u, SimS A B C f g h s u → (F' d' u).1 = (F d s).1 ∧ SimS A B C f g h (F d s).2 (F' d' u).2
section
variable {A B C : List Str} {f g h : Str → Str}
theorem runAll_sim {F F' : PyData → Sta → Bool × Sta} : ∀ {ds : List PyData}, (∀ d ∈ ds, simP A B C f g h F F' d (ren f g h d)) → ∀ s u, SimS A B C f g h s u → (runAll F' (renA f g h ds) u).1 = (runAll F ds s).1 ∧ SimS A B C f g h (runAll F ds s).2 (runAll F' (renA f g h ds) u).2
  | [], _, s, u, a => by
    rw [renA_nil]
    exact ⟨rfl, a⟩
  | d :: ds, k, s, u, a => by
    rw [renA_cons]
    obtain ⟨e1, a1⟩ := k d List.mem_cons_self s u a
    show (if (F' (ren f g h d) u).1 = true then runAll F' (renA f g h ds) (F' (ren f g h d) u).2 else F' (ren f g h d) u).1 = (if (F d s).1 = true then runAll F ds (F d s).2 else F d s).1 ∧
      SimS A B C f g h (if (F d s).1 = true then runAll F ds (F d s).2 else F d s).2 (if (F' (ren f g h d) u).1 = true then runAll F' (renA f g h ds) (F' (ren f g h d) u).2 else F' (ren f g h d) u).2
    rw [e1]
    by_cases q : (F d s).1 = true
    · rw [if_pos q, if_pos q]
      exact runAll_sim (fun d hd => k d (List.mem_cons_of_mem _ hd)) _ _ a1
    · rw [if_neg q, if_neg q]
      exact ⟨e1, a1⟩
theorem roomAll_ren {F : PyData → Nat → Option Nat} : ∀ {ds : List PyData}, (∀ d ∈ ds, ∀ r, F (ren f g h d) r = F d r) → ∀ r, roomAll F (renA f g h ds) r = roomAll F ds r
  | [], _, r => by rw [renA_nil]
  | d :: ds, k, 0 => by
    rw [renA_cons]
    rfl
  | d :: ds, k, r + 1 => by
    rw [renA_cons]
    show (F (ren f g h d) r).bind (roomAll F (renA f g h ds)) = (F d r).bind (roomAll F ds)
    rw [k d List.mem_cons_self r]
    cases F d r with
    | none => rfl
    | some r1 => exact roomAll_ren (fun d hd => k d (List.mem_cons_of_mem _ hd)) r1
theorem vA_mem {F : PyData → Nat → Prop} {d : PyData} : ∀ {ds : List PyData} {n : Nat}, vA F ds n → d ∈ ds → ∃ x, F d x
  | e :: ds, n, ⟨x, y, a, b, _⟩, m => by
    rcases List.mem_cons.mp m with q | q
    · subst q
      exact ⟨x, a⟩
    · exact vA_mem b q
theorem one_tup {d : PyData} (o : isOne d = true) : ∃ as, d = .tuple as := by
  cases d with
  | tuple as => exact ⟨as, rfl⟩
  | _ => cases o
theorem vD_tup {Z : Wz} {i n : Nat} {d : PyData} (v : vD Z i d n) : ∃ as, d = .tuple as := by
  cases i with
  | zero => exact one_tup v.1
  | succ i =>
    rcases v with v | ⟨c, a, b, x, y, e, _⟩
    · exact one_tup v.1
    · exact ⟨_, e⟩
theorem vA_heads {Z : Wz} {i n : Nat} {ds : List PyData} (v : vA (vD Z i) ds n) : ∀ z t, ds ≠ .str z :: t := by
  intro z t e
  subst e
  obtain ⟨x, hx⟩ := vA_mem v List.mem_cons_self
  obtain ⟨as, q⟩ := vD_tup hx
  cases q
theorem ren_tups {Z : Wz} {i n : Nat} {ds : List PyData} (v : vA (vD Z i) ds n) : ren f g h (.tuple ds) = .tuple (renA f g h ds) := by rw [ren_tup, renT_tups (vA_heads v)]
theorem one_setE {a b : PyData} : isOne (.tuple [.str "set", a, b]) = (isWord a && isE 6 b) := by
  have z1 : isS (.str "set") "set" = true := by decide +kernel
  simp only [isOne, z1, if_true]
theorem one_sendE {a b c : PyData} : isOne (.tuple [.str "send", a, b, c]) = (isWord a && (isKey b && isE 6 c)) := by
  have z1 : isS (.str "send") "set" = false := by decide +kernel
  have z2 : isS (.str "send") "send" = true := by decide +kernel
  simp only [isOne, z1, z2, if_true, Bool.false_eq_true, if_false]
theorem if_one {c a b : PyData} : ¬ isOne (.tuple [.str "if", c, a, b]) = true := by
  intro y
  have z1 : isS (.str "if") "set" = false := by decide +kernel
  have z2 : isS (.str "if") "send" = false := by decide +kernel
  have z : isS (.str "if") "fail" = false := by decide +kernel
  simp only [isOne, z1, z2, z] at y
  cases y
theorem ren_key {y : PyData} (hy : y = .none ∨ ∃ k ∈ B, y = .str k) (wg : ∀ x ∈ B, isWord (.str (g x)) = true) : isKey (renK g y) = true := by
  rcases hy with e | ⟨k, m, e⟩
  · subst e
    rfl
  · subst e
    exact wg k m
theorem ren_if {c : PyData} {a b : List PyData} {Z : Wz} {i x y : Nat} (va : vA (vD Z i) a x) (vb : vA (vD Z i) b y) : ren f g h (.tuple [.str "if", c, .tuple a, .tuple b]) = .tuple [.str "if", ren f g h c, .tuple (renA f g h a), .tuple (renA f g h b)] := by
  rw [ren_other (by decide +kernel) (by decide +kernel) (by decide +kernel), renA_cons, renA_cons, renA_cons, renA_nil, ren_tups va, ren_tups vb]
theorem one_ren {i : Nat} {d : PyData} {Z : Wz} {key : Str} {body : Int} (hA : Z.A = A) (hB : Z.B = B) (hC : Z.C = C) (hk : key ∈ B) (wf : ∀ x ∈ A, isWord (.str (f x)) = true) (wg : ∀ x ∈ B, isWord (.str (g x)) = true) (wh : ∀ x ∈ C, isWord (.str (h x)) = true) (of : OneOn A f) (og : OneOn B g)
    (o : isOne d = true) (w : oneIn Z d) : isOne (ren f g h d) = true ∧ simP A B C f g h (deedE key body i) (deedE (g key) body i) d (ren f g h d) := by
  subst hA
  subst hB
  subst hC
  rcases deed_cases (deed_one (i := 0) (r := 1) o) with ⟨rfl, e⟩ | ⟨n, x, rfl, wn, xe, e⟩ | ⟨n, k, x, rfl, wn, hkk, xe, e⟩ | ⟨j', c, as, bs, r1, ej, _⟩
  · rw [ren_vb (by decide +kernel)]
    exact ⟨o, fun s u a => ⟨by cases i <;> rfl, by cases i <;> exact a⟩⟩
  · obtain ⟨gz, gl, gm, gb⟩ := w
    rw [ren_rs (by decide +kernel) (by decide +kernel), renA_cons, renA_nil]
    obtain ⟨e1, e2⟩ := re_e (B := Z.B) (g := g) (h := h) wf 6 x xe gm
    refine ⟨?_, fun s u a => ?_⟩
    · rw [one_setE, wf n gz, e1]
      rfl
    · rw [deed_set1, deed_set1, e2 s.t u.t key body hk a.t]
      exact ⟨rfl, a.t.put of og gz hk _, a.ss, a.si⟩
  · obtain ⟨gz, gk, gl, gm, gb⟩ := w
    rw [ren_send]
    obtain ⟨e1, e2⟩ := re_e (B := Z.B) (g := g) (h := h) wf 6 x xe gm
    refine ⟨?_, fun s u a => ?_⟩
    · rw [one_sendE, wh n gz, ren_key gk wg, e1]
      rfl
    · have kk : keyOf (g key) (renK g k) = g (keyOf key k) ∧ keyOf key k ∈ Z.B := by
        rcases gk with e | ⟨y, m, e⟩
        · subst e
          exact ⟨rfl, hk⟩
        · subst e
          exact ⟨rfl, m⟩
      rw [deed_send1, deed_send1, e2 s.t u.t key body hk a.t, kk.1]
      refine ⟨rfl, a.t, by rw [a.ss, List.map_append]; rfl, fun q hq => ?_⟩
      rcases List.mem_append.mp hq with m | m
      · exact a.si q m
      · rw [List.mem_singleton.mp m]
        exact ⟨gz, kk.2⟩
  · cases ej
theorem deed_ren {Z : Wz} {key : Str} {body : Int} (hA : Z.A = A) (hB : Z.B = B) (hC : Z.C = C) (hk : key ∈ B) (wf : ∀ x ∈ A, isWord (.str (f x)) = true) (wg : ∀ x ∈ B, isWord (.str (g x)) = true) (wh : ∀ x ∈ C, isWord (.str (h x)) = true) (of : OneOn A f) (og : OneOn B g) :
    ∀ (i : Nat) (d : PyData) (n : Nat), vD Z i d n → (∀ r, deedR i (ren f g h d) r = deedR i d r) ∧ simP A B C f g h (deedE key body i) (deedE (g key) body i) d (ren f g h d) := by
  intro i
  induction i with
  | zero =>
    intro d n v
    obtain ⟨o, w⟩ := one_ren (i := 0) (body := body) hA hB hC hk wf wg wh of og v.1 v.2.1
    exact ⟨fun r => by rw [deed_one o, deed_one v.1], w⟩
  | succ i ih =>
    intro d n v
    rcases v with v | ⟨c, a, b, x, y, rfl, hc, gc, va, vb, e⟩
    · obtain ⟨o, w⟩ := one_ren (i := i + 1) (body := body) hA hB hC hk wf wg wh of og v.1 v.2.1
      exact ⟨fun r => by rw [deed_one o, deed_one v.1], w⟩
    · rw [ren_if va vb]
      obtain ⟨c1, c2⟩ := re_c (B := B) (g := g) (h := h) wf 6 c hc (hA ▸ gc.2.1)
      have ra := roomAll_ren (f := f) (g := g) (h := h) (F := deedR i) (ds := a) fun d hd => (ih d _ (vA_mem va hd).choose_spec).1
      have rb := roomAll_ren (f := f) (g := g) (h := h) (F := deedR i) (ds := b) fun d hd => (ih d _ (vA_mem vb hd).choose_spec).1
      refine ⟨fun r => ?_, fun s u q => ?_⟩
      · rw [deed_four if_one, deed_four if_one, if_pos (by decide +kernel), if_pos c1, if_pos (by decide +kernel), if_pos hc]
        show (roomAll (deedR i) (renA f g h a) r).bind (roomAll (deedR i) (renA f g h b)) = (roomAll (deedR i) a r).bind (roomAll (deedR i) b)
        rw [ra]
        cases roomAll (deedR i) a r with
        | none => rfl
        | some r1 => exact rb r1
      · rw [deed_if1, deed_if1, c2 s.t u.t key body hk q.t]
        by_cases t : evC s.t key body 6 c = true
        · rw [if_pos t, if_pos t]
          exact runAll_sim (fun d hd => (ih d _ (vA_mem va hd).choose_spec).2) s u q
        · rw [if_neg t, if_neg t]
          exact runAll_sim (fun d hd => (ih d _ (vA_mem vb hd).choose_spec).2) s u q
end
/-- a drawn handler with other words -/
theorem run_ren {Y : Wz} {f g h : Str → Str} {ds : List PyData} {n : Nat} {key : Str} {body : Int} {t u : List (Z × Int)} (va : vA (vD Y 3) ds n) (hk : key ∈ Y.B) (wf : ∀ x ∈ Y.A, isWord (.str (f x)) = true) (wg : ∀ x ∈ Y.B, isWord (.str (g x)) = true) (wh : ∀ x ∈ Y.C, isWord (.str (h x)) = true) (of : OneOn Y.A f) (og : OneOn Y.B g) (s : Sim Y.A Y.B f g t u) :
    (∀ r, roomAll (deedR 3) (renA f g h ds) r = roomAll (deedR 3) ds r) ∧ (runAll (deedE (g key) body 3) (renA f g h ds) ⟨u, []⟩).1 = (runAll (deedE key body 3) ds ⟨t, []⟩).1 ∧
      SimS Y.A Y.B Y.C f g h (runAll (deedE key body 3) ds ⟨t, []⟩).2 (runAll (deedE (g key) body 3) (renA f g h ds) ⟨u, []⟩).2 := by
  have one := fun d hd => deed_ren (body := body) rfl rfl rfl hk wf wg wh of og 3 d _ (vA_mem (d := d) va hd).choose_spec
  exact ⟨roomAll_ren fun d hd => (one d hd).1, runAll_sim (fun d hd => (one d hd).2) _ _ ⟨s, rfl, fun e he => by cases he⟩⟩
/-! ### rows, by their values -/
theorem nd_perm {a b : List Z} (ha : a.Nodup) (hb : b.Nodup) (h : ∀ x, x ∈ a ↔ x ∈ b) : a.Perm b := by
  rw [List.perm_iff_count]
  intro x
  by_cases m : x ∈ a
  · rw [List.Nodup.count ha, List.Nodup.count hb]
    simp [h x]
  · rw [List.count_eq_zero_of_not_mem m, List.count_eq_zero_of_not_mem (fun z => m ((h x).mpr z))]
theorem vl_key {t : List (Z × Int)} {z : Z} (h : vl t z ≠ 0) : z ∈ t.map (·.1) := by
  apply Classical.byContradiction
  intro n
  have : lk t z = none := by
    cases e : lk t z with
    | none => rfl
    | some v =>
      exfalso
      clear h
      induction t with
      | nil => cases e
      | cons x t ih =>
        have e : (if x.1 = z then some x.2 else lk t z) = some v := e
        rw [List.map_cons, List.mem_cons] at n
        rw [if_neg (fun q => n (.inl q.symm))] at e
        exact ih (fun q => n (.inr q)) e
  unfold vl at h
  rw [this] at h
  exact h rfl
theorem srt_filter {t : List (Z × Int)} {zs : List Z} (s : Srt (t.map (·.1)) zs) (p : Z → Bool) : Srt (zs.filter p) (zs.filter p) :=
  ⟨.refl _, (s.perm.nodup_iff.mpr s.nd).filter _, s.up.filter _⟩
/-- rows are told by their values alone -/
theorem rows_eq {t u : List (Z × Int)} {zs ys : List Z} (s : Srt (t.map (·.1)) zs) (q : Srt (u.map (·.1)) ys) (h : ∀ z, vl t z = vl u z) : rowsOf t zs = rowsOf u ys := by
  have e : (zs.filter fun z => decide ((lk t z).getD 0 ≠ 0)) = ys.filter fun z => decide ((lk u z).getD 0 ≠ 0) := by
    have f1 := srt_filter s fun z => decide ((lk t z).getD 0 ≠ 0)
    have f2 := srt_filter q fun z => decide ((lk u z).getD 0 ≠ 0)
    have pm : (zs.filter fun z => decide ((lk t z).getD 0 ≠ 0)).Perm (ys.filter fun z => decide ((lk u z).getD 0 ≠ 0)) := by
      refine nd_perm f1.nd f2.nd fun x => ?_
      rw [List.mem_filter, List.mem_filter, decide_eq_true_eq, decide_eq_true_eq]
      have a : (lk t x).getD 0 = (lk u x).getD 0 := h x
      constructor
      · intro ⟨_, b⟩
        rw [a] at b
        exact ⟨q.perm.mem_iff.mpr (vl_key b), b⟩
      · intro ⟨_, b⟩
        rw [← a] at b
        exact ⟨s.perm.mem_iff.mpr (vl_key b), b⟩
    exact Srt.one ⟨pm, f2.nd, f1.up⟩ f2
  unfold rowsOf
  rw [e]
  refine List.map_congr_left fun z _ => ?_
  have a : (lk t z).getD 0 = (lk u z).getD 0 := h z
  rw [a]
theorem lk_map {α : Z → Int} {z : Z} : ∀ zs : List Z, lk (zs.map fun x => (x, α x)) z = if z ∈ zs then some (α z) else none
  | [] => rfl
  | x :: zs => by
    show (if x = z then some (α x) else lk (zs.map fun x => (x, α x)) z) = _
    rw [lk_map zs]
    by_cases q : x = z
    · subst q
      rw [if_pos rfl, if_pos List.mem_cons_self]
    · rw [if_neg q]
      by_cases m : z ∈ zs
      · rw [if_pos m, if_pos (List.mem_cons_of_mem _ m)]
      · rw [if_neg m, if_neg fun y => (List.mem_cons.mp y).elim (fun y => q y.symm) m]
theorem vl_rows {t : List (Z × Int)} {zs : List Z} (s : Srt (t.map (·.1)) zs) (z : Z) : vl (rowsOf t zs) z = vl t z := by
  unfold vl rowsOf
  rw [lk_map]
  by_cases m : z ∈ zs.filter fun z => decide ((lk t z).getD 0 ≠ 0)
  · rw [if_pos m]
    rfl
  · rw [if_neg m]
    show 0 = (lk t z).getD 0
    apply Classical.byContradiction
    intro n
    refine m (List.mem_filter.mpr ⟨s.perm.mem_iff.mpr (vl_key fun y => n y.symm), decide_eq_true fun y => n y.symm⟩)
theorem rows_keys {t : List (Z × Int)} {zs : List Z} (s : Srt (t.map (·.1)) zs) {e : Z × Int} (h : e ∈ rowsOf t zs) : e.1 ∈ t.map (·.1) := by
  obtain ⟨z, hz, rfl⟩ := List.mem_map.mp h
  exact s.perm.mem_iff.mp (List.mem_filter.mp hz).1
/-- rows with other words -/
def renR (f g : Str → Str) (L : List (Z × Int)) : List (Z × Int) := L.map fun e => ((f e.1.1, g e.1.2), e.2)
section
variable {A B : List Str} {f g : Str → Str}
theorem lk_renR (of : OneOn A f) (og : OneOn B g) {n k : Str} (hn : n ∈ A) (hk : k ∈ B) : ∀ {L : List (Z × Int)}, (∀ e ∈ L, e.1.1 ∈ A ∧ e.1.2 ∈ B) → lk (renR f g L) (f n, g k) = lk L (n, k)
  | [], _ => rfl
  | e :: L, h => by
    have ih := lk_renR of og hn hk (L := L) fun x hx => h x (List.mem_cons_of_mem _ hx)
    obtain ⟨h1, h2⟩ := h e List.mem_cons_self
    show (if (f e.1.1, g e.1.2) = (f n, g k) then some e.2 else lk (renR f g L) (f n, g k)) = if e.1 = (n, k) then some e.2 else lk L (n, k)
    by_cases q : e.1 = (n, k)
    · rw [if_pos q, if_pos (by rw [q])]
    · rw [if_neg q, if_neg fun y => q (by
        injection y with y1 y2
        exact Prod.ext (of _ h1 _ hn y1) (og _ h2 _ hk y2)), ih]
theorem renR_nodup (of : OneOn A f) (og : OneOn B g) {L : List (Z × Int)} (h : ∀ e ∈ L, e.1.1 ∈ A ∧ e.1.2 ∈ B) (nd : (L.map (·.1)).Nodup) : ((renR f g L).map (·.1)).Nodup := by
  induction L with
  | nil => exact .nil
  | cons e L ih =>
    rw [List.map_cons, List.nodup_cons] at nd
    show (((f e.1.1, g e.1.2) :: (renR f g L).map (·.1)) : List Z).Nodup
    refine List.nodup_cons.mpr ⟨fun m => ?_, ih (fun x hx => h x (List.mem_cons_of_mem _ hx)) nd.2⟩
    obtain ⟨x, hx, ex⟩ := List.mem_map.mp m
    obtain ⟨y, hy, rfl⟩ := List.mem_map.mp hx
    obtain ⟨h1, h2⟩ := h e List.mem_cons_self
    obtain ⟨h3, h4⟩ := h y (List.mem_cons_of_mem _ hy)
    have ex : (f y.1.1, g y.1.2) = (f e.1.1, g e.1.2) := ex
    injection ex with e1 e2
    exact nd.1 (List.mem_map.mpr ⟨y, hy, Prod.ext (of _ h3 _ h1 e1) (og _ h4 _ h2 e2)⟩)
/-- rows told with other words: alike -/
theorem sim_rows (of : OneOn A f) (og : OneOn B g) {L : List (Z × Int)} {zs : List Z} (h : ∀ e ∈ L, e.1.1 ∈ A ∧ e.1.2 ∈ B) (s : Srt ((renR f g L).map (·.1)) zs) : Sim A B f g L (rowsOf (renR f g L) zs) := by
  refine ⟨fun n hn k hk => ?_, fun e he => ?_, h⟩
  · rw [vl_rows s]
    unfold vl
    rw [lk_renR of og hn hk h]
  · obtain ⟨x, hx, ex⟩ := List.mem_map.mp (rows_keys s he)
    obtain ⟨y, hy, rfl⟩ := List.mem_map.mp hx
    obtain ⟨h1, h2⟩ := h y hy
    exact ⟨_, h1, _, h2, ex.symm⟩
/-- the rows at both ends -/
theorem ends_eq (of : OneOn A f) (og : OneOn B g) {t u : List (Z × Int)} {zs ys xs : List Z} (s : Sim A B f g t u) (st : Srt (t.map (·.1)) zs) (su : Srt (u.map (·.1)) ys) (sx : Srt ((renR f g (rowsOf t zs)).map (·.1)) xs) : rowsOf u ys = rowsOf (renR f g (rowsOf t zs)) xs := by
  refine rows_eq su sx fun z => ?_
  have hin : ∀ e ∈ rowsOf t zs, e.1.1 ∈ A ∧ e.1.2 ∈ B := by
    intro e he
    obtain ⟨x, hx, ex⟩ := List.mem_map.mp (rows_keys st he)
    have := s.kt x hx
    rw [ex] at this
    exact this
  by_cases q : ∃ n ∈ A, ∃ k ∈ B, z = (f n, g k)
  · obtain ⟨n, hn, k, hk, rfl⟩ := q
    rw [s.v n hn k hk, ← vl_rows st]
    unfold vl
    rw [lk_renR of og hn hk hin]
  · have a : vl u z = 0 := by
      apply Classical.byContradiction
      intro n
      obtain ⟨e, he, ez⟩ := List.mem_map.mp (vl_key n)
      obtain ⟨n', hn, k, hk, e2⟩ := s.ku e he
      exact q ⟨n', hn, k, hk, ez.symm.trans e2⟩
    have b : vl (renR f g (rowsOf t zs)) z = 0 := by
      apply Classical.byContradiction
      intro n
      obtain ⟨e, he, ez⟩ := List.mem_map.mp (vl_key n)
      obtain ⟨y, hy, rfl⟩ := List.mem_map.mp he
      obtain ⟨h1, h2⟩ := hin y hy
      exact q ⟨_, h1, _, h2, ez.symm⟩
    rw [a, b]
end
end Hd

set_option Elab.async false
set_option linter.all false
set_option maxRecDepth 100000
set_option maxHeartbeats 8000000
namespace Hd
open PySem L2 Pen RG Dat KEq TxS
abbrev sHr : Stmt := top 51
/-- a word by a table of words -/
def byT (xs ys : List Str) (x : Str) : Str := ((xs.zip ys).lookup x).getD x
theorem byT_val {xs ys : List Str} {x : Str} : (valV (wordsK xs ys) (Sum.inr x)).getD (.str x) = .str (byT xs ys x) := by
  unfold byT wordsK
  induction xs.zip ys with
  | nil => rfl
  | cons z zs ih =>
    by_cases q : z.1 = x
    · rw [List.map_cons, valV_pos (by rw [q])]
      have : List.lookup x (z :: zs) = some z.2 := by
        rw [← q]
        obtain ⟨z1, z2⟩ := z
        rw [List.lookup_cons_self]
      rw [this]
      rfl
    · rw [List.map_cons, valV_neg (fun e => q (Sum.inr.inj e)), ih]
      have : List.lookup x (z :: zs) = List.lookup x zs := by
        have e : (x == z.1) = false := beq_eq_false_iff_ne.mpr fun e => q e.symm
        obtain ⟨z1, z2⟩ := z
        show (match x == z1 with | true => some z2 | false => List.lookup x zs) = _
        have e : (x == z1) = false := e
        rw [e]
      rw [this]
/-- trees of deeds that can be told with other words, n deep -/
def okL (p : PyData → Prop) : List PyData → Prop
  | [] => True
  | .str z :: t => isVB z = true ∨ (isVB z = false ∧ isRS z = true ∧ ∃ x t', t = .str x :: t' ∧ ∀ e ∈ t', p e) ∨ (z = "send" ∧ ∃ k y e, t = [.str k, y, e] ∧ (y = .none ∨ ∃ w, y = .str w) ∧ p e) ∨ (isVB z = false ∧ isRS z = false ∧ (z == "send") = false ∧ t ≠ [] ∧ ∀ e ∈ t, p e)
  | .tuple a :: t => ∀ e ∈ .tuple a :: t, p e
  | _ :: _ => False
def okT : Nat → PyData → Prop
  | 0, _ => False
  | m + 1, .tuple ds => ds.length ≤ 100 ∧ okL (okT m) ds
  | _ + 1, _ => True
def spHr (K : PySem.W.Frag) (m : Nat) : Sp := fun vs H Q _ => ∃ (v : V) (d : PyData) (l d0 d1 d2 : Addr) (A A' B B' C C' : List Str), vs = [v, .ref l] ∧ H l = some (.lst [.ref d0, .ref d1, .ref d2]) ∧ H d0 = some (.dK (wordsK A A')) ∧ H d1 = some (.dK (wordsK B B')) ∧ H d2 = some (.dK (wordsK C C')) ∧ Rp K H v d ∧ tu d = true ∧ okT m d ∧
  ∀ v' H', Same H H' → Rp K H' v' (ren (byT A A') (byT B B') (byT C C') d) → Q v' H'
section
variable {f g h : Str → Str}
theorem tu_renK {y : PyData} (e : tu y = true) : tu (renK g y) = true := by
  cases y <;> first | exact e | rfl
theorem tuAll_mem : ∀ {ds : List PyData}, tuAll ds = true ↔ ∀ d ∈ ds, tu d = true
  | [] => ⟨(fun _ d m => by cases m), fun _ => rfl⟩
  | d :: ds => by
    show (tu d && tuAll ds) = true ↔ _
    rw [Bool.and_eq_true, tuAll_mem]
    exact ⟨fun ⟨a, b⟩ x m => (List.mem_cons.mp m).elim (fun e => e ▸ a) (b x), fun q => ⟨q d List.mem_cons_self, fun x m => q x (List.mem_cons_of_mem _ m)⟩⟩
theorem renA_map : ∀ {ds : List PyData}, renA f g h ds = ds.map (ren f g h)
  | [] => renA_nil
  | d :: ds => by rw [renA_cons, renA_map, List.map_cons]
theorem tu_A {ds : List PyData} (e : ∀ d ∈ ds, tu d = true) (k : ∀ d ∈ ds, tu d = true → tu (ren f g h d) = true) : ∀ d ∈ renA f g h ds, tu d = true := by
  rw [renA_map]
  intro d m
  obtain ⟨x, hx, rfl⟩ := List.mem_map.mp m
  exact k x hx (e x hx)
theorem tu_renT {ds : List PyData} (e : ∀ d ∈ ds, tu d = true) (k : ∀ d ∈ ds, tu d = true → tu (ren f g h d) = true) : ∀ d ∈ renT f g h ds, tu d = true := by
  cases ds with
  | nil => simp only [renT]; exact e
  | cons z t =>
    have e' := fun d m => e d (List.mem_cons_of_mem z m)
    have k' := fun d m => k d (List.mem_cons_of_mem z m)
    have tA := tu_A e' k'
    cases z with
    | str z =>
      have two : ∀ {x : PyData} {l : List PyData}, tu x = true → (∀ d ∈ l, tu d = true) → ∀ d ∈ x :: l, tu d = true := fun a b d m => (List.mem_cons.mp m).elim (fun q => q ▸ a) (b d)
      simp only [renT]
      split
      · exact e
      split
      · refine two rfl ?_
        cases t with
        | nil => simp only [renF]; exact e'
        | cons x t =>
          cases x with
          | str x =>
            simp only [renF]
            exact two rfl (tu_A (fun d m => e' d (List.mem_cons_of_mem _ m)) fun d m => k' d (List.mem_cons_of_mem _ m))
          | _ => simp only [renF]; exact e'
      split
      · refine two rfl ?_
        rw [renS.eq_def]
        split
        · refine two rfl (two (tu_renK (e' _ (by simp))) (two (k' _ (by simp) (e' _ (by simp))) fun d m => by cases m))
        · exact e'
      · exact two rfl tA
    | _ =>
      simp only [renT]
      rw [← renA_cons]
      exact tu_A e k
mutual
theorem tu_ren : ∀ {d : PyData}, tu d = true → tu (ren f g h d) = true
  | .tuple ds, e => by
    rw [ren_tup]
    exact tuAll_mem.mpr (tu_renT (tuAll_mem.mp e) (tu_mem ds))
  | .none, e => by simp only [ren]; exact e
  | .bool _, e => by simp only [ren]; exact e
  | .int _, e => by simp only [ren]; exact e
  | .str _, e => by simp only [ren]; exact e
  | .list _, e => by cases e
  | .dict _, e => by cases e
theorem tu_mem : ∀ ds : List PyData, ∀ d ∈ ds, tu d = true → tu (ren f g h d) = true
  | [], d, m => by cases m
  | x :: ds, d, m => by
    by_cases q : d = x
    · rw [q]
      exact tu_ren
    · exact tu_mem ds d ((List.mem_cons.mp m).resolve_left q)
end
end
theorem sqT_updL {K : PySem.W.Frag} {D a : Addr} {G : Hp} {xs ys zs : List V} (hq : G D = some (.lst xs)) (h : SqT K G a zs) : SqT K (upd G D (.lst ys)) a zs := by
  rcases h with (h | ⟨o, h⟩) | h
  · exact .inl (.inl ((upd_ne (ne_of h hq (by intro z; cases z))).trans h))
  · exact .inl (.inr ⟨o, (upd_ne (ne_of h hq (by intro z; cases z))).trans h⟩)
  · exact .inr h
mutual
theorem rp_updL {K : PySem.W.Frag} {D : Addr} {G : Hp} {xs ys : List V} (hq : G D = some (.lst xs)) : ∀ {d : PyData} {v : V}, tu d = true → Rp K G v d → Rp K (upd G D (.lst ys)) v d
  | .none, _, _, .non => .non
  | .bool _, _, _, .bl b => .bl b
  | .int _, _, _, .int i => .int i
  | .str _, _, _, .str x => .str x
  | .list _, _, h, _ => by cases h
  | .tuple ds, _, h, .tup a r => .tup (sqT_updL hq a) (rp_updLs hq (show tuAll ds = true from h) r)
  | .dict _, _, h, _ => by cases h
theorem rp_updLs {K : PySem.W.Frag} {D : Addr} {G : Hp} {xs ys : List V} (hq : G D = some (.lst xs)) : ∀ {ds : List PyData} {vs : List V}, tuAll ds = true → RpAll K G vs ds → RpAll K (upd G D (.lst ys)) vs ds
  | [], _, _, .nil => .nil
  | d :: ds, _, h, .cons a r => by
    have z : (tu d && tuAll ds) = true := h
    rw [Bool.and_eq_true] at z
    exact .cons (rp_updL hq z.1 a) (rp_updLs hq z.2 r)
end
/-- a new list of parts, told with other words -/
structure RnI (K : PySem.W.Frag) (f g h : Str → Str) (ds : List PyData) (H : Hp) (D i : Nat) (G : Hp) : Prop where
  s : Same H G
  l : ∃ vs, G D = some (.lst vs) ∧ vs.length = i ∧ RpAll K G vs (renA f g h (ds.take i))
theorem RnI.start {K : PySem.W.Frag} {f g h : Str → Str} {ds : List PyData} {H : Hp} {D : Addr} (e : H D = none) : RnI K f g h ds H D 0 (upd H D (.lst [])) := ⟨same_new e, [], upd_same, rfl, by rw [List.take_zero, renA_nil]; exact .nil⟩
theorem RnI.more {K : PySem.W.Frag} {f g h : Str → Str} {ds : List PyData} {d : PyData} {H G G' : Hp} {D i : Nat} {v : V} (x : RnI K f g h ds H D i G) (e : H D = none) (tds : ∀ d ∈ ds, tu d = true) (hd : ds[i]? = some d) (s : Same G G') (r : Rp K G' v (ren f g h d)) :
    ∃ vs, G' D = some (.lst vs) ∧ vs.length = i ∧ RnI K f g h ds H D (i + 1) (upd G' D (.lst (vs ++ [v]))) := by
  obtain ⟨vs, a, b, c⟩ := x.l
  have a' := s _ _ a
  have t1 : ∀ d ∈ renA f g h (ds.take i), tu d = true := tu_A (fun d m => tds d (List.mem_of_mem_take m)) fun d _ => tu_ren
  refine ⟨vs, a', b, ⟨fun y o hy => by rw [upd_ne (ne_of_none hy e)]; exact s _ _ (x.s _ _ hy), vs ++ [v], upd_same, by rw [List.length_append, b]; rfl, ?_⟩⟩
  rw [renA_take hd]
  exact RpAll.append (rp_updLs a' (tuAll_mem.mpr t1) (RpAll.same s c)) (.cons (rp_updL a' (tu_ren (tds d (List.mem_of_getElem? hd))) r) .nil)
theorem any_vb {z : Str} : ((["value", "body", "fail"] : List Str).any fun y => isS (.str z) y) = isVB z := by
  show (isS (.str z) "value" || (isS (.str z) "body" || (isS (.str z) "fail" || false))) = _
  rw [Bool.or_false]
  rfl
theorem any_rs {z : Str} : ((["row", "set"] : List Str).any fun y => isS (.str z) y) = isRS z := by
  show (isS (.str z) "row" || (isS (.str z) "set" || false)) = _
  rw [Bool.or_false]
  rfl
theorem cutH {x : V} {xs : List V} : cutV (x :: xs) none (some 1) = [x] := by
  unfold cutV
  rw [HT.sIx_none, show (1 : Int) = ((1 : Nat) : Int) from rfl, HT.sIx_nat, Nat.min_eq_left (by simp)]
  rfl
theorem szl2 {n : Nat} (h : n ≤ 1000) : n ≤ sizeLine := Nat.le_trans h (by decide)
theorem any_str {d : PyData} {zs : List Str} (h : (zs.any fun y => isS d y) = true) : ∃ z, d = .str z := by
  cases d with
  | str z => exact ⟨z, rfl⟩
  | _ =>
    obtain ⟨y, _, hy⟩ := List.any_eq_true.mp h
    cases hy
structure TxtR (mg : Str → Option Value) : Prop where
  isinstance : mg "isinstance" = none
  tuple : mg "tuple" = none
  len : mg "len" = none
section
variable {P : Program} {w : World} {K : PySem.W.Frag} {mg : Str → Option Value} {base : Heap}
theorem scHr : FnScope ["_law_tree", "_law_words_here", "_law_key", "_law_part", "_law_e_here"] ["_law_tree", "_law_words_here"] (defScope sHr) := ⟨rfl, rfl, rfl, by decide +kernel, rfl, by decide +kernel, by decide +kernel⟩
theorem ok_hr {f : Addr} {fd : FuncData} (F : Fun K "_law_handler_renamed" "_law_handler_renamed" sHr f fd) (T : TxtR mg) (THr : DefT K mg "_law_handler_renamed" f) (bHr : Binds K fd ["_law_tree", "_law_words_here"] []) : ∀ m, FnOk P w K mg base CX0 (m + 1) f fd ["_law_tree", "_law_words_here"] (spHr K m)
  | 0 => by
    refine F.ok scHr (fun vs H Q E h => ?_) (fun cdv A outer s H vs Q E hr h => ?_)
    · obtain ⟨v, d, l, d0, d1, d2, A, A', B, B', C, C', rfl, _⟩ := h
      rfl
    · obtain ⟨v, d, l, d0, d1, d2, A, A', B, B', C, C', rfl, el, e0, e1, e2, rp, td, ok, k⟩ := h
      exact ok.elim
  | m + 1 => by
    have GHr := ok_hr F T THr bHr m
    refine F.ok scHr (fun vs H Q E h => ?_) (fun cdv A0 outer s H vs Q E hr h => ?_)
    · obtain ⟨v, d, l, d0, d1, d2, A, A', B, B', C, C', rfl, _⟩ := h
      rfl
    · obtain ⟨v, d, l, d0, d1, d2, A, A', B, B', C, C', rfl, el, e0, e1, e2, rp, td, ok, k⟩ := h
      have hu := hu_of hr
      refine ⟨_, (pss_cons (ps_if (PW.pt (pw_or (pt_not (pt_val (pe_callB call_isi (by rfl) T.isinstance (by decide +kernel) (pa_cons (pv 0) (pa_cons (pe_bltn (v := V.ty "tuple") (by rfl) T.tuple (by decide +kernel) rfl) pa_nil))))) (pw_or (pt_cmpR op_eq (pe_callB call_len_seq (by rfl) T.len PySem.boot_len (pa_cons (pv 0) pa_nil)) pe_int (nomark _)) (pw_or1 (pt_cmpR (KEq.op_inS hu) (pe_ix ix_tup (pv 0) pe_int (fun _ _ => rfl)) (Ab.pe_tupA (pa_cons pe_str (pa_cons pe_str (pa_cons pe_str pa_nil)))) rfl))))) (pss_one (ps_ret (pv 0))) pss_nil)
        (pss_cons (ps_if (pt_val (pe_callB call_isi (by rfl) T.isinstance (by decide +kernel) (pa_cons (pe_ix ix_tup (pv 0) pe_int (fun _ _ => rfl)) (pa_cons (pe_bltn (v := V.ty "tuple") (by rfl) T.tuple (by decide +kernel) rfl) pa_nil))))
          (pss_one (ps_ret (pe_callTy DpT.call_tupleF (by rfl) T.tuple (by decide +kernel) (pa_cons (pe_lc (own := [("_law_part", 3)]) (g := gName 3) (tt := tYes) (te := (tCall (spHr K m) [] E0 (tCons (tVar 3) (tCons (tVar 1) tNil)))) rfl scHr.nd (pi_tup (pv 0)) (blkOk_by (N := ["_law_tree", "_law_words_here", "_law_key", "_law_part", "_law_e_here"]) (sc := defScope sHr) (by decide +kernel)) (fun _ _ _ _ _ => by exact (pg_name (i := 3) scHr.nd rfl (Or.inl rfl))) (fun _ _ _ _ _ => by exact pts_nil) (fun _ _ _ _ _ => by exact (pe_call GHr (hr.mono (by omega)) rfl THr.mg THr.kp bHr .nil pass0 (pa_cons (pv 3) (pa_cons (pv 1) pa_nil))))) pa_nil)))) pss_nil)
        (pss_cons (ps_if (pt_cmpR (KEq.op_inS hu) (pe_ix ix_tup (pv 0) pe_int (fun _ _ => rfl)) (Ab.pe_tupA (pa_cons pe_str (pa_cons pe_str pa_nil))) rfl)
          (pss_one (ps_ret (pe_op op_catT (Ab.pe_tupA (pa_cons (pe_ix ix_tup (pv 0) pe_int (fun _ _ => rfl)) (pa_cons (pe_dget2 hu (pe_ix ix_list (pv 1) pe_int (fun _ _ => rfl)) (pe_ix ix_tup (pv 0) pe_int (fun _ _ => rfl)) (pe_ix ix_tup (pv 0) pe_int (fun _ _ => rfl)) ⟨by rfl, by rfl, by rfl, by rfl⟩) pa_nil)))
            (pe_callTy DpT.call_tupleF (by rfl) T.tuple (by decide +kernel) (pa_cons (pe_lc (own := [("_law_e_here", 4)]) (g := gName 4) (tt := tYes) (te := (tCall (spHr K m) [] E0 (tCons (tVar 4) (tCons (tVar 1) tNil)))) rfl scHr.nd (pi_tup (pe_slice sl_tup (pv 0) (po_some pe_int) po_none)) (blkOk_by (N := ["_law_tree", "_law_words_here", "_law_key", "_law_part", "_law_e_here"]) (sc := defScope sHr) (by decide +kernel)) (fun _ _ _ _ _ => by exact (pg_name (i := 4) scHr.nd rfl (Or.inl rfl))) (fun _ _ _ _ _ => by exact pts_nil) (fun _ _ _ _ _ => by exact (pe_call GHr (hr.mono (by omega)) rfl THr.mg THr.kp bHr .nil pass0 (pa_cons (pv 4) (pa_cons (pv 1) pa_nil))))) pa_nil))))) pss_nil)
        (pss_cons (ps_if (pt_cmpR op_eq (pe_ix ix_tup (pv 0) pe_int (fun _ _ => rfl)) pe_str (nomark _))
          (pss_cons (ps_set (i := 2) scHr.nd rfl (Or.inl rfl) (pe_ifExp (pt_cmpR op_isN (pe_ix ix_tup (pv 0) pe_int (fun _ _ => rfl)) pe_non (nomark _)) pe_non (pe_dget2 hu (pe_ix ix_list (pv 1) pe_int (fun _ _ => rfl)) (pe_ix ix_tup (pv 0) pe_int (fun _ _ => rfl)) (pe_ix ix_tup (pv 0) pe_int (fun _ _ => rfl)) ⟨by rfl, by rfl, by rfl, by rfl⟩)))
            (pss_one (ps_ret (Ab.pe_tupA (pa_cons pe_str (pa_cons (pe_dget2 hu (pe_ix ix_list (pv 1) pe_int (fun _ _ => rfl)) (pe_ix ix_tup (pv 0) pe_int (fun _ _ => rfl)) (pe_ix ix_tup (pv 0) pe_int (fun _ _ => rfl)) ⟨by rfl, by rfl, by rfl, by rfl⟩) (pa_cons (pv 2) (pa_cons (pe_call GHr (hr.mono (by omega)) rfl THr.mg THr.kp bHr .nil pass0 (pa_cons (pe_ix ix_tup (pv 0) pe_int (fun _ _ => rfl)) (pa_cons (pv 1) pa_nil))) pa_nil)))))))) pss_nil)
        (pss_one (ps_ret (pe_op op_catT (pe_slice sl_tup (pv 0) po_none (po_some pe_int))
            (pe_callTy DpT.call_tupleF (by rfl) T.tuple (by decide +kernel) (pa_cons (pe_lc (own := [("_law_part", 3)]) (g := gName 3) (tt := tYes) (te := (tCall (spHr K m) [] E0 (tCons (tVar 3) (tCons (tVar 1) tNil)))) rfl scHr.nd (pi_tup (pe_slice sl_tup (pv 0) (po_some pe_int) po_none)) (blkOk_by (N := ["_law_tree", "_law_words_here", "_law_key", "_law_part", "_law_e_here"]) (sc := defScope sHr) (by decide +kernel)) (fun _ _ _ _ _ => by exact (pg_name (i := 3) scHr.nd rfl (Or.inl rfl))) (fun _ _ _ _ _ => by exact pts_nil) (fun _ _ _ _ _ => by exact (pe_call GHr (hr.mono (by omega)) rfl THr.mg THr.kp bHr .nil pass0 (pa_cons (pv 3) (pa_cons (pv 1) pa_nil))))) pa_nil))))))))), ?_⟩
      refine ⟨_, rfl, v, .ty "tuple", _, _, _, rfl, .ty _, rp_ty rp, kit_tup d, _, rfl, ite2 (fun h1 => ?_) (fun h1 => ?_)⟩
      · have nt : isTup d = false := by simpa using h1
        refine iteT ⟨_, rfl, k v H (.refl _) ?_⟩
        have : ren (byT A A') (byT B B') (byT C C') d = d := by cases d <;> first | (cases nt; done) | (simp only [ren])
        rw [this]
        exact rp
      cases d with
      | tuple ds =>
        cases rp with
        | @tup a xs _ q rr =>
          refine ⟨_, rfl, a, xs, rfl, .inr q, rfl, _, rfl, ite2 (fun h2 => ?_) (fun h2 => ?_)⟩
          · cases rr with
            | nil =>
              refine iteT ⟨_, rfl, k _ H (.refl _) ?_⟩
              rw [ren_tup]
              simp only [renT]
              exact .tup q .nil
            | cons r0 rt => exact absurd (len_is h2) (by simp; omega)
          cases rr with
          | nil => exact absurd rfl (len_ne h2)
          | @cons hv xv hd t r0 rt =>
          refine ⟨_, rfl, a, hv :: xv, 0, hv, rfl, rfl, q, atI_nat (j := 0) rfl, by decide, fun tv G2 ntv st et => ⟨hd, tv, ["value", "body", "fail"], Rp.same st r0, rfl, SqT.of et, _, rfl, ite2 (fun h3 => ?_) (fun h3 => ?_)⟩⟩
          · refine ⟨_, rfl, k _ G2 st ?_⟩
            obtain ⟨z, rfl⟩ := any_str h3
            rw [any_vb] at h3
            rw [ren_vb h3]
            exact Rp.same st (.tup q (.cons r0 rt))
          have q2 := sqT_same st q
          have r02 := Rp.same st r0
          have rt2 := RpAll.same st rt
          have tds : ∀ d ∈ hd :: t, tu d = true := tuAll_mem.mp td
          have el2 := st _ _ el
          have e02 := st _ _ e0
          have e12 := st _ _ e1
          have e22 := st _ _ e2
          refine ⟨_, rfl, a, hv :: xv, 0, hv, rfl, rfl, q2, atI_nat (j := 0) rfl, hv, .ty "tuple", _, _, _, rfl, .ty _, rp_ty r02, kit_tup hd, _, rfl, ite2 (fun h4 => ?_) (fun h4 => ?_)⟩
          · obtain ⟨h0, rfl⟩ : ∃ h0, hd = .tuple h0 := by
              cases hd <;> first | exact ⟨_, rfl⟩ | cases h4
            obtain ⟨l100, okp⟩ := ok
            have okp : ∀ e ∈ .tuple h0 :: t, okT m e := okp
            have lx : (hv :: xv).length = (PyData.tuple h0 :: t).length := RpAll.len (.cons r02 rt2)
            refine ⟨_, rfl, a, rfl, ⟨_, q2⟩, fun D hD => lc_tup (xs := hv :: xv) (fun i G => RnI K (byT A A') (byT B B') (byT C C') (.tuple h0 :: t) G2 D i G) (RnI.start hD) (fun i G _ x => sqT_same x.s q2) (fun i x G hx hi => ?_) (fun G hi => ?_)⟩
            · refine ⟨rfl, ?_⟩
              unfold tYes
              simp only [↓reduceIte]
              obtain ⟨d, hd, rd⟩ := rp_get (.cons r02 rt2) hx
              refine ⟨_, rfl, _, rfl, x, d, l, d0, d1, d2, A, A', B, B', C, C', rfl, hi.s _ _ el2, hi.s _ _ e02, hi.s _ _ e12, hi.s _ _ e22, Rp.same hi.s rd, tds d (List.mem_of_getElem? hd), okp d (List.mem_of_getElem? hd), fun v' H' sv rv => ?_⟩
              obtain ⟨vs, e, le, nx⟩ := hi.more hD tds hd sv rv
              have := (List.getElem?_eq_some_iff.mp hx).1
              exact ⟨vs, e, szl (by omega), nx⟩
            · obtain ⟨vs, e, le, rv⟩ := hi.l
              refine ⟨D, vs, rfl, SqL.of e, fun r o nr c1 c2 => k _ _ ((st.trans hi.s).trans (same_new nr)) ?_⟩
              rw [ren_tup, renT_tups (by intro z t' ez; cases ez)]
              rw [lx, List.take_length] at rv
              exact .tup (.inl (.inr ⟨o, upd_same⟩)) (RpAll.same (same_new nr) rv)
          obtain ⟨z, rfl⟩ : ∃ z, hd = .str z := by
            obtain ⟨_, okp⟩ := ok
            cases hd with
            | str z => exact ⟨z, rfl⟩
            | tuple h0 => exact absurd rfl h4
            | _ => exact (show False from okp).elim
          cases r02
          rw [any_vb] at h3
          refine ⟨_, rfl, a, .str z :: xv, 0, .str z, rfl, rfl, q2, atI_nat (j := 0) rfl, by decide, fun tw G3 ntw sw ew => ⟨.str z, tw, ["row", "set"], .str z, rfl, SqT.of ew, _, rfl, ite2 (fun h5 => ?_) (fun h5 => ?_)⟩⟩
          · rw [any_rs] at h5
            obtain ⟨l100, okp⟩ := ok
            obtain ⟨x, t', rfl, okt⟩ : ∃ x t', t = .str x :: t' ∧ ∀ e ∈ t', okT m e := by
              rcases okp with o | ⟨_, _, o⟩ | ⟨o, _⟩ | ⟨_, o, _⟩
              · exact absurd o h3
              · exact o
              · rw [o] at h5
                exact absurd h5 (by decide +kernel)
              · rw [o] at h5
                cases h5
            have s23 := sw
            have q3 := sqT_same sw q2
            have rt3 := RpAll.same sw rt2
            cases rt3 with
            | @cons x0 xw _ _ rx rt3 =>
            cases rx
            refine ⟨_, rfl, a, _, 0, _, rfl, rfl, q3, atI_nat (j := 0) rfl, _, rfl, l, _, 0, _, rfl, rfl, SqL.of (sw _ _ el2), atI_nat (j := 0) rfl, d0, rfl, .inl ⟨_, .inl (sw _ _ e02)⟩, _, rfl, a, _, 1, _, rfl, rfl, q3, atI_nat (j := 1) rfl, _, rfl, a, _, 1, _, rfl, rfl, q3, atI_nat (j := 1) rfl, _, DGet.k (k := .inr x) (sw _ _ e02), (by show 2 ≤ sizeLine; decide), fun tp G4 ntp sp ep => ?_⟩
            rw [byT_val] at ep
            have s24 := sw.trans sp
            refine ⟨_, rfl, 2, rfl, a, _, rfl, sqT_same sp q3, by rw [show (2 : Int) = ((2 : Nat) : Int) from rfl, HT.sIx_nat]; exact fun h => absurd h.1 (by simp), fun pc nc => ?_⟩
            have ec : cutV (V.str z :: V.str x :: xw) (some 2) none = xw := cut1 (i := 2)
            rw [ec]
            have sc := s24.trans (same_new (o := .tup xw) nc)
            have lx : xw.length = t'.length := RpAll.len rt3
            have td' : ∀ d ∈ t', tu d = true := fun d m => tds d (List.mem_cons_of_mem _ (List.mem_cons_of_mem _ m))
            have rtc := RpAll.same (sp.trans (same_new (o := .tup xw) nc)) rt3
            refine ⟨pc, rfl, ⟨_, SqT.of upd_same⟩, fun D hD => lc_tup (xs := xw) (fun i G => RnI K (byT A A') (byT B B') (byT C C') t' (upd G4 pc (.tup xw)) D i G) (RnI.start hD) (fun i G _ x => sqT_same x.s (SqT.of upd_same)) (fun i y G hx hi => ?_) (fun G hi => ?_)⟩
            · refine ⟨rfl, ?_⟩
              unfold tYes
              simp only [↓reduceIte]
              obtain ⟨d, hd, rd⟩ := rp_get rtc hx
              have sG := sc.trans hi.s
              refine ⟨_, rfl, _, rfl, y, d, l, d0, d1, d2, A, A', B, B', C, C', rfl, sG _ _ el2, sG _ _ e02, sG _ _ e12, sG _ _ e22, Rp.same hi.s rd, td' d (List.mem_of_getElem? hd), okt d (List.mem_of_getElem? hd), fun v' H' sv rv => ?_⟩
              obtain ⟨vs, e, le, nx⟩ := hi.more hD td' hd sv rv
              have := (List.getElem?_eq_some_iff.mp hx).1
              simp only [List.length_cons] at l100
              exact ⟨vs, e, szl (by omega), nx⟩
            · obtain ⟨vs, e, le, rv⟩ := hi.l
              rw [lx, List.take_length] at rv
              simp only [List.length_cons] at l100
              have erv : ren (byT A A') (byT B B') (byT C C') (.tuple (.str z :: .str x :: t')) = .tuple (.str z :: .str (byT A A' x) :: renA (byT A A') (byT B B') (byT C C') t') := ren_rs (by simpa using h3) h5
              have sG := sc.trans hi.s
              have etp := ((same_new (o := .tup xw) nc).trans hi.s) _ _ ep
              have lvs : vs.length ≤ 100 := by omega
              refine ⟨D, vs, rfl, SqL.of e, fun r o nr c1 c2 => ⟨tp, r, [.str z, .str (byT A A' x)], vs, rfl, rfl, SqT.of (same_new nr _ _ etp), .inl (.inr ⟨o, upd_same⟩), by simp, szl2 (by simp; omega), fun hv => k _ _ ((st.trans sG).trans (same_new nr)) ?_, fun hv p5 n5 => k _ _ (((st.trans sG).trans (same_new nr)).trans (same_new n5)) ?_⟩⟩
              · rw [erv]
                rw [hv] at rv
                cases hA : renA (byT A A') (byT B B') (byT C C') t' with
                | nil => exact .tup (SqT.of (same_new nr _ _ etp)) (.cons (.str _) (.cons (.str _) .nil))
                | cons a b =>
                  rw [hA] at rv
                  cases rv
              · rw [erv]
                exact .tup (SqT.of upd_same) (.cons (.str _) (.cons (.str _) (RpAll.same ((same_new nr).trans (same_new n5)) rv)))
          rw [any_rs] at h5
          have q3 := sqT_same sw q2
          have rt3 := RpAll.same sw rt2
          have el3 := sw _ _ el2
          have e03 := sw _ _ e02
          have e13 := sw _ _ e12
          have e23 := sw _ _ e22
          have nvb : isVB z = false := by simpa using h3
          have nrs : isRS z = false := by simpa using h5
          refine ⟨_, rfl, a, _, 0, _, rfl, rfl, q3, atI_nat (j := 0) rfl, rfl, _, rfl, ite2 (fun h6 => ?_) (fun h6 => ?_)⟩
          · have ez : z = "send" := V.str.inj (of_decide_eq_true h6)
            obtain ⟨l100, okp⟩ := ok
            obtain ⟨kk, y, e, rfl, oy, oke⟩ : ∃ k y e, t = [.str k, y, e] ∧ (y = .none ∨ ∃ w, y = .str w) ∧ okT m e := by
              rcases okp with o | ⟨_, o, _⟩ | ⟨_, o⟩ | ⟨_, _, o, _⟩
              · exact absurd o h3
              · exact absurd o h5
              · exact o
              · rw [ez] at o
                exact absurd o (by decide +kernel)
            subst ez
            cases rt3 with
            | @cons x0 xw _ _ rx rt3 =>
            cases rx
            cases rt3 with
            | @cons vy xu _ _ ry rt3 =>
            cases rt3 with
            | @cons ve xs' _ _ re rt3 =>
            cases rt3
            refine ⟨_, rfl, a, _, 2, _, rfl, rfl, q3, atI_nat (j := 2) rfl, rfl, _, rfl, ?_⟩
            rcases oy with rfl | ⟨yy, rfl⟩
            · cases ry
              refine ite2 (fun _ => ?_) (fun h7 => absurd (decide_eq_true rfl) h7)
              · refine ⟨_, rfl, l, _, 2, _, rfl, rfl, SqL.of el3, atI_nat (j := 2) rfl, d2, rfl, .inl ⟨_, .inl e23⟩, _, rfl, a, _, 1, _, rfl, rfl, q3, atI_nat (j := 1) rfl, _, rfl, a, _, 1, _, rfl, rfl, q3, atI_nat (j := 1) rfl, _, DGet.k (k := .inr kk) e23, _, rfl, _, rfl, a, _, 3, _, rfl, rfl, q3, atI_nat (j := 3) rfl, _, rfl, ve, e, l, d0, d1, d2, A, A', B, B', C, C', rfl, el3, e03, e13, e23, re, tds e (by simp), oke, fun v' H' sv rv => ⟨(by show 4 ≤ sizeLine; decide), fun tp G4 ntp sp ep => k _ _ (((st.trans sw).trans sv).trans sp) ?_⟩⟩
                rw [byT_val] at ep
                rw [ren_send]
                exact .tup (SqT.of ep) (.cons (.str _) (.cons (.str _) (.cons .non (.cons (Rp.same sp rv) .nil))))

            · cases ry
              refine ite2 (fun h7 => absurd (of_decide_eq_true h7) (by intro z; cases z)) (fun _ => ?_)
              · refine ⟨_, rfl, l, _, 1, _, rfl, rfl, SqL.of el3, atI_nat (j := 1) rfl, d1, rfl, .inl ⟨_, .inl e13⟩, _, rfl, a, _, 2, _, rfl, rfl, q3, atI_nat (j := 2) rfl, _, rfl, a, _, 2, _, rfl, rfl, q3, atI_nat (j := 2) rfl, _, DGet.k (k := .inr yy) e13, ?_⟩
                refine ⟨_, rfl, l, _, 2, _, rfl, rfl, SqL.of el3, atI_nat (j := 2) rfl, d2, rfl, .inl ⟨_, .inl e23⟩, _, rfl, a, _, 1, _, rfl, rfl, q3, atI_nat (j := 1) rfl, _, rfl, a, _, 1, _, rfl, rfl, q3, atI_nat (j := 1) rfl, _, DGet.k (k := .inr kk) e23, _, rfl, _, rfl, a, _, 3, _, rfl, rfl, q3, atI_nat (j := 3) rfl, _, rfl, ve, e, l, d0, d1, d2, A, A', B, B', C, C', rfl, el3, e03, e13, e23, re, tds e (by simp), oke, fun v' H' sv rv => ⟨(by show 4 ≤ sizeLine; decide), fun tp G4 ntp sp ep => k _ _ (((st.trans sw).trans sv).trans sp) ?_⟩⟩
                rw [byT_val] at ep
                rw [ren_send]
                exact .tup (SqT.of ep) (.cons (.str _) (.cons (.str _) (.cons (by rw [byT_val]; exact .str _) (.cons (Rp.same sp rv) .nil))))

          obtain ⟨l100, okp⟩ := ok
          obtain ⟨ns, net, okt⟩ : (z == "send") = false ∧ t ≠ [] ∧ ∀ e ∈ t, okT m e := by
            rcases okp with o | ⟨_, o, _⟩ | ⟨o, _⟩ | ⟨_, _, o⟩
            · exact absurd o h3
            · exact absurd o h5
            · exact absurd (decide_eq_true (congrArg V.str o)) h6
            · exact o
          have lxv : xv.length = t.length := RpAll.len rt3
          have lt0 : 0 < t.length := List.length_pos_iff.mpr net
          simp only [List.length_cons] at l100
          refine ⟨_, rfl, 1, rfl, a, _, rfl, q3, by rw [show (1 : Int) = ((1 : Nat) : Int) from rfl, HT.sIx_nat]; simp only [List.length_cons]; omega, fun ph nh => ?_⟩
          rw [cutH]
          have sh := same_new (o := .tup [.str z]) nh
          refine ⟨_, rfl, 1, rfl, a, _, rfl, sqT_same sh q3, by rw [show (1 : Int) = ((1 : Nat) : Int) from rfl, HT.sIx_nat]; exact fun h => absurd h.1 (by simp), fun pc nc => ?_⟩
          have ec : cutV (V.str z :: xv) (some 1) none = xv := cut1 (i := 1)
          rw [ec]
          have s2c := sh.trans (same_new (o := .tup xv) nc)
          have sc := sw.trans s2c
          have td' : ∀ d ∈ t, tu d = true := fun d m => tds d (List.mem_cons_of_mem _ m)
          have rtc := RpAll.same s2c rt3
          have eph := (same_new (o := .tup xv) nc) _ _ (upd_same (H := G3) (a := ph) (o := .tup [.str z]))
          generalize hGc : upd (upd G3 ph (.tup [.str z])) pc (.tup xv) = Gc at *
          have epc : Gc pc = some (.tup xv) := by rw [← hGc]; exact upd_same
          refine ⟨pc, rfl, ⟨_, SqT.of epc⟩, fun D hD => lc_tup (xs := xv) (fun i G => RnI K (byT A A') (byT B B') (byT C C') t Gc D i G) (RnI.start hD) (fun i G _ x => SqT.of (x.s _ _ epc)) (fun i y G hx hi => ?_) (fun G hi => ?_)⟩
          · refine ⟨rfl, ?_⟩
            unfold tYes
            simp only [↓reduceIte]
            obtain ⟨d, hd, rd⟩ := rp_get rtc hx
            have sG := sc.trans hi.s
            refine ⟨_, rfl, _, rfl, y, d, l, d0, d1, d2, A, A', B, B', C, C', rfl, sG _ _ el2, sG _ _ e02, sG _ _ e12, sG _ _ e22, Rp.same hi.s rd, td' d (List.mem_of_getElem? hd), okt d (List.mem_of_getElem? hd), fun v' H' sv rv => ?_⟩
            obtain ⟨vs, e, le, nx⟩ := hi.more hD td' hd sv rv
            have := (List.getElem?_eq_some_iff.mp hx).1
            exact ⟨vs, e, szl (by omega), nx⟩
          · obtain ⟨vs, e, le, rv⟩ := hi.l
            rw [lxv, List.take_length] at rv
            have erv : ren (byT A A') (byT B B') (byT C C') (.tuple (.str z :: t)) = .tuple (.str z :: renA (byT A A') (byT B B') (byT C C') t) := ren_other nvb nrs ns
            have sG := sc.trans hi.s
            have etp := hi.s _ _ eph
            have lvs : vs.length ≤ 100 := by omega
            refine ⟨D, vs, rfl, SqL.of e, fun r o nr c1 c2 => ⟨ph, r, [.str z], vs, rfl, rfl, SqT.of (same_new nr _ _ etp), .inl (.inr ⟨o, upd_same⟩), by simp, szl2 (by simp; omega), fun hv => k _ _ ((st.trans sG).trans (same_new nr)) ?_, fun hv p5 n5 => k _ _ (((st.trans sG).trans (same_new nr)).trans (same_new n5)) ?_⟩⟩
            · rw [erv]
              rw [hv] at rv
              cases hA : renA (byT A A') (byT B B') (byT C C') t with
              | nil => exact .tup (SqT.of (same_new nr _ _ etp)) (.cons (.str _) .nil)
              | cons a b =>
                rw [hA] at rv
                cases rv
            · rw [erv]
              exact .tup (SqT.of upd_same) (.cons (.str _) (RpAll.same ((same_new nr).trans (same_new n5)) rv))
      | _ => exact absurd rfl h1
end
end Hd

set_option Elab.async false
set_option linter.all false
set_option maxRecDepth 100000
set_option maxHeartbeats 8000000
namespace Hd
open PySem L2 Pen RG Dat KEq TxS
/-! ### drawn handlers can be told with other words -/
theorem okL_mono {p q : PyData → Prop} (h : ∀ d, p d → q d) : ∀ {ds : List PyData}, okL p ds → okL q ds
  | [], _ => trivial
  | .str z :: t, o => by
    have o : isVB z = true ∨ (isVB z = false ∧ isRS z = true ∧ ∃ x t', t = .str x :: t' ∧ ∀ e ∈ t', p e) ∨ (z = "send" ∧ ∃ k y e, t = [.str k, y, e] ∧ (y = .none ∨ ∃ w, y = .str w) ∧ p e) ∨ (isVB z = false ∧ isRS z = false ∧ (z == "send") = false ∧ t ≠ [] ∧ ∀ e ∈ t, p e) := o
    rcases o with o | ⟨a, b, x, t', c, e⟩ | ⟨a, k, y, e, b, c, g⟩ | ⟨a, b, c, e, g⟩
    · exact .inl o
    · exact .inr (.inl ⟨a, b, x, t', c, fun d m => h d (e d m)⟩)
    · exact .inr (.inr (.inl ⟨a, k, y, e, b, c, h _ g⟩))
    · exact .inr (.inr (.inr ⟨a, b, c, e, fun d m => h d (g d m)⟩))
  | .tuple a :: t, o => fun e m => h e ((show ∀ e ∈ .tuple a :: t, p e from o) e m)
  | .none :: _, o => o
  | .bool _ :: _, o => o
  | .int _ :: _, o => o
  | .list _ :: _, o => o
  | .dict _ :: _, o => o
theorem okT_succ : ∀ (m : Nat) (d : PyData), okT m d → okT (m + 1) d
  | 0, _, o => o.elim
  | m + 1, .tuple ds, o => ⟨o.1, okL_mono (okT_succ m) o.2⟩
  | _ + 1, .none, _ => trivial
  | _ + 1, .bool _, _ => trivial
  | _ + 1, .int _, _ => trivial
  | _ + 1, .str _, _ => trivial
  | _ + 1, .list _, _ => trivial
  | _ + 1, .dict _, _ => trivial
theorem okT_mono {m n : Nat} {d : PyData} (h : m ≤ n) (o : okT m d) : okT n d := by
  induction h with
  | refl => exact o
  | step _ ih => exact okT_succ _ _ ih
theorem okT_other {m : Nat} {z : Str} {t : List PyData} (l : t.length ≤ 99) (a : isVB z = false ∧ isRS z = false ∧ (z == "send") = false) (n : t ≠ []) (k : ∀ e ∈ t, okT m e) : okT (m + 1) (.tuple (.str z :: t)) :=
  ⟨by rw [List.length_cons]; omega, .inr (.inr (.inr ⟨a.1, a.2.1, a.2.2, n, k⟩))⟩
theorem okT_e : ∀ (n : Nat) (d : PyData), isE n d = true → okT n d
  | n, d, hd0 => by
    obtain ⟨k, hd, tl, e, rfl, q⟩ := e_cases hd0
    subst e
    rcases q with ⟨h1, i, rfl, i0, i1⟩ | ⟨_, h1, rfl⟩ | ⟨_, _, h1, z, rfl, wz⟩ | ⟨_, _, _, h1, a, b, rfl, ea, eb⟩
    · rw [isS_is h1]
      exact ⟨by simp, .inl (by decide +kernel)⟩
    · rw [isS_is h1]
      exact ⟨by simp, .inl (by decide +kernel)⟩
    · rw [isS_is h1]
      exact ⟨by simp, .inr (.inl ⟨by decide +kernel, by decide +kernel, z, [], rfl, fun e m => by cases m⟩)⟩
    · obtain ⟨z, m1, m2⟩ := List.any_eq_true.mp h1
      rw [isS_is m2]
      have ha := okT_e k a ea
      have hb := okT_e k b eb
      exact okT_other (by simp) (ops_vb m1) (by simp) fun e m => by
        simp only [List.mem_cons, List.not_mem_nil, or_false] at m
        rcases m with rfl | rfl
        · exact ha
        · exact hb
theorem okT_c : ∀ (n : Nat) (d : PyData), isC n d = true → okT (n + 6) d
  | n, d, hd0 => by
    obtain ⟨k, e, q⟩ := c_cases hd0
    subst e
    rw [show k + 1 + 6 = (k + 6) + 1 by omega]
    rcases q with ⟨z, a, b, hz, rfl, ea, eb⟩ | ⟨a, rfl, ca⟩ | ⟨z, a, b, hz, rfl, ca, cb⟩
    · exact okT_other (by simp) (cmp_vb hz) (by simp) fun e m => by
        simp only [List.mem_cons, List.not_mem_nil, or_false] at m
        rcases m with rfl | rfl
        · exact okT_mono (by omega) (okT_e 6 _ ea)
        · exact okT_mono (by omega) (okT_e 6 _ eb)
    · have ha := okT_c k a ca
      exact okT_other (by simp) (by decide +kernel) (by simp) fun e m => by
        rw [List.mem_singleton.mp m]
        exact ha
    · have ha := okT_c k a ca
      have hb := okT_c k b cb
      exact okT_other (by simp) (and_vb hz) (by simp) fun e m => by
        simp only [List.mem_cons, List.not_mem_nil, or_false] at m
        rcases m with rfl | rfl
        · exact ha
        · exact hb
theorem vD_pos {Z : Wz} {i x : Nat} {d : PyData} (h : vD Z i d x) : 1 ≤ x := by
  cases i with
  | zero => exact Nat.le_of_eq h.2.2.symm
  | succ i =>
    rcases h with h | ⟨_, _, _, _, _, _, _, _, _, _, e⟩
    · exact Nat.le_of_eq h.2.2.symm
    · omega
theorem vA_len {Z : Wz} {i : Nat} : ∀ {ds : List PyData} {n : Nat}, vA (vD Z i) ds n → ds.length ≤ n
  | [], _, _ => Nat.zero_le _
  | d :: ds, n, ⟨x, y, a, b, e⟩ => by
    have := vA_len b
    have := vD_pos a
    rw [List.length_cons]
    omega
theorem okT_one {m : Nat} {d : PyData} (o : isOne d = true) : okT (m + 7) d := by
  rcases deed_cases (deed_one (i := 0) (r := 1) o) with ⟨rfl, e⟩ | ⟨n, x, rfl, wn, xe, e⟩ | ⟨n, k, x, rfl, wn, hkk, xe, e⟩ | ⟨j', c, as, bs, r1, ej, _⟩
  · exact ⟨by simp, .inl (by decide +kernel)⟩
  · exact ⟨by simp, .inr (.inl ⟨by decide +kernel, by decide +kernel, n, [x], rfl, fun e m => by
      rw [List.mem_singleton.mp m]
      exact okT_mono (by omega) (okT_e 6 _ xe)⟩)⟩
  · refine ⟨by simp, .inr (.inr (.inl ⟨rfl, n, k, x, rfl, ?_, okT_mono (by omega) (okT_e 6 _ xe)⟩))⟩
    cases k with
    | none => exact .inl rfl
    | str w => exact .inr ⟨w, rfl⟩
    | _ => cases hkk
  · cases ej
theorem okT_tup {Z : Wz} {i m : Nat} {ds : List PyData} {n : Nat} (va : vA (vD Z i) ds n) (h : n ≤ 12) (k : ∀ d ∈ ds, okT m d) : okT (m + 1) (.tuple ds) := by
  refine ⟨Nat.le_trans (vA_len va) (by omega), ?_⟩
  cases ds with
  | nil => trivial
  | cons d ds =>
    obtain ⟨x, hx⟩ := vA_mem va List.mem_cons_self
    obtain ⟨as, rfl⟩ := vD_tup hx
    exact k
theorem okT_d {Z : Wz} : ∀ (i : Nat) (d : PyData) (x : Nat), vD Z i d x → x ≤ 12 → okT (13 + 2 * i) d
  | 0, d, x, v, _ => okT_one (m := 6) v.1
  | i + 1, d, x, v, hx => by
    rcases v with v | ⟨c, a, b, u, y, rfl, hc, gc, va, vb, e⟩
    · exact okT_mono (by omega) (okT_one (m := 6) v.1)
    · have sub : ∀ {ds : List PyData} {n : Nat}, vA (vD Z i) ds n → ∀ d ∈ ds, ∃ x, vD Z i d x ∧ x ≤ n := by
        intro ds
        induction ds with
        | nil => exact fun _ d m => by cases m
        | cons d ds ih =>
          intro n ⟨x, y, a, b, e⟩ d' m
          rcases List.mem_cons.mp m with q | q
          · rw [q]
            exact ⟨x, a, by omega⟩
          · obtain ⟨x', h1, h2⟩ := ih b d' q
            exact ⟨x', h1, by omega⟩
      have ta : okT (13 + 2 * i + 1) (.tuple a) := okT_tup va (by omega) fun d m => by
        obtain ⟨x', h1, h2⟩ := sub va d m
        exact okT_d i d x' h1 (by omega)
      have tb : okT (13 + 2 * i + 1) (.tuple b) := okT_tup vb (by omega) fun d m => by
        obtain ⟨x', h1, h2⟩ := sub vb d m
        exact okT_d i d x' h1 (by omega)
      rw [show 13 + 2 * (i + 1) = (13 + 2 * i + 1) + 1 by omega]
      exact okT_other (by simp) (by decide +kernel) (by simp) fun e m => by
        simp only [List.mem_cons, List.not_mem_nil, or_false] at m
        rcases m with rfl | rfl | rfl
        · exact okT_mono (by omega) (okT_c 6 _ hc)
        · exact ta
        · exact tb
theorem okT_hand {Z : Wz} {ds : List PyData} {n : Nat} (va : vA (vD Z 3) ds n) (h : n ≤ 12) : okT 20 (.tuple ds) := by
  refine okT_tup (m := 19) va h ?_
  have sub : ∀ {ds : List PyData} {n : Nat}, vA (vD Z 3) ds n → n ≤ 12 → ∀ d ∈ ds, okT 19 d := by
    intro ds
    induction ds with
    | nil => exact fun _ _ d m => by cases m
    | cons d ds ih =>
      intro n ⟨x, y, a, b, e⟩ h12 d' m
      rcases List.mem_cons.mp m with q | q
      · rw [q]
        exact okT_d 3 d x a (by omega)
      · exact ih b (by omega) d' q
  exact sub va h
end Hd

set_option Elab.async false
set_option linter.all false
set_option maxRecDepth 100000
set_option maxHeartbeats 8000000
namespace Hd
open PySem L2 Pen RG Dat KEq TxS
/-- 'a' * k, its value told -/
def rMulE : R2 := fun x y G Want => ∃ (z : Str) (k : Int), x = .str z ∧ y = .int k ∧ z.length = 1 ∧ 1 ≤ k ∧ k ≤ 100 ∧ Want (.str (Txt.mul z k)) G
theorem op_mulE {X : Cx} : OpR X (binaryOp .Mult) rMulE := by
  intro pins st σ G x y v u Want I rx ry h
  obtain ⟨z, k, rfl, rfl, z1, k1, k2, q⟩ := h
  obtain ⟨t, rfl⟩ := rx
  obtain ⟨t2, rfl⟩ := ry
  refine SB.mul ⟨?_, ?_, ?_⟩ fun t' tk => ⟨.str (Txt.mul z k), G, I.tok tk, ⟨_, rfl⟩, q⟩
  · rw [decide_eq_false (by omega), decide_eq_false (by omega)]
    rfl
  · intro _ _
    rw [z1]
    have : (1 : Int) ≤ (2 ^ 63 - 1) / k := by
      apply Int.le_ediv_of_mul_le (by omega)
      omega
    omega
  · intro _ _
    rw [z1]
    have : k.toNat ≤ 100 := by omega
    show decide (1 * k.toNat > sizeLine) = false
    exact decide_eq_false (by have : 100 ≤ sizeLine := by decide
                              omega)
/-- a call that may raise, where it does not -/
theorem passX {P : Program} {w : World} {X : Cx} : Passes (L2.CX P w) X (fun _ _ _ => False) := fun _ _ _ _ _ _ _ c => by
  obtain ⟨_, _, _, _, _, _, _, _, _, _, _, _, z⟩ := c
  exact z.elim
mutual
theorem dp_of {K : PySem.W.Frag} {G : Hp} : ∀ {d : PyData} {v : V}, tu d = true → Rp K G v d → Dp K G v d
  | .none, _, _, .non => .non
  | .bool _, _, _, .bl b => .bl b
  | .int _, _, _, .int i => .int i
  | .str _, _, _, .str x => .str x
  | .list _, _, h, _ => by cases h
  | .tuple ds, _, h, .tup a r => .tup a (dp_ofs (show tuAll ds = true from h) r)
  | .dict _, _, h, _ => by cases h
theorem dp_ofs {K : PySem.W.Frag} {G : Hp} : ∀ {ds : List PyData} {vs : List V}, tuAll ds = true → RpAll K G vs ds → DpAll K G vs ds
  | [], _, _, .nil => .nil
  | d :: ds, _, h, .cons a r => by
    have z : (tu d && tuAll ds) = true := h
    rw [Bool.and_eq_true] at z
    exact .cons (dp_of z.1 a) (dp_ofs z.2 r)
end
theorem tu_rows : ∀ L : List (Z × Int), tuAll (L.map rowD) = true
  | [] => rfl
  | e :: L => by
    show (tu (rowD e) && tuAll (L.map rowD)) = true
    rw [tu_rows L]
    rfl
theorem tu_snds : ∀ L : List (Str × Str × Int), tuAll (L.map sndD) = true
  | [] => rfl
  | e :: L => by
    show (tu (sndD e) && tuAll (L.map sndD)) = true
    rw [tu_snds L]
    rfl
theorem tu_res (x : Bool × Sta) (zs : List Z) : tu (resD x zs) = true := by
  unfold resD
  split
  · show (true && (tuAll ((rowsOf x.2.t zs).map rowD) && (tuAll (x.2.ss.map sndD) && true))) = true
    rw [tu_rows, tu_snds]
    rfl
  · rfl
theorem word_ok {x : Str} (h : isWord (.str x) = true) : PyData.strOk x = true := by
  have h : (decide (1 ≤ x.length) && decide (x.length ≤ 6) && x.cps.toList.all fun c => decide (c ∈ abc.cps.toList)) = true := h
  rw [Bool.and_eq_true, List.all_eq_true] at h
  have small : ∀ c ∈ abc.cps.toList, c < 0x110000 := by decide +kernel
  unfold PyData.strOk
  rw [← Array.all_toList, List.all_eq_true]
  exact fun c hc => decide_eq_true (small c (of_decide_eq_true (h.2 c hc)))
theorem lay_rows : ∀ {L : List (Z × Int)}, TbOk L → PyData.canLayAll0 (L.map rowD) = true
  | [], _ => rfl
  | e :: L, h => by
    have a := lay_rows (L := L) fun x hx => h x (List.mem_cons_of_mem _ hx)
    obtain ⟨w1, w2, _⟩ := h e List.mem_cons_self
    rw [List.map_cons]
    simp [PyData.canLayAll0, PyData.canLay0, rowD, a, word_ok w1, word_ok w2]
theorem lay_snds : ∀ {L : List (Str × Str × Int)}, (∀ e ∈ L, isWord (.str e.1) = true ∧ isWord (.str e.2.1) = true ∧ -99 ≤ e.2.2 ∧ e.2.2 ≤ 99) → PyData.canLayAll0 (L.map sndD) = true
  | [], _ => rfl
  | e :: L, h => by
    have a := lay_snds (L := L) fun x hx => h x (List.mem_cons_of_mem _ hx)
    obtain ⟨w1, w2, _⟩ := h e List.mem_cons_self
    rw [List.map_cons]
    simp [PyData.canLayAll0, PyData.canLay0, sndD, a, word_ok w1, word_ok w2]
theorem snds_shaped {L : List (Str × Str × Int)} (h : ∀ e ∈ L, isWord (.str e.1) = true ∧ isWord (.str e.2.1) = true ∧ -99 ≤ e.2.2 ∧ e.2.2 ≤ 99) : SeqAt.shaped (.tuple [.tuple (L.map sndD)]) = true := by
  have d := dp_snds L
  unfold SeqAt.shaped
  rw [Bool.and_eq_true]
  refine ⟨by simp [PyData.canLayAll0, PyData.canLay0, lay_snds h], decide_eq_true ?_⟩
  show max (PyData.depthAll (L.map sndD) + 1) 0 + 1 ≤ 64
  omega
theorem res_shaped {x : Bool × Sta} {zs : List Z} (ok : StOk x.2) (srt : Srt (x.2.t.map (·.1)) zs) : SeqAt.shaped (resD x zs) = true := by
  unfold resD
  split
  · have ro := rows_ok ok.t srt
    have d1 := dp_rows (rowsOf x.2.t zs)
    have d2 := dp_snds x.2.ss
    have wd : PyData.strOk "done" = true := by decide +kernel
    unfold SeqAt.shaped
    rw [Bool.and_eq_true]
    refine ⟨by simp [PyData.canLayAll0, PyData.canLay0, lay_rows ro.ok, lay_snds ok.s, wd, rowsD], decide_eq_true ?_⟩
    show max 0 (max (PyData.depthAll ((rowsOf x.2.t zs).map rowD) + 1) (max (PyData.depthAll (x.2.ss.map sndD) + 1) 0)) + 1 ≤ 64
    omega
  · decide +kernel
/-- the same data: not unequal -/
theorem ne_not {d : PyData} (s : SeqAt.shaped d = true) : ¬ (!PyData.eqv d d) = true := by
  rw [SeqAt.eqv_refl d (SeqAt.canLay_of_shaped s)]
  simp
theorem list20 {α : Type} {τ : List α} (h : τ.length = 20) : ∃ x0 x1 x2 x3 x4 x5 x6 x7 x8 x9 x10 x11 x12 x13 x14 x15 x16 x17 x18 x19, τ = [x0, x1, x2, x3, x4, x5, x6, x7, x8, x9, x10, x11, x12, x13, x14, x15, x16, x17, x18, x19] := by
  match τ, h with
  | [x0, x1, x2, x3, x4, x5, x6, x7, x8, x9, x10, x11, x12, x13, x14, x15, x16, x17, x18, x19], _ => exact ⟨x0, x1, x2, x3, x4, x5, x6, x7, x8, x9, x10, x11, x12, x13, x14, x15, x16, x17, x18, x19, rfl⟩
/-- the tables of words, one after another -/
structure WdSt (p c : Addr) (ns : List Int) (b : Nat) (lw tp : Addr) (G0 G1 : Hp) (As : List (List Str)) (τ : L2.St) (i : Nat) (σ : L2.St) (G : Hp) : Prop where
  s : ∃ v, σ = τ.set 8 v
  pen : PenAt G p c ns (b + 100 * i)
  x : SameX p G0 G
  t : G tp = G1 tp
  l : ∃ ds : List Addr, G lw = some (.lst (ds.map V.ref)) ∧ ds.length = i ∧ ∀ (j : Nat) (d : Addr) (A : List Str), ds[j]? = some d → As[j]? = some A → d ≠ p ∧ ∃ Y : List Str, G d = some (.dK (wordsK A Y)) ∧ Y.Perm ["m", "qqqqqq", "zq"]
theorem RowsAt.sameX {H G : Hp} {p r : Addr} {L : List (Z × Int)} {kvs : List (L2.Key × V)} (x : RowsAt H r L) (hp : H p = some (.dK kvs)) (s : SameX p H G) : RowsAt G r L := by
  obtain ⟨ts, ⟨o, a, b, e⟩, pr⟩ := x
  refine ⟨ts, ⟨o, a, b, s _ _ (ne_of e hp (by intro z; cases z)) e⟩, ?_⟩
  clear e
  induction pr with
  | nil => exact .nil
  | cons x _ ih =>
    refine .cons ?_ ih
    obtain ⟨c, e1, e2⟩ := x
    exact ⟨c, s _ _ (ne_of e1 hp (by intro z; cases z)) e1, s _ _ (ne_of e2 hp (by intro z; cases z)) e2⟩
/-- the end of a run, as data, whatever the keys' order is told by -/
theorem RunAt.zs {H : Hp} {res : Addr} {x : Bool × Sta} (a : RunAt H res x) : x.1 = false ∨ ∃ zs, Srt (x.2.t.map (·.1)) zs := by
  cases a with
  | failed h _ => exact .inl h
  | done zs _ _ _ _ s _ _ _ _ => exact .inr ⟨zs, s⟩
/-- two tellings of one run are the same data -/
theorem RunAt.same2 {K : PySem.W.Frag} {H H2 : Hp} {r r2 : Addr} {x : Bool × Sta} (a : RunAt H r x) (b : RunAt H2 r2 x) (ok : StOk x.2) : ∃ D, Dp K H (.ref r) D ∧ Dp K H2 (.ref r2) D ∧ SeqAt.shaped D = true := by
  cases a with
  | failed h e =>
    cases b with
    | failed h2 e2 => exact ⟨.tuple [.str "failed"], .tup (SqT.of e) (.cons (.str _) .nil), .tup (SqT.of e2) (.cons (.str _) .nil), by decide +kernel⟩
    | done zs2 ra sa ts h2 => rw [h] at h2; cases h2
  | done zs ra sa ts h s e r tf ps => exact ⟨resD x zs, dp_of (tu_res x zs) (RunAt.rp (.done zs ra sa ts h s e r tf ps) s), dp_of (tu_res x zs) (RunAt.rp b s), res_shaped ok s⟩
theorem RunAt.move {H G : Hp} {r : Addr} {x : Bool × Sta} (s : Same H G) (a : RunAt H r x) : RunAt G r x := by
  cases a with
  | failed h e => exact .failed h (s _ _ e)
  | done zs ra sa ts h so e rw' tf ps =>
    obtain ⟨o, q1, q2, q3⟩ := tf
    have ps' : ∀ {L : List (Str × Str × Int)} {ts : List Addr}, Paired (SndT H) L ts → Paired (SndT G) L ts := by
      intro L ts x
      induction x with
      | nil => exact .nil
      | cons a _ ih => exact .cons (s _ _ a) ih
    exact .done zs ra sa ts h so (s _ _ e) (rw'.same s) ⟨o, q1, q2, s _ _ q3⟩ (ps' ps)
/-- both ways of an if go on alike -/
theorem after2 {C : Hp → Prop} {A : Hp} {Q : Prop} (h : (∀ H, Same A H → C H) → Q) (k : ∀ H, Same A H → C H) : Q := h k
theorem lt2_irr (a : Z) : KSrt.lt2 a a = false := (PyProof.Rows.listOrd PyProof.Rows.itemOrd).irrefl (KSrt.ordOf a)
theorem RunAt.moveX {H G : Hp} {p r : Addr} {kvs : List (L2.Key × V)} {x : Bool × Sta} (hp : H p = some (.dK kvs)) (s : SameX p H G) (a : RunAt H r x) : RunAt G r x := by
  cases a with
  | failed h e => exact .failed h (s _ _ (ne_of e hp (by intro z; cases z)) e)
  | done zs ra sa ts h so e rw' tf ps =>
    obtain ⟨o, q1, q2, q3⟩ := tf
    have ps' : ∀ {L : List (Str × Str × Int)} {ts : List Addr}, Paired (SndT H) L ts → Paired (SndT G) L ts := by
      intro L ts x
      induction x with
      | nil => exact .nil
      | cons a _ ih => exact .cons (s _ _ (ne_of a hp (by intro z; cases z)) a) ih
    exact .done zs ra sa ts h so (s _ _ (ne_of e hp (by intro z; cases z)) e) (rw'.sameX hp s) ⟨o, q1, q2, s _ _ (ne_of q3 hp (by intro z; cases z)) q3⟩ (ps' ps)
theorem sqT_moveX {K : PySem.W.Frag} {H G : Hp} {p a : Addr} {kvs : List (L2.Key × V)} {zs : List V} (hp : H p = some (.dK kvs)) (s : SameX p H G) (h : SqT K H a zs) : SqT K G a zs := by
  rcases h with (h | ⟨o, h⟩) | h
  · exact .inl (.inl (s _ _ (ne_of h hp (by intro z; cases z)) h))
  · exact .inl (.inr ⟨o, s _ _ (ne_of h hp (by intro z; cases z)) h⟩)
  · exact .inr h
mutual
theorem rp_moveX {K : PySem.W.Frag} {H G : Hp} {p : Addr} {kvs : List (L2.Key × V)} (hp : H p = some (.dK kvs)) (s : SameX p H G) : ∀ {d : PyData} {v : V}, tu d = true → Rp K H v d → Rp K G v d
  | .none, _, _, .non => .non
  | .bool _, _, _, .bl b => .bl b
  | .int _, _, _, .int i => .int i
  | .str _, _, _, .str x => .str x
  | .list _, _, h, _ => by cases h
  | .tuple ds, _, h, .tup a r => .tup (sqT_moveX hp s a) (rp_moveXs hp s (show tuAll ds = true from h) r)
  | .dict _, _, h, _ => by cases h
theorem rp_moveXs {K : PySem.W.Frag} {H G : Hp} {p : Addr} {kvs : List (L2.Key × V)} (hp : H p = some (.dK kvs)) (s : SameX p H G) : ∀ {ds : List PyData} {vs : List V}, tuAll ds = true → RpAll K H vs ds → RpAll K G vs ds
  | [], _, _, .nil => .nil
  | d :: ds, _, h, .cons a r => by
    have z : (tu d && tuAll ds) = true := h
    rw [Bool.and_eq_true] at z
    exact .cons (rp_moveX hp s z.1 a) (rp_moveXs hp s z.2 r)
end
end Hd

set_option Elab.async false
set_option linter.all false
set_option maxRecDepth 100000
set_option maxHeartbeats 8000000
namespace Hd
open PySem L2 Pen RG Dat KEq TxS
/-! ### no long texts in a tree with other words -/
section
variable {f g h : Str → Str}
theorem smAll_mem : ∀ {ds : List PyData}, smAll ds = true ↔ ∀ d ∈ ds, sm d = true
  | [] => ⟨(fun _ d m => by cases m), fun _ => rfl⟩
  | d :: ds => by
    show (sm d && smAll ds) = true ↔ _
    rw [Bool.and_eq_true, smAll_mem]
    exact ⟨fun ⟨a, b⟩ x m => (List.mem_cons.mp m).elim (fun e => e ▸ a) (b x), fun q => ⟨q d List.mem_cons_self, fun x m => q x (List.mem_cons_of_mem _ m)⟩⟩
theorem sm_strE {x : Str} : sm (.str x) = true ↔ x.length ≤ 1000 := by
  show decide _ = true ↔ _
  exact decide_eq_true_iff
theorem renT_len (ds : List PyData) : (renT f g h ds).length = ds.length := by
  cases ds with
  | nil => simp only [renT]
  | cons z t =>
    cases z with
    | str z =>
      simp only [renT]
      split
      · rfl
      split
      · cases t with
        | nil => simp only [renF]
        | cons x t =>
          cases x with
          | str x => simp only [renF, List.length_cons, renA_len]
          | _ => simp only [renF]
      split
      · rw [renS.eq_def]
        split
        · rfl
        · rfl
      · rw [List.length_cons, List.length_cons, renA_len]
    | _ =>
      simp only [renT]
      rw [← renA_cons, renA_len]
theorem sm_renK (hg : ∀ x : Str, x.length ≤ 1000 → (g x).length ≤ 1000) {y : PyData} (e : sm y = true) : sm (renK g y) = true := by
  cases y with
  | str x => exact sm_strE.mpr (hg x (sm_strE.mp e))
  | _ => exact e
theorem sm_A {ds : List PyData} (e : ∀ d ∈ ds, sm d = true) (k : ∀ d ∈ ds, sm d = true → sm (ren f g h d) = true) : ∀ d ∈ renA f g h ds, sm d = true := by
  rw [renA_map]
  intro d m
  obtain ⟨x, hx, rfl⟩ := List.mem_map.mp m
  exact k x hx (e x hx)
theorem sm_renT (hf : ∀ x : Str, x.length ≤ 1000 → (f x).length ≤ 1000) (hg : ∀ x : Str, x.length ≤ 1000 → (g x).length ≤ 1000) (hh : ∀ x : Str, x.length ≤ 1000 → (h x).length ≤ 1000) {ds : List PyData} (e : ∀ d ∈ ds, sm d = true) (k : ∀ d ∈ ds, sm d = true → sm (ren f g h d) = true) : ∀ d ∈ renT f g h ds, sm d = true := by
  cases ds with
  | nil => simp only [renT]; exact e
  | cons z t =>
    have e' := fun d m => e d (List.mem_cons_of_mem z m)
    have k' := fun d m => k d (List.mem_cons_of_mem z m)
    have ez := e z List.mem_cons_self
    have tA := sm_A e' k'
    cases z with
    | str z =>
      have two : ∀ {x : PyData} {l : List PyData}, sm x = true → (∀ d ∈ l, sm d = true) → ∀ d ∈ x :: l, sm d = true := fun a b d m => (List.mem_cons.mp m).elim (fun q => q ▸ a) (b d)
      simp only [renT]
      split
      · exact e
      split
      · refine two ez ?_
        cases t with
        | nil => simp only [renF]; exact e'
        | cons x t =>
          cases x with
          | str x =>
            simp only [renF]
            exact two (sm_strE.mpr (hf x (sm_strE.mp (e' _ List.mem_cons_self)))) (sm_A (fun d m => e' d (List.mem_cons_of_mem _ m)) fun d m => k' d (List.mem_cons_of_mem _ m))
          | _ => simp only [renF]; exact e'
      split
      · refine two ez ?_
        rw [renS.eq_def]
        split
        · rename_i kx y ex
          refine two (sm_strE.mpr (hh kx (sm_strE.mp (e' _ (by simp))))) (two (sm_renK hg (e' _ (by simp))) (two (k' _ (by simp) (e' _ (by simp))) fun d m => by cases m))
        · exact e'
      · exact two ez tA
    | _ =>
      simp only [renT]
      rw [← renA_cons]
      exact sm_A e k
mutual
theorem sm_ren (hf : ∀ x : Str, x.length ≤ 1000 → (f x).length ≤ 1000) (hg : ∀ x : Str, x.length ≤ 1000 → (g x).length ≤ 1000) (hh : ∀ x : Str, x.length ≤ 1000 → (h x).length ≤ 1000) : ∀ {d : PyData}, sm d = true → sm (ren f g h d) = true
  | .tuple ds, e => by
    rw [ren_tup]
    show (decide ((renT f g h ds).length ≤ 1000) && smAll (renT f g h ds)) = true
    rw [renT_len, Bool.and_eq_true, decide_eq_true_eq]
    exact ⟨sm_len e, smAll_mem.mpr (sm_renT hf hg hh (smAll_mem.mp (sm_tup e)) (sm_mem hf hg hh ds))⟩
  | .none, e => by simp only [ren]; exact e
  | .bool _, e => by simp only [ren]; exact e
  | .int _, e => by simp only [ren]; exact e
  | .str _, e => by simp only [ren]; exact e
  | .list _, e => by simp only [ren]; exact e
  | .dict _, e => by simp only [ren]; exact e
theorem sm_mem (hf : ∀ x : Str, x.length ≤ 1000 → (f x).length ≤ 1000) (hg : ∀ x : Str, x.length ≤ 1000 → (g x).length ≤ 1000) (hh : ∀ x : Str, x.length ≤ 1000 → (h x).length ≤ 1000) : ∀ ds : List PyData, ∀ d ∈ ds, sm d = true → sm (ren f g h d) = true
  | [], d, m => by cases m
  | x :: ds, d, m => by
    by_cases q : d = x
    · rw [q]
      exact fun e => sm_ren hf hg hh e
    · exact sm_mem hf hg hh ds d ((List.mem_cons.mp m).resolve_left q)
end
end
theorem byT_len {xs ys : List Str} (hy : ∀ y ∈ ys, y.length ≤ 1000) (x : Str) (hx : x.length ≤ 1000) : (byT xs ys x).length ≤ 1000 := by
  unfold byT
  induction xs generalizing ys with
  | nil => exact hx
  | cons a xs ih =>
    cases ys with
    | nil => exact hx
    | cons b ys =>
      rw [List.zip_cons_cons]
      show ((match x == a with | true => some b | false => List.lookup x (xs.zip ys)).getD x).length ≤ 1000
      cases x == a with
      | true => exact hy b List.mem_cons_self
      | false => exact ih fun y m => hy y (List.mem_cons_of_mem _ m)
/-- runs whose ends are alike are told as the same data -/
theorem RunAt.sameR {K : PySem.W.Frag} {H H2 : Hp} {r r2 : Addr} {x y : Bool × Sta} (a : RunAt H r x) (b : RunAt H2 r2 y) (ok : StOk x.2) (e1 : x.1 = y.1) (es : x.2.ss = y.2.ss)
    (er : ∀ zs ys, x.1 = true → Srt (x.2.t.map (·.1)) zs → Srt (y.2.t.map (·.1)) ys → rowsOf x.2.t zs = rowsOf y.2.t ys) : ∃ D, Dp K H (.ref r) D ∧ Dp K H2 (.ref r2) D ∧ SeqAt.shaped D = true := by
  cases a with
  | failed h e =>
    cases b with
    | failed h2 e2 => exact ⟨.tuple [.str "failed"], .tup (SqT.of e) (.cons (.str _) .nil), .tup (SqT.of e2) (.cons (.str _) .nil), by decide +kernel⟩
    | done zs2 ra sa ts h2 => rw [← e1, h] at h2; cases h2
  | done zs ra sa ts h s e r tf ps =>
    cases b with
    | failed h2 e2 => rw [← e1, h] at h2; cases h2
    | done zs2 ra2 sa2 ts2 h2 s2 e2 r2 tf2 ps2 =>
      have q : resD y zs2 = resD x zs := by
        unfold resD
        rw [if_pos h, if_pos h2, er zs zs2 h s s2, es]
      exact ⟨resD x zs, dp_of (tu_res x zs) (RunAt.rp (.done zs ra sa ts h s e r tf ps) s), q ▸ dp_of (tu_res y zs2) (RunAt.rp (.done zs2 ra2 sa2 ts2 h2 s2 e2 r2 tf2 ps2) s2), res_shaped ok s⟩
end Hd

set_option Elab.async false
set_option linter.all false
set_option maxRecDepth 100000
set_option maxHeartbeats 2000000
namespace DpT
open PySem PySem.Spec PyProof.Rows L2
/-! dict(list of pairs) whose keys are tuples -/
def rDictTL (K : PySem.W.Frag) : List V → Hp → VK → Prop := fun xs H Q => ∃ (a : Addr) (ts : List Addr) (kvs : List (List L2.Key × V)), xs = [.ref a] ∧ SqL K H a (ts.map V.ref) ∧ Paired (PairT K H) kvs ts ∧ (kvs.map (·.1)).Nodup ∧ kvs.length ≤ 1000 ∧
  ∀ p, H p = none → Q (.ref p) (upd H p (.dT kvs))
theorem call_dictTL {X : Cx} (hc : X.calm = true) (hu : X.A.units + 3 < cLine) : CallR X (.type "dict") (rDictTL X.K) := by
  intro pins s σ H vs us Q I r h
  obtain ⟨a, ts, kvs, rfl, e, rows, nd, len, q⟩ := h
  obtain ⟨u, rfl, rx⟩ := vals1 r
  cases rx
  obtain ⟨its, rel, pl, _⟩ := I.list e
  have ri := refs_of rel
  subst ri
  obtain ⟨xs, kt, pr⟩ := pairs_at I rows
  have l1 : kvs.length = xs.length := Paired.length kt
  have l2 : xs.length = ts.length := Paired.length pr
  have big : (1000 : Nat) ≤ sizeLine := by decide
  have keys : kvs.map (·.1) = xs.map (·.1) := by
    clear pr rows l1 l2 nd len q
    induction kt with
    | nil => rfl
    | cons a r ih => rw [List.map_cons, List.map_cons, a.1, ih]
  have arg := PairArg.list (prog := X.prog) (w := X.w) a (ts.map Value.ref).toArray (fun j => ts.getD j 0) (xs.map fun x => (Value.ref x.2.1, x.2.2))
  refine call_dict_pairsH (knd := tupleKind (mixKind X.prog X.w)) (ps := xs) arg (I.ok.hd hc) (show X.A.in1.in1.units < cLine from ?room) ⟨pl, by simp [l2], fun j k v z => ?item⟩ ⟨by simp, fun i k v z => ?have_⟩ (fun h' keep x hx => ?stay) (by rw [List.length_map]; omega) fun h' tk dd keep => ?fin
  case room => show X.A.units + 1 + 1 < cLine; omega
  case item =>
    obtain ⟨q1, q2⟩ := pair_at pr z
    exact ⟨by simpa using q1, .inl q2⟩
  case have_ =>
    obtain ⟨x, hx, ex⟩ := Option.map_eq_some_iff.mp (by rw [← List.getElem?_map]; exact z)
    cases ex
    exact ⟨x.1, x.2.1, hx, rfl⟩
  case stay =>
    have key : ∀ x ∈ xs, H x.2.1 = some (.tup (x.1.map kV)) := by
      clear pr rows l1 l2 nd len q keys keep hx arg
      induction kt with
      | nil => exact fun x hx => nomatch hx
      | cons b r ih =>
        intro x hx
        rcases List.mem_cons.mp hx with z | z
        · subst z
          rw [← b.1]
          exact b.2.1
        · exact ih x z
    have q0 := key_of I.hok (key x hx)
    obtain ⟨ob, items, n, g, gc, gd, gi⟩ := q0
    exact ⟨ob, items, n, keep x.2.1 ob (Nat.ne_of_lt (Heap.lt_size g)) (fun m => nomatch m) g, gc, gd, gi⟩
  case fin =>
    rw [stored_new xs [] (by rw [List.nil_append, ← keys]; exact nd), List.nil_append] at dd
    obtain ⟨ob, ents, ep, g, ex, gd, ge, _, gn⟩ := dd
    have big2 : (s.heap.objs.size == sysModules) = false := beq_eq_false_iff_ne.mpr (Nat.ne_of_gt I.big)
    refine ⟨.ref s.heap.objs.size, upd H s.heap.objs.size (.dT kvs), I.laid (t' := tk) (o := .dT kvs) (fun b u z => keep b u (fun m => nomatch m) z) (Nat.le_refl _) ⟨by omega, big2, xs, ?_, ob, ents, ep, g, ex, gd, ge, gn⟩, rfl, q _ (I.hok.fresh (Nat.le_refl _))⟩
    have off : ∀ {c : Addr} {ys : List V}, H c = some (.tup ys) → (upd H s.heap.objs.size (.dT kvs)) c = some (.tup ys) := fun {c ys} z => by rw [upd_ne (ne_of_none z (I.hok.fresh (Nat.le_refl _)))]; exact z
    exact Paired.mapP kt fun x y z => ⟨z.1, off z.2.1, z.2.2⟩
end DpT

set_option Elab.async false
set_option linter.all false
set_option maxRecDepth 100000
set_option maxHeartbeats 8000000
namespace Hd
open PySem L2 Pen RG Dat KEq TxS
abbrev sRr : Stmt := top 52
theorem words_look {xs ys : List Str} {x : Str} : valV (wordsK xs ys) (Sum.inr x) = ((xs.zip ys).lookup x).map V.str := by
  unfold wordsK
  induction xs.zip ys with
  | nil => rfl
  | cons z zs ih =>
    by_cases q : z.1 = x
    · rw [List.map_cons, valV_pos (by rw [q])]
      have : List.lookup x (z :: zs) = some z.2 := by
        rw [← q]
        obtain ⟨z1, z2⟩ := z
        rw [List.lookup_cons_self]
      rw [this]
      rfl
    · rw [List.map_cons, valV_neg (fun e => q (Sum.inr.inj e)), ih]
      have : List.lookup x (z :: zs) = List.lookup x zs := by
        have e : (x == z.1) = false := beq_eq_false_iff_ne.mpr fun e => q e.symm
        obtain ⟨z1, z2⟩ := z
        show (match x == z1 with | true => some z2 | false => List.lookup x zs) = _
        have e : (x == z1) = false := e
        rw [e]
      rw [this]
theorem look_in : ∀ {xs ys : List Str} {x : Str}, x ∈ xs → xs.length ≤ ys.length → ∃ y, (xs.zip ys).lookup x = some y ∧ y ∈ ys
  | x0 :: xs, [], x, _, h => by simp at h
  | x0 :: xs, y :: ys, x, m, h => by
    by_cases q : x = x0
    · rw [q, List.zip_cons_cons, List.lookup_cons_self]
      exact ⟨y, rfl, List.mem_cons_self⟩
    · obtain ⟨y', a, b⟩ := look_in (ys := ys) ((List.mem_cons.mp m).resolve_left q) (by simpa using h)
      refine ⟨y', ?_, List.mem_cons_of_mem _ b⟩
      rw [List.zip_cons_cons]
      show (match x == x0 with | true => some y | false => List.lookup x (xs.zip ys)) = _
      have e : (x == x0) = false := beq_eq_false_iff_ne.mpr q
      rw [e]
      exact a
theorem byT_in {xs ys : List Str} {x : Str} (m : x ∈ xs) (h : xs.length ≤ ys.length) : valV (wordsK xs ys) (Sum.inr x) = some (.str (byT xs ys x)) ∧ byT xs ys x ∈ ys := by
  obtain ⟨y, a, b⟩ := look_in m h
  rw [words_look]
  unfold byT
  rw [a]
  exact ⟨rfl, b⟩
theorem byT_one {xs ys : List Str} (h : xs.length ≤ ys.length) (nd : ys.Nodup) : OneOn xs (byT xs ys) := by
  induction xs generalizing ys with
  | nil => exact fun a m => by cases m
  | cons x xs ih =>
    cases ys with
    | nil => simp at h
    | cons y ys =>
      have h : xs.length ≤ ys.length := by simpa using h
      rw [List.nodup_cons] at nd
      have hd : byT (x :: xs) (y :: ys) x = y := by
        unfold byT
        rw [List.zip_cons_cons, List.lookup_cons_self]
        rfl
      have tl : ∀ {a}, a ≠ x → byT (x :: xs) (y :: ys) a = byT xs ys a := by
        intro a n
        unfold byT
        rw [List.zip_cons_cons]
        have e : (a == x) = false := beq_eq_false_iff_ne.mpr n
        show (match a == x with | true => some y | false => List.lookup a (xs.zip ys)).getD a = _
        rw [e]
      intro a ma b mb e
      by_cases qa : a = x
      · by_cases qb : b = x
        · rw [qa, qb]
        · rw [qa, hd, tl qb] at e
          have := (byT_in ((List.mem_cons.mp mb).resolve_left qb) h).2
          rw [← e] at this
          exact absurd this nd.1
      · by_cases qb : b = x
        · rw [qb, hd, tl qa] at e
          have := (byT_in ((List.mem_cons.mp ma).resolve_left qa) h).2
          rw [e] at this
          exact absurd this nd.1
        · rw [tl qa, tl qb] at e
          exact ih h nd.2 a ((List.mem_cons.mp ma).resolve_left qa) b ((List.mem_cons.mp mb).resolve_left qb) e
theorem rowT_updL {G : Hp} {D t : Addr} {xs ys : List V} {e : Z × Int} (hq : G D = some (.lst xs)) (x : RowT G e t) : RowT (upd G D (.lst ys)) e t := by
  obtain ⟨c, a, b⟩ := x
  exact ⟨c, (upd_ne (ne_of a hq (by intro z; cases z))).trans a, (upd_ne (ne_of b hq (by intro z; cases z))).trans b⟩
theorem rowsT_updL {G : Hp} {D : Addr} {xs ys : List V} (hq : G D = some (.lst xs)) : ∀ {L : List (Z × Int)} {ts : List Addr}, Paired (RowT G) L ts → Paired (RowT (upd G D (.lst ys))) L ts
  | _, _, .nil => .nil
  | _, _, .cons a r => .cons (rowT_updL hq a) (rowsT_updL hq r)
theorem rows_pairs {K : PySem.W.Frag} {G : Hp} : ∀ {L : List (Z × Int)} {ts : List Addr}, Paired (RowT G) L ts → Paired (DpT.PairT K G) (L.map ent) ts
  | _, _, .nil => .nil
  | _, _, .cons a r => by
    obtain ⟨c, x, y⟩ := a
    exact .cons ⟨c, SqT.of x, y⟩ (rows_pairs r)
theorem pget2 {α β : Type} {F : α → β → Prop} : ∀ {xs : List α} {ys : List β}, Paired F xs ys → ∀ {us : List α} {vs : List β}, Paired F us vs → Paired F (xs ++ us) (ys ++ vs)
  | _, _, .nil, _, _, q => q
  | _, _, .cons a r, _, _, q => .cons a (pget2 r q)
def spRr (K : PySem.W.Frag) : Sp := fun vs H Q _ => ∃ (r l d0 d1 d2 : Addr) (A A' B B' : List Str) (L : List (Z × Int)), vs = [.ref r, .ref l] ∧ RowsQ K H r L ∧ H l = some (.lst [.ref d0, .ref d1, .ref d2]) ∧ H d0 = some (.dK (wordsK A A')) ∧ H d1 = some (.dK (wordsK B B')) ∧
  A.length ≤ A'.length ∧ B.length ≤ B'.length ∧ A'.Nodup ∧ B'.Nodup ∧ CellIn A B L ∧ (L.map (·.1)).Nodup ∧ L.length ≤ 900 ∧
  ∀ zs r' H', Srt ((renR (byT A A') (byT B B') L).map (·.1)) zs → Same H H' → RowsAt H' r' (rowsOf (renR (byT A A') (byT B B') L) zs) → Q (.ref r') H'
section
variable {P : Program} {w : World} {K : PySem.W.Frag} {mg : Str → Option Value} {base : Heap}
theorem scRr : FnScope ["_law_rows_here", "_law_words_here", "_law_cell", "_law_value"] ["_law_rows_here", "_law_words_here"] (defScope sRr) := ⟨rfl, rfl, rfl, by decide +kernel, rfl, by decide +kernel, by decide +kernel⟩
theorem ok_rr {f fR : Addr} {fd fdR : FuncData} (F : Fun K "_law_rows_renamed" "_law_rows_renamed" sRr f fd) (TD : mg "dict" = none)
    (GRT : FnOk P w K mg base CX0 1 fR fdR ["_law_found"] spRT) (TRT : DefT K mg "_law_row_tuple" fR) (bRT : Binds K fdR ["_law_found"] []) : FnOk P w K mg base CX0 2 f fd ["_law_rows_here", "_law_words_here"] (spRr K) := by
  refine F.ok scRr (fun vs H Q E h => ?_) (fun cdv A0 outer s H vs Q E hr h => ?_)
  · obtain ⟨r, l, d0, d1, d2, A, A', B, B', L, rfl, _⟩ := h
    rfl
  · obtain ⟨r, l, d0, d1, d2, A, A', B, B', L, rfl, ⟨ts, sq, pr⟩, el, e0, e1, lA, lB, nA, nB, ci, nd, l9, k⟩ := h
    have hu := hu_of hr
    refine ⟨_, (pss_one (ps_ret (pe_call GRT (hr.mono (by decide)) rfl TRT.mg TRT.kp bRT .nil pass0 (pa_cons (pe_callTy (DpT.call_dictTL rfl (Nat.lt_of_le_of_lt (Nat.add_le_add_left (show 3 ≤ 64 by decide) _) hr.units)) (by rfl) TD (by decide +kernel) (pa_cons (pe_lc (own := [("_law_cell", 2), ("_law_value", 3)]) (g := gTup K 2 (gCons (gName 2) (gCons (gName 3) gNil))) (tt := tYes)
      (te := Ab.tTupA (tCons (Ab.tTupA (tCons (tDGet (tOp (rIxL K) (tVar 1) (tC (.int 0))) (tOp (rIxT K) (tVar 2) (tC (.int 0)))) (tCons (tDGet (tOp (rIxL K) (tVar 1) (tC (.int 1))) (tOp (rIxT K) (tVar 2) (tC (.int 1)))) tNil))) (tCons (tVar 3) tNil))) rfl scRr.nd (pi_tup (pv 0)) (blkOk_by (N := ["_law_rows_here", "_law_words_here", "_law_cell", "_law_value"]) (sc := defScope sRr) (by decide +kernel)) (fun _ _ _ _ _ => by exact (pg_tup (by rfl) (pgs_cons (pg_name (i := 2) scRr.nd rfl (Or.inl rfl)) (pgs_cons (pg_name (i := 3) scRr.nd rfl (Or.inl rfl)) pgs_nil)))) (fun _ _ _ _ _ => by exact pts_nil)
      (fun _ _ _ _ _ => by exact (Ab.pe_tupA (pa_cons (Ab.pe_tupA (pa_cons (pe_dget hu (pe_ix ix_list (pv 1) pe_int (fun _ _ => rfl)) (pe_ix ix_tup (pv 2) pe_int (fun _ _ => rfl)) (fun _ _ => rfl)) (pa_cons (pe_dget hu (pe_ix ix_list (pv 1) pe_int (fun _ _ => rfl)) (pe_ix ix_tup (pv 2) pe_int (fun _ _ => rfl)) (fun _ _ => rfl)) pa_nil))) (pa_cons (pv 3) pa_nil))))) pa_nil)) pa_nil)))), ?_⟩
    have len := paired_length pr
    refine ⟨_, rfl, r, rfl, ⟨_, sq⟩, fun D hD => lc_tup (xs := ts.map V.ref) (fun i G => Same H G ∧ ∃ us : List Addr, G D = some (.lst (us.map V.ref)) ∧ us.length = i ∧ Paired (RowT G) (renR (byT A A') (byT B B') (L.take i)) us) ⟨same_new hD, [], upd_same, rfl, by rw [List.take_zero]; exact .nil⟩ (fun i G _ x => sqT_same x.1 sq) (fun i y G hx hi => ?_) (fun G hi => ?_)⟩
    · obtain ⟨sG, us, eD, lu, pu⟩ := hi
      obtain ⟨t, ht, rfl⟩ : ∃ t, ts[i]? = some t ∧ V.ref t = y := by
        rw [List.getElem?_map] at hx
        obtain ⟨c, a, b⟩ := Option.map_eq_some_iff.mp hx
        exact ⟨c, a, b⟩
      obtain ⟨e, he, c, et, ec⟩ := pget pr ht
      obtain ⟨m1, m2⟩ := ci e (List.mem_of_getElem? he)
      obtain ⟨v1, w1⟩ := byT_in m1 lA
      obtain ⟨v2, w2⟩ := byT_in m2 lB
      refine ⟨t, _, rfl, SqT.of (sG _ _ et), rfl, _, _, rfl, _, _, rfl, rfl, rfl, ?_⟩
      unfold tYes
      simp only [↓reduceIte]
      refine ⟨_, rfl, l, _, 0, _, rfl, rfl, SqL.of (sG _ _ el), atI_nat (j := 0) rfl, _, rfl, c, _, 0, _, rfl, rfl, SqT.of (sG _ _ ec), atI_nat (j := 0) rfl, d0, _, rfl, v1 ▸ DGet.k (k := .inr e.1.1) (sG _ _ e0), _, rfl, l, _, 1, _, rfl, rfl, SqL.of (sG _ _ el), atI_nat (j := 1) rfl, _, rfl, c, _, 1, _, rfl, rfl, SqT.of (sG _ _ ec), atI_nat (j := 1) rfl, d1, _, rfl, v2 ▸ DGet.k (k := .inr e.1.2) (sG _ _ e1), (by show 2 ≤ sizeLine; decide), fun p1 G1 n1 s1 q1 => ⟨_, rfl, (by show 2 ≤ sizeLine; decide), fun p2 G2 n2 s2 q2 => ?_⟩⟩
      have s12 := s1.trans s2
      have eD2 := s12 _ _ eD
      have hi9 : us.length < sizeLine := Nat.lt_of_le_of_lt (show us.length ≤ 900 by have := (List.getElem?_eq_some_iff.mp he).1; omega) (by decide)
      refine ⟨us.map V.ref, eD2, by rw [List.length_map]; exact hi9, fun z o hz => by rw [upd_ne (ne_of_none hz hD)]; exact s12 _ _ (sG _ _ hz), us ++ [p2], by rw [upd_same, List.map_append]; rfl, by rw [List.length_append, lu]; rfl, ?_⟩
      have rt : RowT G2 ((byT A A' e.1.1, byT B B' e.1.2), e.2) p2 := ⟨p1, q2, s2 _ _ q1⟩
      have : renR (byT A A') (byT B B') (L.take (i + 1)) = renR (byT A A') (byT B B') (L.take i) ++ [((byT A A' e.1.1, byT B B' e.1.2), e.2)] := by
        rw [take_more he]
        unfold renR
        rw [List.map_append]
        rfl
      rw [this]
      exact rowsT_updL eD2 (pget2 (rows_same s12 pu) (.cons rt .nil))
    · obtain ⟨sG, us, eD, lu, pu⟩ := hi
      have ll : (ts.map V.ref).length = L.length := by rw [List.length_map, len]
      rw [ll, List.take_length] at pu
      have ndr := renR_nodup (byT_one lA nA) (byT_one lB nB) ci nd
      have lr : (renR (byT A A') (byT B B') L).length = L.length := List.length_map ..
      refine ⟨D, us, (renR (byT A A') (byT B B') L).map ent, rfl, SqL.of eD, rows_pairs pu, ?_, by rw [List.length_map, lr]; omega, fun p np => ⟨p, renR (byT A A') (byT B B') L, rfl, upd_same, by rw [lr]; exact l9, ndr, fun zs r' H' srt s2 rows => k zs r' H' srt ((sG.trans (same_new np)).trans s2) rows⟩⟩
      rw [keys_ent]
      exact List.pairwise_map.mpr (ndr.imp fun n e => n (kp_inj e))
end
end Hd

set_option Elab.async false
set_option linter.all false
set_option maxRecDepth 100000
set_option maxHeartbeats 8000000
namespace Hd
open PySem L2 Pen RG Dat KEq TxS
abbrev sEr : Stmt := top 53
def renS2 (g h : Str → Str) (ss : List (Str × Str × Int)) : List (Str × Str × Int) := ss.map fun e => (h e.1, g e.2.1, e.2.2)
def spEr (K : PySem.W.Frag) : Sp := fun vs H Q _ => ∃ (r l d0 d1 d2 : Addr) (A A' B B' C C' : List Str) (x : Bool × Sta) (zs : List Z), vs = [.ref r, .ref l] ∧ RunAt H r x ∧ (x.1 = true → Srt (x.2.t.map (·.1)) zs) ∧ H l = some (.lst [.ref d0, .ref d1, .ref d2]) ∧ H d0 = some (.dK (wordsK A A')) ∧ H d1 = some (.dK (wordsK B B')) ∧ H d2 = some (.dK (wordsK C C')) ∧
  A.length ≤ A'.length ∧ B.length ≤ B'.length ∧ C.length ≤ C'.length ∧ A'.Nodup ∧ B'.Nodup ∧ CellIn A B x.2.t ∧ (∀ e ∈ x.2.ss, e.1 ∈ C ∧ e.2.1 ∈ B) ∧ x.2.t.length ≤ 900 ∧ x.2.ss.length ≤ 900 ∧
  ∀ r' H', Same H H' → RunAt H' r' (x.1, ⟨renR (byT A A') (byT B B') (rowsOf x.2.t zs), renS2 (byT B B') (byT C C') x.2.ss⟩) → Q (.ref r') H'
theorem sndT_updL {G : Hp} {D t : Addr} {xs ys : List V} {e : Str × Str × Int} (hq : G D = some (.lst xs)) (x : SndT G e t) : SndT (upd G D (.lst ys)) e t := (upd_ne (ne_of x hq (by intro z; cases z))).trans x
theorem sndsT_updL {G : Hp} {D : Addr} {xs ys : List V} (hq : G D = some (.lst xs)) : ∀ {L : List (Str × Str × Int)} {ts : List Addr}, Paired (SndT G) L ts → Paired (SndT (upd G D (.lst ys))) L ts
  | _, _, .nil => .nil
  | _, _, .cons a r => .cons (sndT_updL hq a) (sndsT_updL hq r)
theorem snds_same {H G : Hp} (s : Same H G) : ∀ {L : List (Str × Str × Int)} {ts : List Addr}, Paired (SndT H) L ts → Paired (SndT G) L ts
  | _, _, .nil => .nil
  | _, _, .cons a r => .cons (s _ _ a) (snds_same s r)
section
variable {P : Program} {w : World} {K : PySem.W.Frag} {mg : Str → Option Value} {base : Heap}
theorem scEr : FnScope ["_law_end", "_law_words_here", "_law_sends", "_law_kind", "_law_key", "_law_value"] ["_law_end", "_law_words_here"] (defScope sEr) := ⟨rfl, rfl, rfl, by decide +kernel, rfl, by decide +kernel, by decide +kernel⟩
theorem ok_er {f fR : Addr} {fd fdR : FuncData} (F : Fun K "_law_end_renamed" "_law_end_renamed" sEr f fd) (TT' : mg "tuple" = none)
    (GRr : FnOk P w K mg base CX0 2 fR fdR ["_law_rows_here", "_law_words_here"] (spRr K)) (TRr : DefT K mg "_law_rows_renamed" fR) (bRr : Binds K fdR ["_law_rows_here", "_law_words_here"] []) : FnOk P w K mg base CX0 3 f fd ["_law_end", "_law_words_here"] (spEr K) := by
  refine F.ok scEr (fun vs H Q E h => ?_) (fun cdv A0 outer s H vs Q E hr h => ?_)
  · obtain ⟨r, l, d0, d1, d2, A, A', B, B', C, C', x, zs, rfl, _⟩ := h
    rfl
  · obtain ⟨r, l, d0, d1, d2, A, A', B, B', C, C', x, zs, rfl, ra, srt, el, e0, e1, e2, lA, lB, lC, nA, nB, ci, si, l9, s9, k⟩ := h
    have hu := hu_of hr
    refine ⟨_, (pss_cons (ps_if (pt_cmpR op_eq (pe_ix ix_tup (pv 0) pe_int (fun _ _ => rfl)) pe_str (nomark _)) (pss_one (ps_ret (pv 0))) pss_nil)
      (pss_cons (ps_setLc (i := 2) (own := [("_law_kind", 3), ("_law_key", 4), ("_law_value", 5)]) (g := gTup K 3 (gCons (gName 3) (gCons (gName 4) (gCons (gName 5) gNil)))) (tt := tYes) (te := Ab.tTupA (tCons (tDGet (tOp (rIxL K) (tVar 1) (tC (.int 2))) (tVar 3)) (tCons (tDGet (tOp (rIxL K) (tVar 1) (tC (.int 1))) (tVar 4)) (tCons (tVar 5) tNil)))) rfl scEr.nd rfl rfl (by rfl) (pi_tup (pe_ix ix_tup (pv 0) pe_int (fun _ _ => rfl))) (blkOk_by (N := ["_law_end", "_law_words_here", "_law_sends", "_law_kind", "_law_key", "_law_value"]) (sc := defScope sEr) (by decide +kernel)) (fun _ _ _ _ _ => by exact (pg_tup (by rfl) (pgs_cons (pg_name (i := 3) scEr.nd rfl (Or.inl rfl)) (pgs_cons (pg_name (i := 4) scEr.nd rfl (Or.inl rfl)) (pgs_cons (pg_name (i := 5) scEr.nd rfl (Or.inl rfl)) pgs_nil))))) (fun _ _ _ _ _ => by exact pts_nil)
        (fun _ _ _ _ _ => by exact (Ab.pe_tupA (pa_cons (pe_dget hu (pe_ix ix_list (pv 1) pe_int (fun _ _ => rfl)) (pv 3) (fun _ _ => rfl)) (pa_cons (pe_dget hu (pe_ix ix_list (pv 1) pe_int (fun _ _ => rfl)) (pv 4) (fun _ _ => rfl)) (pa_cons (pv 5) pa_nil))))))
      (pss_one (ps_ret (Ab.pe_tupA (pa_cons pe_str (pa_cons (pe_call GRr (hr.mono (by decide)) rfl TRr.mg TRr.kp bRr .nil pass0 (pa_cons (pe_ix ix_tup (pv 0) pe_int (fun _ _ => rfl)) (pa_cons (pv 1) pa_nil))) (pa_cons (pe_callTy DpT.call_tupleF (by rfl) TT' (by decide +kernel) (pa_cons (pv 2) pa_nil)) pa_nil)))))))), ?_⟩
    cases ra with
    | failed x0 er =>
      refine ⟨_, rfl, r, _, 0, _, rfl, rfl, SqT.of er, atI_nat (j := 0) rfl, rfl, _, rfl, ite2 (fun h1 => ?_) (fun h1 => absurd (decide_eq_true rfl) h1)⟩
      exact ⟨_, rfl, k r H (.refl _) (.failed x0 er)⟩
    | done zs' a sa ts x0 srt' er rows tf ps =>
      obtain rfl : zs' = zs := Srt.one srt' (srt x0)
      have srt := srt x0
      refine ⟨_, rfl, r, _, 0, _, rfl, rfl, SqT.of er, atI_nat (j := 0) rfl, rfl, _, rfl, ite2 (fun h1 => absurd (of_decide_eq_true h1) (by decide +kernel)) (fun _ => ?_)⟩
      have len := paired_length ps
      refine ⟨_, rfl, r, _, 2, _, rfl, rfl, SqT.of er, atI_nat (j := 2) rfl, sa, rfl, ⟨_, tf.sq⟩, fun D hD => lc_tup (xs := ts.map V.ref) (fun i G => Same H G ∧ ∃ us : List Addr, G D = some (.lst (us.map V.ref)) ∧ us.length = i ∧ Paired (SndT G) (renS2 (byT B B') (byT C C') (x.2.ss.take i)) us) ⟨same_new hD, [], upd_same, rfl, by rw [List.take_zero]; exact .nil⟩ (fun i G _ x => sqT_same x.1 tf.sq) (fun i y G hx hi => ?_) (fun G hi => ?_)⟩
      · obtain ⟨sG, us, eD, lu, pu⟩ := hi
        obtain ⟨t, ht, rfl⟩ : ∃ t, ts[i]? = some t ∧ V.ref t = y := by
          rw [List.getElem?_map] at hx
          obtain ⟨c, a, b⟩ := Option.map_eq_some_iff.mp hx
          exact ⟨c, a, b⟩
        obtain ⟨e, he, et⟩ := pget ps ht
        obtain ⟨m1, m2⟩ := si e (List.mem_of_getElem? he)
        obtain ⟨v1, w1⟩ := byT_in m1 lC
        obtain ⟨v2, w2⟩ := byT_in m2 lB
        refine ⟨t, _, rfl, SqT.of (sG _ _ et), rfl, _, _, rfl, _, _, rfl, _, _, rfl, rfl, rfl, ?_⟩
        unfold tYes
        simp only [↓reduceIte]
        refine ⟨_, rfl, l, _, 2, _, rfl, rfl, SqL.of (sG _ _ el), atI_nat (j := 2) rfl, _, rfl, d2, _, rfl, v1 ▸ DGet.k (k := .inr e.1) (sG _ _ e2), _, rfl, l, _, 1, _, rfl, rfl, SqL.of (sG _ _ el), atI_nat (j := 1) rfl, _, rfl, d1, _, rfl, v2 ▸ DGet.k (k := .inr e.2.1) (sG _ _ e1), _, rfl, (by show 3 ≤ sizeLine; decide), fun p2 G2 n2 s2 q2 => ?_⟩
        have eD2 := s2 _ _ eD
        have hi9 : us.length < sizeLine := Nat.lt_of_le_of_lt (show us.length ≤ 900 by have := (List.getElem?_eq_some_iff.mp he).1; omega) (by decide)
        refine ⟨us.map V.ref, eD2, by rw [List.length_map]; exact hi9, fun z o hz => by rw [upd_ne (ne_of_none hz hD)]; exact s2 _ _ (sG _ _ hz), us ++ [p2], by rw [upd_same, List.map_append]; rfl, by rw [List.length_append, lu]; rfl, ?_⟩
        have rt : SndT G2 (byT C C' e.1, byT B B' e.2.1, e.2.2) p2 := q2
        have : renS2 (byT B B') (byT C C') (x.2.ss.take (i + 1)) = renS2 (byT B B') (byT C C') (x.2.ss.take i) ++ [(byT C C' e.1, byT B B' e.2.1, e.2.2)] := by
          rw [take_more he]
          unfold renS2
          rw [List.map_append]
          rfl
        rw [this]
        exact sndsT_updL eD2 (pget2 (snds_same s2 pu) (.cons rt .nil))
      · obtain ⟨sG, us, eD, lu, pu⟩ := hi
        have ll : (ts.map V.ref).length = x.2.ss.length := by rw [List.length_map, len]
        rw [ll, List.take_length] at pu
        have lz : zs'.length = x.2.t.length := by rw [srt.perm.length_eq, List.length_map]
        have lr := rowsOf_len x.2.t zs'
        have ndz : zs'.Nodup := srt.perm.nodup_iff.mpr srt.nd
        have ndr : ((rowsOf x.2.t zs').map (·.1)).Nodup := by
          unfold rowsOf
          rw [List.map_map]
          show ((zs'.filter _).map id).Nodup
          rw [List.map_id]
          exact ndz.filter _
        refine ⟨_, rfl, r, _, 1, _, rfl, rfl, SqT.of (sG _ _ er), atI_nat (j := 1) rfl, _, rfl, a, l, d0, d1, d2, A, A', B, B', rowsOf x.2.t zs', rfl, (rows.same sG).q, sG _ _ el, sG _ _ e0, sG _ _ e1, lA, lB, nA, nB, cell_rows srt ci, ndr, by omega, fun zs2 r2 G2 srt2 s2 rows2 => ?_⟩
        refine ⟨_, rfl, D, us.map V.ref, rfl, SqL.of (s2 _ _ eD), fun q o nq c1 c2 => ⟨(by show 3 ≤ sizeLine; decide), fun p3 G3 n3 s3 e3 => k _ _ (((sG.trans s2).trans (same_new nq)).trans s3) ?_⟩⟩
        have s23 := (same_new (o := .frz o (.tup (us.map V.ref))) nq).trans s3
        exact .done zs2 r2 q us x0 srt2 e3 (rows2.same s23) ⟨o, c1, c2, s3 _ _ upd_same⟩ (snds_same (s2.trans s23) pu)
end
end Hd

set_option Elab.async false
set_option linter.all false
set_option maxRecDepth 100000
set_option maxHeartbeats 8000000
namespace Hd
open PySem L2 Pen RG Dat KEq TxS
abbrev sWi : Stmt := top 54
/-- the pairs (name, key) at ts -/
def FixT (key : Str) (H : Hp) (n : Str) (t : Addr) : Prop := H t = some (.tup [.str n, .str key])
theorem fix_same {key : Str} {H G : Hp} (s : ∀ x o, H x = some o → (∃ xs, o = .tup xs) → G x = some o) : ∀ {W : List Str} {ts : List Addr}, Paired (FixT key H) W ts → Paired (FixT key G) W ts
  | _, _, .nil => .nil
  | _, _, .cons a r => .cons (s _ _ a ⟨_, rfl⟩) (fix_same s r)
theorem fix_dp {K : PySem.W.Frag} {key : Str} {H : Hp} : ∀ {W : List Str} {ts : List Addr}, Paired (FixT key H) W ts → DpAll K H (ts.map V.ref) (W.map fun n => .tuple [.str n, .str key])
  | _, _, .nil => .nil
  | _, _, .cons a r => .cons (.tup (SqT.of a) (.cons (.str _) (.cons (.str _) .nil))) (fix_dp r)
theorem fix_no {key a y : Str} {W : List Str} (h : (!((W.map fun n => PyData.tuple [.str n, .str key]).any fun z => PyData.eqv z (.tuple [.str a, .str y]))) = true) : ∀ n ∈ W, ¬ ((a, y) : Z) = (n, key) := by
  intro n hn e
  injection e with e1 e2
  have h' : ((W.map fun n => PyData.tuple [.str n, .str key]).any fun z => PyData.eqv z (.tuple [.str a, .str y])) = false := by simpa using h
  have := List.any_eq_false.mp h' _ (List.mem_map.mpr ⟨n, hn, rfl⟩)
  apply this
  simp only [PyData.eqv, PyData.eqvAll, e1, e2]
  simp
theorem fix_lay {key : Str} (hk : PyData.strOk key = true) : ∀ {W : List Str}, (∀ n ∈ W, PyData.strOk n = true) → PyData.canLayAll0 (W.map fun n => PyData.tuple [.str n, .str key]) = true ∧ PyData.depthAll (W.map fun n => PyData.tuple [.str n, .str key]) ≤ 2
  | [], _ => ⟨rfl, Nat.zero_le _⟩
  | n :: W, hW => by
    obtain ⟨a, b⟩ := fix_lay hk fun n hn => hW n (List.mem_cons_of_mem _ hn)
    rw [List.map_cons]
    refine ⟨?_, ?_⟩
    · simp [PyData.canLayAll0, PyData.canLay0, a, hk, hW n List.mem_cons_self]
    · simp [PyData.depthAll, PyData.depth]
      omega
theorem fix_shaped {key : Str} {W : List Str} (hk : PyData.strOk key = true) (hW : ∀ n ∈ W, PyData.strOk n = true) : SeqAt.shaped (.list (W.map fun n => PyData.tuple [.str n, .str key])) = true := by
  obtain ⟨a, b⟩ := fix_lay hk hW
  unfold SeqAt.shaped
  simp [PyData.canLay0, PyData.depth, a]
  omega
theorem one_shaped {a y : Str} (ha : PyData.strOk a = true) (hy : PyData.strOk y = true) : SeqAt.shaped (.tuple [.str a, .str y]) = true := by
  unfold SeqAt.shaped
  simp [PyData.canLay0, PyData.canLayAll0, PyData.depth, PyData.depthAll, ha, hy]
/-- the walk's state -/
structure WoSt (A B : List Str) (H : Hp) (p c l1 l2 lf d : Addr) (ns : List Int) (b m : Nat) (L : List (Z × Int)) (W : List Str) (key : Str) (σ : L2.St) (G : Hp) : Prop where
  ln : σ.length = 8
  s0 : σ[0]? = some (some (.ref p))
  s2 : σ[2]? = some (some (.ref l1))
  s3 : σ[3]? = some (some (.ref l2))
  s4 : σ[4]? = some (some (.ref lf))
  s5 : σ[5]? = some (some (.ref d))
  pen : PenAt G p c ns (b + 8 * m)
  tab : ∃ t : List (Z × Int), G d = some (.dT (t.map ent)) ∧ t.length ≤ L.length + m ∧ (t.map (·.1)).Nodup ∧ TbOk t ∧ CellIn A B t ∧ ∀ n ∈ W, vl t (n, key) = vl L (n, key)
  fr : SameX p H G
theorem WoSt.set {A B : List Str} {H G : Hp} {p c l1 l2 lf d : Addr} {ns : List Int} {b m i : Nat} {L : List (Z × Int)} {W : List Str} {key : Str} {σ : L2.St} {v : V} (x : WoSt A B H p c l1 l2 lf d ns b m L W key σ G) (h : 6 ≤ i) : WoSt A B H p c l1 l2 lf d ns b m L W key (σ.set i (some v)) G := by
  obtain ⟨a, b0, b1, b2, b3, b4, q, q2, q3⟩ := x
  have n : ∀ j, j < 6 → (σ.set i (some v))[j]? = σ[j]? := fun j hj => List.getElem?_set_ne (by omega)
  exact ⟨by rw [List.length_set]; exact a, by rw [n 0 (by decide)]; exact b0, by rw [n 2 (by decide)]; exact b1, by rw [n 3 (by decide)]; exact b2, by rw [n 4 (by decide)]; exact b3, by rw [n 5 (by decide)]; exact b4, q, q2, q3⟩
def spWi : Sp := fun vs H Q _ => ∃ (p c : Addr) (ns : List Int) (b : Nat) (r l1 l2 lf : Addr) (A B : List Str) (L : List (Z × Int)) (W : List Str) (key : Str) (fs : List Addr), vs = [.ref p, .ref r, .ref l1, .ref l2, .ref lf] ∧ PenAt H p c ns b ∧ ns.length ≤ 63 ∧ b < 2 ^ 38 ∧ RowsAt H r L ∧ TbOk L ∧ CellIn A B L ∧ (L.map (·.1)).Nodup ∧ L.length ≤ 100 ∧ NamesA H l1 A ∧ NamesA H l2 B ∧
  H lf = some (.lst (fs.map V.ref)) ∧ Paired (FixT key H) W fs ∧ (∀ n ∈ W, isWord (.str n) = true) ∧ isWord (.str key) = true ∧
  ∀ (r' : Addr) (M : List (Z × Int)) (H' : Hp), RowsAt H' r' M → RowsOk M → CellIn A B M → M.length ≤ 200 → (∀ n ∈ W, vl M (n, key) = vl L (n, key)) → PenAt H' p c ns (b + 1000) → SameX p H H' → Q (.ref r') H'
section
variable {P : Program} {w : World} {K : PySem.W.Frag} {mg : Str → Option Value} {base : Heap}
theorem scWi : FnScope ["_law_pen_here", "_law_rows_here", "_law_names", "_law_keys", "_law_fixed", "_law_found", "_law_name", "_law_key"] ["_law_pen_here", "_law_rows_here", "_law_names", "_law_keys", "_law_fixed"] (defScope sWi) := ⟨rfl, rfl, rfl, by decide +kernel, rfl, by decide +kernel, by decide +kernel⟩
theorem ok_wi {f fD fN fR : Addr} {fd fdD fdN fdR : FuncData} (F : Fun K "_law_with_others" "_law_with_others" sWi f fd) (TD : mg "dict" = none)
    (GDraw : FnOk P w K mg base CX0 1 fD fdD ["_law_pen_here", "_law_many"] spDraw) (TDraw : DefT K mg "_law_draw" fD) (bDraw : Binds K fdD ["_law_pen_here", "_law_many"] [])
    (GNm : FnOk P w K mg base CX0 3 fN fdN ["_law_pen_here"] spNm) (TNm : DefT K mg "_law_number" fN) (bNm : Binds K fdN ["_law_pen_here"] [])
    (GRT : FnOk P w K mg base CX0 1 fR fdR ["_law_found"] spRT) (TRT : DefT K mg "_law_row_tuple" fR) (bRT : Binds K fdR ["_law_found"] []) : FnOk P w K mg base CX0 4 f fd ["_law_pen_here", "_law_rows_here", "_law_names", "_law_keys", "_law_fixed"] spWi := by
  refine F.ok scWi (fun vs H Q E h => ?_) (fun cdv A0 outer s H vs Q E hr h => ?_)
  · obtain ⟨p, c, ns, b, r, l1, l2, lf, A, B, L, W, key, fs, rfl, _⟩ := h
    rfl
  · obtain ⟨p, c, ns, b, r, l1, l2, lf, zs1, zs2, L, W, key, fs, rfl, P0, hn, hb, ra, tb0, ci0, nd0, ll, N1, N2, elf, px, wW, wk, k⟩ := h
    have hu := hu_of hr
    have hu3 := Nat.lt_of_le_of_lt (Nat.add_le_add_left (show 3 ≤ 64 by decide) _) hr.units
    have hu65 := Nat.lt_of_le_of_lt (Nat.add_le_add_left (show 65 ≤ 16 * 3 + 200 by decide) _) hr.un
    refine ⟨_, (pss_cons (ps_set (i := 5) scWi.nd rfl (Or.inl rfl) (pe_callTy (DpT.call_dictT rfl hu3) (by rfl) TD (by decide +kernel) (pa_cons (pv 1) pa_nil)))
      (pss_cons (ps_for PassesOwn.never rfl (pi_list (pv 2)) (pg_name (i := 6) scWi.nd rfl (Or.inl rfl)) (pss_one (ps_for PassesOwn.never rfl (pi_list (pv 3)) (pg_name (i := 7) scWi.nd rfl (Or.inl rfl)) (pss_one (ps_if (PW.pt (pw_and (pt_cmpR (op_notInD hu65) (Ab.pe_tupA (pa_cons (pv 6) (pa_cons (pv 7) pa_nil))) (pv 4) (by rfl)) (pw_and1 (pt_cmpR op_eq (pe_call GDraw (hr.mono (by decide)) rfl TDraw.mg TDraw.kp bDraw .nil pass0 (pa_cons (pv 0) (pa_cons pe_int pa_nil))) pe_int (nomark _)))))
        (pss_one (ps_dput hu (pv 5) (Ab.pe_tupA (pa_cons (pv 6) (pa_cons (pv 7) pa_nil))) (pe_call GNm (hr.mono (by decide)) rfl TNm.mg TNm.kp bNm .nil pass0 (pa_cons (pv 0) pa_nil)) rfl)) pss_nil)))))
      (pss_one (ps_ret (pe_call GRT (hr.mono (by decide)) rfl TRT.mg TRT.kp bRT .nil pass0 (pa_cons (pv 5) pa_nil)))))), ?_⟩
    obtain ⟨e1, p1, q1, w1⟩ := id N1
    obtain ⟨e2, p2, q2, w2⟩ := id N2
    obtain ⟨ts, tf, pr⟩ := ra
    have hok : ∀ n ∈ W, PyData.strOk n = true := fun n hn => word_ok (wW n hn)
    refine ⟨_, rfl, r, ts, L.map ent, rfl, tf, pairT_of pr, ent_nodup nd0, by rw [List.length_map]; omega, fun d hd0 => ?_⟩
    have od : d ≠ p := PenAt.off P0 hd0
    have st0 : Same H (upd H d (.dT (L.map ent))) := same_new hd0
    have o1 : l1 ≠ p := lst_off P0 e1
    have o2 : l2 ≠ p := lst_off P0 e2
    have o4 : lf ≠ p := lst_off P0 elf
    have c100 : zs1.length * zs2.length ≤ 100 := Nat.mul_le_mul q1 q2
    refine ⟨_, rfl, l1, rfl, ⟨_, SqL.of (st0 _ _ e1)⟩, for_list (K := K) (xs := zs1.map V.str) (fun i σ G => WoSt zs1 zs2 H p c l1 l2 lf d ns b (i * zs2.length) L W key σ G) ⟨rfl, rfl, rfl, rfl, rfl, rfl, by rw [Nat.zero_mul]; exact P0.same st0, ⟨L, upd_same, by omega, nd0, tb0, ci0, fun _ _ => rfl⟩, Same.X st0⟩ (fun i σ G _ x => SqL.of (x.fr _ _ o1 e1)) (fun i x σ G hx S => ?_) (fun σ G S => ?_)⟩
    · obtain ⟨a, ha, rfl⟩ := text_of (List.mem_of_getElem? hx)
      have wa := w1 a ha
      have S4 := S.set (i := 6) (v := .str a) (Nat.le_refl _)
      have v4 : (σ.set 6 (some (V.str a)))[6]? = some (some (V.str a)) := by simp [S.ln]
      have hi : i < zs1.length := by
        have := (List.getElem?_eq_some_iff.mp hx).1
        rw [List.length_map] at this
        exact this
      have im : i * zs2.length + zs2.length ≤ zs1.length * zs2.length := by
        have := Nat.mul_le_mul_right zs2.length (show i + 1 ≤ zs1.length from hi)
        rw [Nat.add_mul, Nat.one_mul] at this
        exact this
      refine ⟨_, S4.s3, l2, rfl, ⟨_, SqL.of (S4.fr _ _ o2 e2)⟩, for_list (K := K) (xs := zs2.map V.str) (fun j τ G => WoSt zs1 zs2 H p c l1 l2 lf d ns b (i * zs2.length + j) L W key τ G ∧ τ[6]? = some (some (.str a))) ⟨S4, v4⟩ (fun j τ G _ x => SqL.of (x.1.fr _ _ o2 e2)) (fun j x τ G hy S => ?_) (fun τ G S => ?_)⟩
      · obtain ⟨S, t4⟩ := S
        obtain ⟨y, hyy, rfl⟩ := text_of (List.mem_of_getElem? hy)
        have wy := w2 y hyy
        have hj : j < zs2.length := by
          have := (List.getElem?_eq_some_iff.mp hy).1
          rw [List.length_map] at this
          exact this
        have S5 := S.set (i := 7) (v := .str y) (by decide)
        have u4 : (τ.set 7 (some (V.str y)))[6]? = some (some (V.str a)) := by rw [List.getElem?_set_ne (by decide)]; exact t4
        have u5 : (τ.set 7 (some (V.str y)))[7]? = some (some (V.str y)) := by simp [S.ln]
        refine ⟨_, u4, _, u5, (by show 2 ≤ sizeLine; decide), fun kp1 G1 n1 s1 q1' => ?_⟩
        have elf1 := s1 _ _ (S5.fr _ _ o4 elf)
        have fx1 : Paired (FixT key G1) W fs := fix_same (fun z o hz ⟨xs, eo⟩ => s1 _ _ (S5.fr _ _ (fun e => by
          obtain ⟨⟨_, _, hp, _⟩, _⟩ := P0
          rw [e, hp, eo] at hz
          cases hz) hz)) px
        refine ⟨_, S5.s4, .tuple [.str a, .str y], W.map fun n => .tuple [.str n, .str key], .tup (SqT.of q1') (.cons (.str _) (.cons (.str _) .nil)), .lst (SqL.of elf1) (fix_dp fx1), one_shaped (word_ok wa) (word_ok wy), fix_shaped (word_ok wk) hok, ?_⟩
        have P1 := S5.pen.same s1
        refine ⟨_, rfl, ite2 (fun h1 => ?_) (fun h1 => ?_)⟩
        · have no := fix_no h1
          refine ⟨_, S5.s0, p, c, ns, _, 2, rfl, P1, hn, by omega, by decide, by decide, fun r G2 r0 r3 P2 x2 => ⟨rfl, _, rfl, ite2 (fun h2 => ?_) (fun h2 => ?_)⟩⟩
          · refine ⟨_, S5.s0, p, c, ns, _, rfl, P2, hn, by omega, fun v G3 vb P3 x3 => ?_⟩
            refine ⟨_, S5.s5, _, u4, _, u5, sz (by simp), fun kt G4 n4 s4 e4 => ?_⟩
            obtain ⟨t, ed, lt, nd, ok, ci, vv⟩ := S5.tab
            have ed4 : G4 d = some (.dT (t.map ent)) := s4 _ _ (x3 _ _ od (x2 _ _ od (s1 _ _ ed)))
            have pd : DPut G4 d (.ref kt) (.int v) (upd G4 d (.dT ((tput t (a, y) v).map ent))) := by
              have g := DPut.t (k := kp (a, y)) (v := .int v) ed4 e4 (by rw [List.length_map]; exact Nat.lt_of_le_of_lt (show t.length ≤ 300 by omega) (by decide))
              rw [put_ent t (a, y) v nd] at g
              exact g
            have fin : SameX p H (upd G4 d (.dT ((tput t (a, y) v).map ent))) := fun z o nz hz => by
              rw [upd_ne (ne_of_none hz hd0)]
              exact s4 _ _ (x3 _ _ nz (x2 _ _ nz (s1 _ _ (S5.fr _ _ nz hz))))
            have P4 : PenAt (upd G4 d (.dT ((tput t (a, y) v).map ent))) p c ns (b + 8 * (i * zs2.length + (j + 1))) := by
              obtain ⟨⟨a1, r1, hp, z1⟩, ce⟩ := (P3.same s4).mono (b' := b + 8 * (i * zs2.length + (j + 1))) (by omega)
              obtain ⟨_, ce0⟩ := P0
              exact ⟨⟨a1, r1, (upd_ne od.symm).trans hp, z1⟩, (upd_ne (ne_of_none ce0 hd0)).trans ce⟩
            refine ⟨d, _, rfl, pd, ?_⟩
            exact ⟨⟨S5.ln, S5.s0, S5.s2, S5.s3, S5.s4, S5.s5, P4, ⟨_, upd_same, Nat.le_trans (tput_len t (a, y) v) (by omega), tput_nodup nd, ok.put wa wy vb.1 vb.2, ci.put ha hyy, fun n hn => by rw [vl_put, if_neg (no n hn)]; exact vv n hn⟩, fin⟩, u4⟩
          · obtain ⟨t, ed, lt, nd, ok, ci, vv⟩ := S5.tab
            exact ⟨⟨S5.ln, S5.s0, S5.s2, S5.s3, S5.s4, S5.s5, P2.mono (by omega), ⟨t, x2 _ _ od (s1 _ _ ed), by omega, nd, ok, ci, vv⟩, (S5.fr.trans (Same.X s1)).trans x2⟩, u4⟩
        · refine iteF ?_
          obtain ⟨t, ed, lt, nd, ok, ci, vv⟩ := S5.tab
          exact ⟨⟨S5.ln, S5.s0, S5.s2, S5.s3, S5.s4, S5.s5, P1.mono (by omega), ⟨t, s1 _ _ ed, by omega, nd, ok, ci, vv⟩, S5.fr.trans (Same.X s1)⟩, u4⟩
      · obtain ⟨S, t4⟩ := S
        rw [List.length_map] at S
        show WoSt zs1 zs2 H p c l1 l2 lf d ns b ((i + 1) * zs2.length) L W key τ G
        rw [Nat.add_mul, Nat.one_mul]
        exact S
    · rw [List.length_map] at S
      obtain ⟨t, ed, lt, nd, ok, ci, vv⟩ := S.tab
      refine ⟨_, S.s5, d, t, rfl, ed, by omega, nd, fun zs r G2 srt s2 rows => ?_⟩
      refine k r _ G2 rows (rows_ok ok srt) (cell_rows srt ci) ?_ (fun n hn => by rw [vl_rows srt]; exact vv n hn) ((S.pen.same s2).mono (by omega)) (S.fr.trans (Same.X s2))
      have a := rowsOf_len t zs
      have b' := srt.perm.length_eq
      rw [List.length_map] at b'
      omega
end
end Hd

set_option Elab.async false
set_option linter.all false
set_option maxRecDepth 100000
set_option maxHeartbeats 8000000
namespace Hd
open PySem L2 Pen RG Dat KEq TxS
abbrev sIk : Stmt := top 55
theorem inV_str {x : Str} : ∀ {ys : List Str}, inV (.str x) (ys.map V.str) = decide (x ∈ ys)
  | [] => rfl
  | y :: ys => by
    have ih := inV_str (x := x) (ys := ys)
    unfold inV at ih ⊢
    rw [List.map_cons, List.any_cons, ih]
    have e : eqV (.str y) (.str x) = decide (x = y) := by
      by_cases q : x = y
      · subst q
        simp [eqV]
      · have q' : ¬ y = x := fun e => q e.symm
        simp [eqV, q, q']
    rw [e]
    by_cases q : x = y
    · simp [q]
    · simp [q]
theorem flat_strs (ys : List Str) : (ys.map V.str).all flatV = true := by
  rw [List.all_map]
  exact List.all_eq_true.mpr fun y _ => rfl
theorem keys_get {H : Hp} {c : Addr} : ∀ {t : List (Z × Int)} {bs : List Addr} {i : Nat}, IsKeys H (t.map ent) bs → bs[i]? = some c → ∃ z, z ∈ t.map (·.1) ∧ H c = some (.tup [.str z.1, .str z.2])
  | [], _, i, .nil, e => by cases e
  | x :: t, _, 0, .cons a r, e => by
    cases e
    exact ⟨x.1, List.mem_cons_self, a⟩
  | x :: t, _, i + 1, .cons a r, e => by
    obtain ⟨z, m, q⟩ := keys_get (t := t) (i := i) r (by simpa using e)
    exact ⟨z, List.mem_cons_of_mem _ m, q⟩
theorem keys_len {H : Hp} {t : List (Z × Int)} {bs : List Addr} (x : IsKeys H (t.map ent) bs) : bs.length = t.length := by
  have := paired_length x
  rw [List.length_map] at this
  exact this.symm
theorem keys_same {H G : Hp} (s : Same H G) : ∀ {kvs : List (List Key × V)} {bs : List Addr}, IsKeys H kvs bs → IsKeys G kvs bs
  | _, _, .nil => .nil
  | _, _, .cons a r => .cons (s _ _ a) (keys_same s r)
theorem lk_get {H : Hp} {d c : Addr} {t : List (Z × Int)} {z : Z} (ed : H d = some (.dT (t.map ent))) (ec : H c = some (.tup [.str z.1, .str z.2])) : ∃ o, DGet H d (.ref c) o ∧ o.getD (.int 0) = .int (vl t z) := by
  refine ⟨_, DGet.t (k := kp z) ed ec, ?_⟩
  rw [val_ent]
  unfold vl
  cases lk t z <;> rfl
def spIk : Sp := fun vs H Q _ => ∃ (r e pr w0 w1 w2 : Addr) (key : Str) (L : List (Z × Int)) (x : Bool × Sta) (W1 W2 : List Str), vs = [.ref r, .ref e, .str key, .ref pr] ∧ RowsAt H r L ∧ (L.map (·.1)).Nodup ∧ L.length ≤ 900 ∧ RunAt H e x ∧ x.1 = true ∧ x.2.t.length ≤ 900 ∧ x.2.ss.length ≤ 900 ∧
  H pr = some (.tup [.ref w0, .ref w1, .ref w2]) ∧ DpT.TupF H w1 (W1.map V.str) ∧ DpT.TupF H w2 (W2.map V.str) ∧ (∀ z : Z, (z.2 ≠ key ∨ z.1 ∉ W1) → vl L z = vl x.2.t z) ∧ (∀ e ∈ x.2.ss, e.1 ∈ W2) ∧ ∀ H', Same H H' → Q (.bl true) H'
section
variable {P : Program} {w : World} {K : PySem.W.Frag} {mg : Str → Option Value} {base : Heap}
theorem scIk : FnScope ["_law_rows_here", "_law_end", "_law_key", "_law_prints", "_law_before", "_law_after", "_law_cell", "_law_kind", "_law_other", "_law_value"] ["_law_rows_here", "_law_end", "_law_key", "_law_prints"] (defScope sIk) := ⟨rfl, rfl, rfl, by decide +kernel, rfl, by decide +kernel, by decide +kernel⟩
theorem ok_ik {f : Addr} {fd : FuncData} (F : Fun K "_law_is_kept" "_law_is_kept" sIk f fd) (TD : mg "dict" = none) (TL : mg "list" = none) : FnOk P w K mg base CX0 1 f fd ["_law_rows_here", "_law_end", "_law_key", "_law_prints"] spIk := by
  refine F.ok scIk (fun vs H Q E h => ?_) (fun cdv A0 outer s H vs Q E hr h => ?_)
  · obtain ⟨r, e, pr, w0, w1, w2, key, L, x, W1, W2, rfl, _⟩ := h
    rfl
  · obtain ⟨r, e, pr, w0, w1, w2, key, L, x, W1, W2, rfl, ra, nd, l9, run, x0, t9, s9, epr, ew1, ew2, hv, hs, k⟩ := h
    have hu := hu_of hr
    have hu3 := Nat.lt_of_le_of_lt (Nat.add_le_add_left (show 3 ≤ 64 by decide) _) hr.units
    refine ⟨_, (pss_cons (ps_par (i := 4) (j := 5) rfl scIk.nd rfl rfl (by decide) rfl rfl (pa_cons (pe_callTy (DpT.call_dictT rfl hu3) (by rfl) TD (by decide +kernel) (pa_cons (pv 0) pa_nil)) (pa_cons (pe_callTy (DpT.call_dictT rfl hu3) (by rfl) TD (by decide +kernel) (pa_cons (pe_ix ix_tup (pv 1) pe_int (fun _ _ => rfl)) pa_nil)) pa_nil)) (by rfl))
      (pss_cons (ps_for PassesOwn.never rfl (pi_list (pe_op Ab.op_catA (pe_callTy (call_list_dT rfl) (by rfl) TL PyProof.Rows.boot_list (pa_cons (pv 4) pa_nil)) (pe_callTy (call_list_dT rfl) (by rfl) TL PyProof.Rows.boot_list (pa_cons (pv 5) pa_nil)))) (pg_name (i := 6) scIk.nd rfl (Or.inl rfl))
        (pss_one (ps_if (PW.pt (pw_and (PW.pt (pw_or (pt_cmpR op_ne (pe_ix ix_tup (pv 6) pe_int (fun _ _ => rfl)) (pv 2) (nomark _)) (pw_or1 (pt_cmpR op_notIn_seq (pe_ix ix_tup (pv 6) pe_int (fun _ _ => rfl)) (pe_ix ix_tup (pv 3) pe_int (fun _ _ => rfl)) (by rfl))))) (pw_and1 (pt_cmpR op_ne (pe_dget2 hu (pv 4) (pv 6) pe_int ⟨by rfl, by rfl, by rfl, by rfl⟩) (pe_dget2 hu (pv 5) (pv 6) pe_int ⟨by rfl, by rfl, by rfl, by rfl⟩) (nomark _))))) (pss_one (ps_ret pe_bl)) pss_nil)))
      (pss_one (ps_ret (pe_cmpR (op_eqNil hu) (pe_lc (own := [("_law_kind", 7), ("_law_other", 8), ("_law_value", 9)]) (g := gTup K 3 (gCons (gName 7) (gCons (gName 8) (gCons (gName 9) gNil)))) (tt := tTest (tOp (rIn K true) (tVar 7) (tOp (rIxT K) (tVar 3) (tC (.int 2))))) (te := tVar 7) rfl scIk.nd (pi_tup (pe_ix ix_tup (pv 1) pe_int (fun _ _ => rfl))) (blkOk_by (N := ["_law_rows_here", "_law_end", "_law_key", "_law_prints", "_law_before", "_law_after", "_law_cell", "_law_kind", "_law_other", "_law_value"]) (sc := defScope sIk) (by decide +kernel)) (fun _ _ _ _ _ => by exact (pg_tup (by rfl) (pgs_cons (pg_name (i := 7) scIk.nd rfl (Or.inl rfl)) (pgs_cons (pg_name (i := 8) scIk.nd rfl (Or.inl rfl)) (pgs_cons (pg_name (i := 9) scIk.nd rfl (Or.inl rfl)) pgs_nil))))) (fun _ _ _ _ _ => by exact pts_one (pt_cmpR op_notIn_seq (pv 7) (pe_ix ix_tup (pv 3) pe_int (fun _ _ => rfl)) (by rfl))) (fun _ _ _ _ _ => by exact (pv 7))) (Ab.pe_lstA pa_nil) (nomark _)))))), ?_⟩
    cases run with
    | failed xf _ => rw [x0] at xf; cases xf
    | done zs a sa ts _ srt er rows tf ps =>
    obtain ⟨ts0, tf0, pr0⟩ := ra
    have ndz : zs.Nodup := srt.perm.nodup_iff.mpr srt.nd
    have lz : zs.length = x.2.t.length := by rw [srt.perm.length_eq, List.length_map]
    have lr := rowsOf_len x.2.t zs
    have ndr : ((rowsOf x.2.t zs).map (·.1)).Nodup := by
      unfold rowsOf
      rw [List.map_map]
      show ((zs.filter _).map id).Nodup
      rw [List.map_id]
      exact ndz.filter _
    have hv2 : ∀ z : Z, (z.2 ≠ key ∨ z.1 ∉ W1) → vl L z = vl (rowsOf x.2.t zs) z := fun z hz => by rw [vl_rows srt]; exact hv z hz
    generalize hM : rowsOf x.2.t zs = M at *
    obtain ⟨ts2, tf2, pr2⟩ := rows
    have len0 := paired_length pr0
    refine ⟨_, rfl, r, ts0, L.map ent, rfl, tf0, pairT_of pr0, ent_nodup nd, by rw [List.length_map]; omega, fun d1 n1 => ?_⟩
    have s1 := same_new (o := .dT (L.map ent)) n1
    have tf2' : DpT.TupF (upd H d1 (.dT (L.map ent))) a (ts2.map V.ref) := by
      obtain ⟨o, q1, q2, q3⟩ := tf2
      exact ⟨o, q1, q2, s1 _ _ q3⟩
    refine ⟨_, rfl, e, _, 1, _, rfl, rfl, SqT.of (s1 _ _ er), atI_nat (j := 1) rfl, a, ts2, M.map ent, rfl, tf2', pairT_of (rows_same s1 pr2), ent_nodup ndr, by rw [List.length_map]; omega, fun d2 n2 => ⟨_, _, rfl, ?_⟩⟩
    have s2 := s1.trans (same_new (o := .dT (M.map ent)) n2)
    have ed1 := (same_new (o := .dT (M.map ent)) n2) _ _ (upd_same (H := H) (a := d1) (o := .dT (L.map ent)))
    have ed2 := upd_same (H := upd H d1 (.dT (L.map ent))) (a := d2) (o := .dT (M.map ent))
    generalize hG2 : upd (upd H d1 (.dT (L.map ent))) d2 (.dT (M.map ent)) = G2 at *
    refine ⟨_, rfl, d1, L.map ent, rfl, .inl ed1, fun b1 bs1 nb1 ik1 => ?_⟩
    have s3 := same_new (o := .lst (bs1.map V.ref)) nb1
    refine ⟨_, rfl, d2, M.map ent, rfl, .inl (s3 _ _ ed2), fun b2 bs2 nb2 ik2 => ?_⟩
    have s4 := same_new (o := .lst (bs2.map V.ref)) nb2
    have lk1 := keys_len ik1
    have lk2 := keys_len ik2
    have s34 := s3.trans s4
    have eb1 := s4 _ _ (upd_same (H := G2) (a := b1) (o := .lst (bs1.map V.ref)))
    refine ⟨b1, b2, bs1.map V.ref, bs2.map V.ref, rfl, rfl, eb1, upd_same, by rw [List.length_map, List.length_map]; exact Nat.le_trans (show bs1.length + bs2.length ≤ 1800 by omega) (by decide), fun bl G nbl sbl ebl => ?_⟩
    have s5 := s34.trans sbl
    have sHG := s2.trans s5
    have ed1' := s5 _ _ ed1
    have ed2' := s5 _ _ ed2
    have ikk1 := keys_same s5 ik1
    have ikk2 := keys_same (s4.trans sbl) ik2
    refine ⟨bl, rfl, ⟨_, SqL.of ebl⟩, for_list (K := K) (xs := bs1.map V.ref ++ bs2.map V.ref) (fun i σ G' => σ.length = 10 ∧ σ[1]? = some (some (.ref e)) ∧ σ[2]? = some (some (.str key)) ∧ σ[3]? = some (some (.ref pr)) ∧ σ[4]? = some (some (.ref d1)) ∧ σ[5]? = some (some (.ref d2)) ∧ G' = G) ⟨rfl, rfl, rfl, rfl, rfl, rfl, rfl⟩ (fun i σ G' _ h => by rw [h.2.2.2.2.2.2]; exact SqL.of ebl) (fun i y σ G' hy h => ?_) (fun σ G' h => ?_)⟩
    · obtain ⟨v0, v1, v2, v3, v4, v5, rfl⟩ := h
      obtain ⟨c, z, rfl, ec⟩ : ∃ (c : Addr) (z : Z), y = V.ref c ∧ G' c = some (.tup [.str z.1, .str z.2]) := by
        have hm := List.mem_of_getElem? hy
        rcases List.mem_append.mp hm with m | m
        · obtain ⟨c, hc, rfl⟩ := List.mem_map.mp m
          obtain ⟨i, hi, e⟩ := List.mem_iff_getElem.mp hc
          obtain ⟨z, _, q⟩ := keys_get ikk1 (show bs1[i]? = some c by rw [List.getElem?_eq_getElem hi, e])
          exact ⟨c, z, rfl, q⟩
        · obtain ⟨c, hc, rfl⟩ := List.mem_map.mp m
          obtain ⟨i, hi, e⟩ := List.mem_iff_getElem.mp hc
          obtain ⟨z, _, q⟩ := keys_get ikk2 (show bs2[i]? = some c by rw [List.getElem?_eq_getElem hi, e])
          exact ⟨c, z, rfl, q⟩
      obtain ⟨o1, g1, q1⟩ := lk_get ed1' ec
      obtain ⟨o2, g2, q2⟩ := lk_get ed2' ec
      have w6 : ∀ j, j < 6 → (σ.set 6 (some (V.ref c)))[j]? = σ[j]? := fun j hj => List.getElem?_set_ne (by omega)
      have v6 : (σ.set 6 (some (V.ref c)))[6]? = some (some (V.ref c)) := by simp [v0]
      have v1' := (w6 1 (by decide)).trans v1
      have v2' := (w6 2 (by decide)).trans v2
      have v3' := (w6 3 (by decide)).trans v3
      have v4' := (w6 4 (by decide)).trans v4
      have v5' := (w6 5 (by decide)).trans v5
      have go : (σ.set 6 (some (V.ref c))).length = 10 ∧ (σ.set 6 (some (V.ref c)))[1]? = some (some (.ref e)) ∧ (σ.set 6 (some (V.ref c)))[2]? = some (some (.str key)) ∧ (σ.set 6 (some (V.ref c)))[3]? = some (some (.ref pr)) ∧ (σ.set 6 (some (V.ref c)))[4]? = some (some (.ref d1)) ∧ (σ.set 6 (some (V.ref c)))[5]? = some (some (.ref d2)) ∧ G' = G' := ⟨by rw [List.length_set]; exact v0, v1', v2', v3', v4', v5', rfl⟩
      have ew1' : SqT K G' w1 (W1.map V.str) := by
        obtain ⟨o, a1, a2, a3⟩ := ew1
        exact .inl (.inr ⟨o, sHG _ _ a3⟩)
      have ne_no : (z.2 ≠ key ∨ z.1 ∉ W1) → ¬ (!decide (o1.getD (.int 0) = o2.getD (.int 0))) = true := fun hz h => by
        rw [q1, q2, hv2 z hz] at h
        simp at h
      have sc : scal (o1.getD (.int 0)) (o2.getD (.int 0)) = true := by rw [q1, q2]; rfl
      refine ⟨_, v6, c, _, 1, _, rfl, rfl, SqT.of ec, atI_nat (j := 1) rfl, _, v2', rfl, _, rfl, ite2 (fun h1 => ?_) (fun h1 => ?_)⟩
      · have hz : z.2 ≠ key := fun q => by rw [q] at h1; simp at h1
        refine iteT ?_
        refine ⟨_, v4', d1, rfl, .inr ⟨_, .inl ed1'⟩, _, v6, o1, g1, _, v5', d2, rfl, .inr ⟨_, .inl ed2'⟩, _, v6, o2, g2, sc, _, rfl, ite2 (fun h2 => absurd h2 (ne_no (.inl hz))) (fun _ => ?_)⟩
        exact go
      · refine ⟨_, v6, c, _, 0, _, rfl, rfl, SqT.of ec, atI_nat (j := 0) rfl, _, v3', pr, _, 1, _, rfl, rfl, SqT.of (sHG _ _ epr), atI_nat (j := 1) rfl, w1, _, rfl, .inr ew1', rfl, flat_strs W1, _, rfl, ite2 (fun h3 => ?_) (fun h3 => ?_)⟩
        · have hz : z.1 ∉ W1 := fun q => by
            have h3 : (!inV (.str z.1) (W1.map V.str)) = true := h3
            rw [inV_str, decide_eq_true q] at h3
            cases h3
          refine ⟨_, v4', d1, rfl, .inr ⟨_, .inl ed1'⟩, _, v6, o1, g1, _, v5', d2, rfl, .inr ⟨_, .inl ed2'⟩, _, v6, o2, g2, sc, _, rfl, ite2 (fun h2 => absurd h2 (ne_no (.inr hz))) (fun _ => ?_)⟩
          exact go
        · exact go
    · obtain ⟨v0, v1, v2, v3, v4, v5, rfl⟩ := h
      have tfG : SqT K G' sa (ts.map V.ref) := by
        obtain ⟨o, a1, a2, a3⟩ := tf
        exact .inl (.inr ⟨o, sHG _ _ a3⟩)
      have ew2' : SqT K G' w2 (W2.map V.str) := by
        obtain ⟨o, a1, a2, a3⟩ := ew2
        exact .inl (.inr ⟨o, sHG _ _ a3⟩)
      refine ⟨_, v1, e, _, 2, _, rfl, rfl, SqT.of (sHG _ _ er), atI_nat (j := 2) rfl, sa, rfl, ⟨_, tfG⟩, fun D hD => lc_tup (xs := ts.map V.ref) (fun i G2 => G2 D = some (.lst []) ∧ Same G' G2) ⟨upd_same, same_new hD⟩ (fun i G2 _ h => sqT_same h.2 tfG) (fun i y G2 hy h => ?_) (fun G2 h => ?_)⟩
      · obtain ⟨eD, sg⟩ := h
        obtain ⟨t, ht, rfl⟩ : ∃ t, ts[i]? = some t ∧ V.ref t = y := by
          rw [List.getElem?_map] at hy
          obtain ⟨c, a, b⟩ := Option.map_eq_some_iff.mp hy
          exact ⟨c, a, b⟩
        obtain ⟨en, he, et⟩ := pget ps ht
        obtain ⟨y0, y1, y2, y3, y4, y5, y6, y7, y8, y9, rfl⟩ : ∃ y0 y1 y2 y3 y4 y5 y6 y7 y8 y9, σ = [y0, y1, y2, y3, y4, y5, y6, y7, y8, y9] := by
          match σ, v0 with
          | [y0, y1, y2, y3, y4, y5, y6, y7, y8, y9], _ => exact ⟨y0, y1, y2, y3, y4, y5, y6, y7, y8, y9, rfl⟩
        obtain rfl : y3 = _ := Option.some.inj v3
        have mem := hs en (List.mem_of_getElem? he)
        refine ⟨t, _, rfl, SqT.of (sg _ _ (sHG _ _ et)), rfl, _, _, rfl, _, _, rfl, _, _, rfl, rfl, rfl, ?_⟩
        refine ⟨_, rfl, _, rfl, pr, _, 2, _, rfl, rfl, SqT.of (sg _ _ (sHG _ _ epr)), atI_nat (j := 2) rfl, w2, W2.map V.str, rfl, .inr (sqT_same sg ew2'), rfl, flat_strs W2, _, rfl, ite2 (fun h3 => ?_) (fun _ => ⟨eD, sg⟩)⟩
        have h3 : (!inV (.str en.1) (W2.map V.str)) = true := h3
        rw [inV_str, decide_eq_true mem] at h3
        cases h3
      · obtain ⟨eD, sg⟩ := h
        refine ⟨by decide, fun q5 G5 n5 nm5 sm5 eq5 => ⟨_, _, [], rfl, rfl, SqL.of (sm5 _ _ eD), SqL.of eq5, k _ ((sHG.trans sg).trans sm5)⟩⟩
end
end Hd

set_option Elab.async false
set_option linter.all false
set_option maxRecDepth 100000
set_option maxHeartbeats 8000000
namespace Hd
open PySem L2 Pen RG Dat KEq TxS
def RdOk (A : List Str) (n : Nat) (l : List Str) : Prop := l.length ≤ 200 * n ∧ ∀ y ∈ l, y ∈ A
theorem rd_all {A : List Str} {g : List PyData → List PyData} {F : PyData → Nat → Prop} (hf : ∀ d x, F d x → RdOk A x ((d :: subs g d).flatMap rdD)) : ∀ {ds : List PyData} {n : Nat}, vA F ds n → RdOk A n ((allF g ds).flatMap rdD)
  | [], _, _ => ⟨Nat.zero_le _, fun _ m => by cases m⟩
  | d :: ds, n, ⟨x, y, a, b, e⟩ => by
    obtain ⟨l1, m1⟩ := hf d x a
    obtain ⟨l2, m2⟩ := rd_all hf b
    have q : allF g (d :: ds) = (d :: subs g d) ++ allF g ds := rfl
    rw [q, List.flatMap_append]
    refine ⟨by rw [List.length_append]; omega, fun z hz => ?_⟩
    rcases List.mem_append.mp hz with h | h
    · exact m1 z h
    · exact m2 z h
theorem rd_one {Z : Wz} {g : List PyData → List PyData} {d : PyData} (o : isOne d = true) (w : oneIn Z d) : RdOk Z.A 1 ((d :: subs g d).flatMap rdD) := by
  rcases deed_cases (deed_one (i := 0) (r := 1) o) with ⟨rfl, e⟩ | ⟨n, y, rfl, wn, ye, e⟩ | ⟨n, k, y, rfl, wn, hk, ye, e⟩ | ⟨j, c, as, bs, r3, ej, _⟩
  · exact ⟨Nat.zero_le _, fun _ m => by cases m⟩
  · obtain ⟨gz, gl, gm, gb⟩ := w
    have q : ((PyData.tuple [.str "set", .str n, y]) :: subs g (.tuple [.str "set", .str n, y])).flatMap rdD = rn y := by
      show ([y].flatMap rn) ++ [] = rn y
      simp
    rw [q]
    exact ⟨by omega, gm⟩
  · obtain ⟨gz, gk, gl, gm, gb⟩ := w
    have t1 : treesOf (.tuple [.str "send", .str n, k, y]) = [y] := treesOf_four.trans (if_neg (by decide +kernel))
    have z : subs g (.tuple [.str "send", .str n, k, y]) = [] := subs_four.trans (if_neg (by decide +kernel))
    have q : ((PyData.tuple [.str "send", .str n, k, y]) :: subs g (.tuple [.str "send", .str n, k, y])).flatMap rdD = rn y := by
      rw [z, List.flatMap_cons]
      unfold rdD
      rw [t1]
      simp
    rw [q]
    exact ⟨by omega, gm⟩
  · cases ej
theorem rd_d {Z : Wz} : ∀ (i : Nat) {ds : List PyData} {n : Nat}, vA (vD Z i) ds n → RdOk Z.A n ((allD i ds).flatMap rdD) := by
  intro i
  induction i with
  | zero =>
    intro ds n v
    refine rd_all (fun d x h => ?_) v
    rw [h.2.2]
    exact rd_one h.1 h.2.1
  | succ i ih =>
    intro ds n v
    refine rd_all (fun d x h => ?_) v
    rcases h with h | ⟨c, a, b, u, y, rfl, hc, gc, va, vb, e⟩
    · rw [h.2.2]
      exact rd_one h.1 h.2.1
    · have t1 : treesOf (.tuple [.str "if", c, .tuple a, .tuple b]) = [c] := treesOf_four.trans (if_pos (by decide +kernel))
      have z : subs (allD i) (.tuple [.str "if", c, .tuple a, .tuple b]) = allD i a ++ allD i b := subs_four.trans (if_pos (by decide +kernel))
      obtain ⟨l1, m1⟩ := ih va
      obtain ⟨l2, m2⟩ := ih vb
      have q : rdD (.tuple [.str "if", c, .tuple a, .tuple b]) = rn c := by
        unfold rdD
        rw [t1]
        simp
      have e' : x = 1 + u + y := e
      rw [z, List.flatMap_cons, List.flatMap_append, q]
      have gl := gc.1
      refine ⟨by rw [List.length_append, List.length_append]; omega, fun w hw => ?_⟩
      rcases List.mem_append.mp hw with h | h
      · exact gc.2.1 w h
      · rcases List.mem_append.mp h with h | h
        · exact m1 w h
        · exact m2 w h
theorem rd_h {Z : Wz} {ds : List PyData} {n : Nat} (v : vA (vD Z 3) ds n) (h : n ≤ 12) : (readsOf ds).length ≤ 4000 ∧ ∀ y ∈ readsOf ds, y ∈ Z.A := by
  obtain ⟨a, b⟩ := rd_d 3 v
  exact ⟨Nat.le_trans a (by omega), b⟩
end Hd

set_option Elab.async false
set_option linter.all false
set_option maxRecDepth 100000
set_option maxHeartbeats 8000000
namespace Hd
open PySem L2 Pen RG Dat KEq
abbrev sSh : Stmt := top 40
/-- xs != [], xs may be empty -/
def rNeN (K : PySem.W.Frag) : R2 := fun x y G Want => ∃ (a b : Addr) (xs : List V), x = .ref a ∧ y = .ref b ∧ SqL K G a xs ∧ SqL K G b [] ∧ Want (.bl (!xs.isEmpty)) G
theorem op_neN {X : Cx} (hu : X.A.units + 64 < cLine) : OpR X (compareOp .NotEq) (rNeN X.K) := by
  intro pins st σ G x y v u Want I rx ry h
  obtain ⟨a, b, xs, rfl, rfl, ha, hb, q⟩ := h
  cases xs with
  | nil => exact op_neD hu pins st σ G _ _ v u Want I rx ry ⟨.list [], .list [], .lst ha .nil, .lst hb .nil, rfl, rfl, q⟩
  | cons c t => exact op_neNil (by omega) pins st σ G _ _ v u Want I rx ry ⟨a, b, _, rfl, rfl, ha, by simp, hb, q⟩
def spSh : Sp := fun vs H Q _ => ∃ (p c : Addr) (ns : List Int) (b : Nat) (l : Addr) (ys : List Str), vs = [.ref p, .ref l] ∧ PenAt H p c ns b ∧ ns.length ≤ 63 ∧ b < 2 ^ 39 ∧ H l = some (.lst (ys.map V.str)) ∧ ys.length ≤ 10 ∧
  ∀ (r : Addr) (zs : List Str) (H' : Hp), H r = none → zs.Perm ys → H' r = some (.lst (zs.map V.str)) → PenAt H' p c ns (b + ys.length) → SameX p H H' → Q (.ref r) H'
section
variable {P : Program} {w : World} {K : PySem.W.Frag} {mg : Str → Option Value} {base : Heap}
theorem scSh : FnScope ["_law_pen_here", "_law_items", "_law_rest", "_law_found"] ["_law_pen_here", "_law_items"] (defScope sSh) := ⟨rfl, rfl, rfl, by decide +kernel, rfl, by decide +kernel, by decide +kernel⟩
def lenAt (H : Hp) (a : Addr) : Nat := match H a with
  | some (.lst xs) => xs.length
  | _ => 0
theorem itF {b : Bool} {p q : Prop} (h : b = false) (hq : q) : if b = true then p else q := by rw [h, if_neg (by simp)]; exact hq
theorem itT {b : Bool} {p q : Prop} (h : b = true) (hp : p) : if b = true then p else q := by rw [if_pos h]; exact hp
theorem erase_map {α β : Type} {g : α → β} : ∀ (xs : List α) (j : Nat), (xs.map g).eraseIdx j = (xs.eraseIdx j).map g
  | [], _ => rfl
  | _ :: _, 0 => rfl
  | x :: xs, j + 1 => by
    show g x :: (xs.map g).eraseIdx j = g x :: (xs.eraseIdx j).map g
    rw [erase_map xs j]
theorem erase_perm {α : Type} : ∀ {xs : List α} {j : Nat} (h : j < xs.length), (xs[j] :: xs.eraseIdx j).Perm xs
  | x :: xs, 0, _ => .refl _
  | x :: xs, j + 1, h => by
    have h : j < xs.length := by simpa using h
    show (xs[j] :: x :: xs.eraseIdx j).Perm (x :: xs)
    exact (List.Perm.swap x xs[j] _).trans (List.Perm.cons x (erase_perm h))
theorem ok_sh {f fD : Addr} {fd fdD : FuncData} (F : Fun K "_law_shuffled" "_law_shuffled" sSh f fd) (T : TxtH mg) (TL : mg "list" = none)
    (GDraw : FnOk P w K mg base CX0 1 fD fdD ["_law_pen_here", "_law_many"] spDraw) (TDraw : DefT K mg "_law_draw" fD) (bDraw : Binds K fdD ["_law_pen_here", "_law_many"] []) : FnOk P w K mg base CX0 2 f fd ["_law_pen_here", "_law_items"] spSh := by
  refine F.ok scSh (fun vs H Q E h => ?_) (fun cdv A outer s H vs Q E hr h => ?_)
  · obtain ⟨p, c, ns, b, l, ys, rfl, _⟩ := h
    rfl
  · obtain ⟨p, c, ns, b, l, ys, rfl, P0, hn, hb, el, l10, k⟩ := h
    have hu := hu_of hr
    refine ⟨_, (pss_cons (ps_par (i := 2) (j := 3) rfl scSh.nd rfl rfl (by decide) rfl rfl (pa_cons (pe_callTy call_list_of (by rfl) TL PyProof.Rows.boot_list (pa_cons (pv 1) pa_nil)) (pa_cons (Ab.pe_lstA pa_nil) pa_nil)) (by rfl))
      (pss_cons (ps_while PassesOwn.never (pt_cmpR (op_neN hr.units) (pv 2) (Ab.pe_lstA pa_nil) (nomark _)) (pss_one (ps_expr (pe_bm PySem.F.plainAttrs_list PySem.F.slot_list_append PySem.F.type_list_append mt_append (pv 3) (pa_cons (pe_bm PySem.F.plainAttrs_list PySem.F.slot_list_pop PySem.F.type_list_pop mt_popAt (pv 2) (pa_cons (pe_call GDraw (hr.mono (by decide)) rfl TDraw.mg TDraw.kp bDraw .nil pass0 (pa_cons (pv 0) (pa_cons (pe_callB call_len_seq (by rfl) T.len PySem.boot_len (pa_cons (pv 2) pa_nil)) pa_nil))) pa_nil)) pa_nil)))))
      (pss_one (ps_ret (pv 3))))), ?_⟩
    refine ⟨_, rfl, l, ys.map V.str, rfl, .inl (SqL.of el), fun lr hlr => ⟨by decide, fun lf G1 nlf _ sf ef => ⟨_, _, rfl, ?_⟩⟩⟩
    have er : G1 lr = some (.lst (ys.map V.str)) := sf _ _ upd_same
    have P1 : PenAt G1 p c ns b := (P0.same (same_new hlr)).same sf
    have orp : lr ≠ p := PenAt.off P0 hlr
    have ofp : lf ≠ p := PenAt.off (P0.same (same_new hlr)) nlf
    have rf : lr ≠ lf := fun z => by rw [z, ] at er; rw [z, upd_same] at nlf; cases nlf
    have nlf0 : H lf = none := by
      rw [upd_ne rf.symm] at nlf
      exact nlf
    have x1 : SameX p H G1 := Same.X ((same_new hlr).trans sf)
    refine while_by (Pv := fun σ G => σ.length = 4 ∧ σ[0]? = some (some (.ref p)) ∧ σ[2]? = some (some (.ref lr)) ∧ σ[3]? = some (some (.ref lf)) ∧ SameX p H G ∧ ∃ rest found : List Str, G lr = some (.lst (rest.map V.str)) ∧ G lf = some (.lst (found.map V.str)) ∧ (found ++ rest).Perm ys ∧ PenAt G p c ns (b + found.length)) (μ := fun _ G => lenAt G lr) ⟨rfl, rfl, rfl, rfl, x1, ys, [], er, ef, List.Perm.refl _, P1⟩ ?_ ?_
    · intro σ G ⟨s0, s1, s2, s3, xG, rest, found, e1, e2, pm, PG⟩
      have oGr := xG
      refine ⟨_, s2, by decide, fun q2 G2 n2 _ sm2 eq2 => ⟨_, _, _, rfl, rfl, SqL.of (sm2 _ _ e1), SqL.of eq2, _, rfl, ?_⟩⟩
      have e1' := sm2 _ _ e1
      have e2' := sm2 _ _ e2
      have P2 := PG.same sm2
      have x2 : SameX p H G2 := xG.trans (Same.X sm2)
      have l10' : found.length + rest.length ≤ 10 := by
        have := pm.length_eq
        rw [List.length_append] at this
        omega
      cases rest with
      | nil =>
        refine itF rfl ?_
        refine ⟨_, s3, ?_⟩
        have fl : found.length = ys.length := by
          have := pm.length_eq
          simpa using this
        rw [List.append_nil] at pm
        exact k lf found G2 nlf0 pm e2' (by rw [← fl]; exact P2) x2
      | cons z zs =>
        refine itT rfl ?_
        refine ⟨_, s3, .inl ⟨rfl, _, SqL.of e2'⟩, _, s2, .inl ⟨rfl, _, SqL.of e1'⟩, _, s1, _, s2, _, _, rfl, .inl (SqL.of e1'), p, c, ns, _, _, rfl, P2, hn, by omega, by simp, by rw [List.length_map]; omega, fun r G3 r0 r1 P3 x3 => ?_⟩
        have e1'' := x3 _ _ orp e1'
        have e2'' := x3 _ _ ofp e2'
        obtain ⟨j, ja, jy, jl, _⟩ : ∃ j, seqIndex? r ((z :: zs).map V.str).length = some j ∧ ((z :: zs).map V.str)[j]? = ((z :: zs).map V.str)[r.toNat]? ∧ j < (z :: zs).length ∧ True := by
          have h3 : r.toNat < ((z :: zs).map V.str).length := by omega
          have := atI_nat (List.getElem?_eq_getElem h3)
          rw [Int.toNat_of_nonneg r0] at this
          obtain ⟨j, a, b, c, _⟩ := atI_get this
          exact ⟨j, a, by rw [b, List.getElem?_eq_getElem h3], by rw [List.length_map] at c; exact c, trivial⟩
        clear jy
        have my : ((z :: zs).map V.str)[j]? = some (.str (z :: zs)[j]) := by rw [List.getElem?_map, List.getElem?_eq_getElem jl]; rfl
        generalize hw : (z :: zs)[j] = y at my
        have l1 : ((z :: zs).map V.str).length ≤ 10 := by rw [List.length_map]; omega
        refine ⟨lr, _, r, j, .str y, rfl, rfl, e1'', by omega, by omega, ja, my, ?_⟩
        have n1 : (upd G3 lr (.lst (((z :: zs).map V.str).eraseIdx j))) lf = some (.lst (found.map V.str)) := by rw [upd_ne rf.symm]; exact e2''
        refine ⟨lf, _, .str y, rfl, rfl, n1, szl (by rw [List.length_map]; omega), ?_⟩
        have er2 : (upd (upd G3 lr (.lst (((z :: zs).map V.str).eraseIdx j))) lf (.lst (found.map V.str ++ [V.str y]))) lr = some (.lst (((z :: zs).eraseIdx j).map V.str)) := by rw [upd_ne rf, upd_same, erase_map]
        refine ⟨⟨s0, s1, s2, s3, ?_, (z :: zs).eraseIdx j, found ++ [y], er2, by rw [upd_same]; simp, ?_, ?_⟩, ?_⟩
        · intro a o ha ho
          rw [upd_ne (ne_of_none ho nlf0), upd_ne (ne_of_none ho hlr)]
          exact x3 _ _ ha (x2 _ _ ha ho)
        · have pe : (y :: (z :: zs).eraseIdx j).Perm (z :: zs) := by rw [← hw]; exact erase_perm jl
          rw [List.append_assoc]
          exact (List.Perm.append_left found pe).trans pm
        · obtain ⟨⟨a1, r2, hp, q1⟩, q3⟩ := P3.mono (b' := b + (found ++ [y]).length) (by rw [List.length_append, List.length_singleton]; omega)
          have c1 : c ≠ lr := ne_of_none P0.ce hlr
          have c2 : c ≠ lf := ne_of_none P0.ce nlf0
          exact ⟨⟨a1, r2, ((upd_ne ofp.symm).trans (upd_ne orp.symm)).trans hp, q1⟩, ((upd_ne c2).trans (upd_ne c1)).trans q3⟩
        · show lenAt _ lr < lenAt G lr
          unfold lenAt
          rw [er2, e1]
          show (((z :: zs).eraseIdx j).map V.str).length < ((z :: zs).map V.str).length
          rw [List.length_map, List.length_map, List.length_eraseIdx_of_lt jl]
          omega
    · intro σ G Q Q' hq h
      obtain ⟨v, hv, l1, q⟩ := h
      refine ⟨v, hv, l1, fun p2 G2 n2 nm sm2 eq2 => ?_⟩
      obtain ⟨a, b2, xs, ea, eb, sa, sb, bb, ez, qq⟩ := q p2 G2 n2 nm sm2 eq2
      exact ⟨a, b2, xs, ea, eb, sa, sb, bb, ez, hq _ _ qq⟩
end
end Hd

set_option Elab.async false
set_option linter.all false
set_option maxRecDepth 100000
set_option maxHeartbeats 8000000
namespace Hd
open PySem L2 Pen RG Dat KEq TxS
abbrev sLaw : Stmt := top 56
def spLaw (K : PySem.W.Frag) : Sp := fun vs H Q _ => ∃ (a : Addr) (ns : List Int), vs = [.ref a] ∧ SqL K H a (ns.map V.int) ∧ ns.length ≤ 63 ∧ ∀ G', Q (.bl true) G'
section
variable {P : Program} {w : World} {K : PySem.W.Frag} {mg : Str → Option Value} {base : Heap}
theorem scLaw : FnScope ["_law_script", "_law_pen_here", "_law_turn", "_law_names", "_law_keys", "_law_kinds", "_law_handler_here", "_law_words_here", "_law_some", "_law_prints", "_law_other", "_law_again", "_law_rows_here", "_law_key", "_law_message", "_law_end", "_law_fixed", "_law_more", "_law_turned", "_law_name"] ["_law_script"] (defScope sLaw) := ⟨rfl, rfl, rfl, by decide +kernel, rfl, by decide +kernel, by decide +kernel⟩
theorem ok_law {fL Ch fPen fWd fHn fRows fPick fNm fRh fFp fSh fHr fRr fEr fWi fIk : Addr} {dL dPen dWd dHn dRows dPick dNm dRh dFp dSh dHr dRr dEr dWi dIk : FuncData} (F : Fun K "law" "law" sLaw fL dL) (TR : mg "range" = none) (TDi : mg "dict" = none) (TZi : mg "zip" = none)
    (GPen : FnOk P w K mg base CX0 1 fPen dPen ["_law_script"] (spPen K)) (TPen : DefT K mg "_law_pen" fPen) (bPen : Binds K dPen ["_law_script"] [])
    (GWd : FnOk P w K mg base CX0 3 fWd dWd ["_law_pen_here", "_law_many"] spWd) (TWd : DefT K mg "_law_words" fWd) (bWd : Binds K dWd ["_law_pen_here", "_law_many"] [])
    (GHn : FnOk P w K mg base CX0 25 fHn dHn ["_law_pen_here", "_law_names", "_law_keys", "_law_kinds", "_law_sends"] (spHn K)) (THn : DefT K mg "_law_handler" fHn) (bHn : Binds K dHn ["_law_pen_here", "_law_names", "_law_keys", "_law_kinds", "_law_sends"] [])
    (GRows : FnOk P w K mg base CX0 4 fRows dRows ["_law_pen_here", "_law_names", "_law_keys"] spRows) (TRows : DefT K mg "_law_rows" fRows) (bRows : Binds K dRows ["_law_pen_here", "_law_names", "_law_keys"] [])
    (GPick : FnOk P w K mg base CX0 2 fPick dPick ["_law_pen_here", "_law_items"] (spPick K)) (TPick : DefT K mg "_law_pick" fPick) (bPick : Binds K dPick ["_law_pen_here", "_law_items"] [])
    (GNm : FnOk P w K mg base CX0 3 fNm dNm ["_law_pen_here"] spNm) (TNm : DefT K mg "_law_number" fNm) (bNm : Binds K dNm ["_law_pen_here"] [])
    (GRh : FnOk P w K mg base CX0 29 fRh dRh ["handler", "rows", "message"] (spRh K)) (TRh : DefT K mg "run_handler" fRh) (bRh : Binds K dRh ["handler", "rows", "message"] [])
    (GFp : FnOk P w K mg base (L2.CX P w) 28 fFp dFp ["handler"] (spFp K Ch)) (TFp : DefT K mg "footprint" fFp) (bFp : Binds K dFp ["handler"] [])
    (GSh : FnOk P w K mg base CX0 2 fSh dSh ["_law_pen_here", "_law_items"] spSh) (TSh : DefT K mg "_law_shuffled" fSh) (bSh : Binds K dSh ["_law_pen_here", "_law_items"] [])
    (GHr : FnOk P w K mg base CX0 21 fHr dHr ["_law_tree", "_law_words_here"] (spHr K 20)) (THr : DefT K mg "_law_handler_renamed" fHr) (bHr : Binds K dHr ["_law_tree", "_law_words_here"] [])
    (GRr : FnOk P w K mg base CX0 2 fRr dRr ["_law_rows_here", "_law_words_here"] (spRr K)) (TRr : DefT K mg "_law_rows_renamed" fRr) (bRr : Binds K dRr ["_law_rows_here", "_law_words_here"] [])
    (GEr : FnOk P w K mg base CX0 3 fEr dEr ["_law_end", "_law_words_here"] (spEr K)) (TEr : DefT K mg "_law_end_renamed" fEr) (bEr : Binds K dEr ["_law_end", "_law_words_here"] [])
    (GWi : FnOk P w K mg base CX0 4 fWi dWi ["_law_pen_here", "_law_rows_here", "_law_names", "_law_keys", "_law_fixed"] spWi) (TWi : DefT K mg "_law_with_others" fWi) (bWi : Binds K dWi ["_law_pen_here", "_law_rows_here", "_law_names", "_law_keys", "_law_fixed"] [])
    (GIk : FnOk P w K mg base CX0 1 fIk dIk ["_law_rows_here", "_law_end", "_law_key", "_law_prints"] spIk) (TIk : DefT K mg "_law_is_kept" fIk) (bIk : Binds K dIk ["_law_rows_here", "_law_end", "_law_key", "_law_prints"] []) : FnG P w K mg base CX0 41 fL dL ["_law_script"] (spLaw K) := by
  refine okG (n := 40) F scLaw (fun ys G Want Err h => ?_) (fun cd B up st G ys Want Err hg hr told => ?_)
  · obtain ⟨a, ns, rfl, _⟩ := h
    rfl
  · obtain ⟨a, ns, rfl, hS, hlen, kk⟩ := told
    have hu := hu_of hr
    refine ⟨_, (pss_cons (ps_set (i := 1) scLaw.nd rfl (Or.inl rfl) (pe_call GPen (hr.mono (by decide)) rfl TPen.mg TPen.kp bPen .nil pass0 (pa_cons (pv 0) pa_nil)))
      (pss_cons (ps_for PassesOwn.never rfl (pi_range1 (by rfl) TR (pa_cons pe_int pa_nil)) (pg_name (i := 2) scLaw.nd rfl (Or.inl rfl)) (pss_cons (ps_par3 (i := 3) (j := 4) (l := 5) (by rfl) scLaw.nd rfl rfl rfl (by decide) (by decide) (by decide) rfl rfl rfl (pa_cons (pe_call GWd (hr.mono (by decide)) rfl TWd.mg TWd.kp bWd .nil pass0 (pa_cons (pv 1) (pa_cons pe_int pa_nil))) (pa_cons (pe_call GWd (hr.mono (by decide)) rfl TWd.mg TWd.kp bWd .nil pass0 (pa_cons (pv 1) (pa_cons pe_int pa_nil))) (pa_cons (pe_call GWd (hr.mono (by decide)) rfl TWd.mg TWd.kp bWd .nil pass0 (pa_cons (pv 1) (pa_cons pe_int pa_nil))) pa_nil))) (by rfl))
      (pss_cons (ps_par (i := 6) (j := 7) (by rfl) scLaw.nd rfl rfl (by decide) rfl rfl (pa_cons (pe_call GHn (hr.mono (by decide)) rfl THn.mg THn.kp bHn .nil pass0 (pa_cons (pv 1) (pa_cons (pv 3) (pa_cons (pv 4) (pa_cons (pv 5) (pa_cons pe_int pa_nil)))))) (pa_cons (Ab.pe_lstA pa_nil) pa_nil)) (by rfl))
      (pss_cons (ps_for PassesOwn.never rfl (pi_tup (Ab.pe_tupA (pa_cons (pv 3) (pa_cons (pv 4) (pa_cons (pv 5) pa_nil))))) (pg_name (i := 8) scLaw.nd rfl (Or.inl rfl)) (pss_one (ps_expr (pe_bm PySem.F.plainAttrs_list PySem.F.slot_list_append PySem.F.type_list_append mt_append (pv 7) (pa_cons (pe_dz (by rfl) (by rfl) TDi (by rfl) TZi (pa_cons (pv 8) (pa_cons (pe_call GSh (hr.mono (by decide)) rfl TSh.mg TSh.kp bSh .nil pass0 (pa_cons (pv 1) (pa_cons (Ab.pe_lstA (pa_cons pe_str (pa_cons (pe_op op_mulE pe_str pe_int) (pa_cons pe_str pa_nil)))) pa_nil))) pa_nil))) pa_nil)))))
      (pss_cons (ps_par (i := 9) (j := 10) (by rfl) scLaw.nd rfl rfl (by decide) rfl rfl (pa_cons (pe_call GFp (hr.mono (by decide)) rfl TFp.mg TFp.kp bFp .nil passX (pa_cons (pv 6) pa_nil)) (pa_cons (pe_call GHr (hr.mono (by decide)) rfl THr.mg THr.kp bHr .nil pass0 (pa_cons (pv 6) (pa_cons (pv 7) pa_nil))) pa_nil)) (by rfl))
      (pss_one (ps_for PassesOwn.never rfl (pi_range1 (by rfl) TR (pa_cons pe_int pa_nil)) (pg_name (i := 11) scLaw.nd rfl (Or.inl rfl)) (pss_cons (ps_asg (Ab.pe_tupA (pa_cons (pe_call GRows (hr.mono (by decide)) rfl TRows.mg TRows.kp bRows .nil pass0 (pa_cons (pv 1) (pa_cons (pv 3) (pa_cons (pv 4) pa_nil)))) (pa_cons (pe_call GPick (hr.mono (by decide)) rfl TPick.mg TPick.kp bPick .nil pass0 (pa_cons (pv 1) (pa_cons (pv 4) pa_nil))) pa_nil))) (pg_tup (by rfl) (pgs_cons (pg_name (i := 12) scLaw.nd rfl (Or.inl rfl)) (pgs_cons (pg_name (i := 13) scLaw.nd rfl (Or.inr rfl)) pgs_nil))))
      (pss_cons (ps_set (i := 14) scLaw.nd rfl (Or.inl rfl) (Ab.pe_tupA (pa_cons (pe_ix ix_list (pv 5) pe_int (fun _ _ => rfl)) (pa_cons (pv 13) (pa_cons (pe_call GNm (hr.mono (by decide)) rfl TNm.mg TNm.kp bNm .nil pass0 (pa_cons (pv 1) pa_nil)) pa_nil)))))
      (pss_cons (ps_set (i := 15) scLaw.nd rfl (Or.inl rfl) (pe_call GRh (hr.mono (by decide)) rfl TRh.mg TRh.kp bRh .nil pass0 (pa_cons (pv 6) (pa_cons (pv 12) (pa_cons (pv 14) pa_nil)))))
      (pss_cons (ps_if (pt_cmpR (op_neD hr.units) (pv 15) (pe_call GRh (hr.mono (by decide)) rfl TRh.mg TRh.kp bRh .nil pass0 (pa_cons (pv 6) (pa_cons (pv 12) (pa_cons (pv 14) pa_nil)))) (nomark _)) (pss_one (ps_ret pe_bl)) pss_nil)
      (pss_cons (ps_if (PW.pt (pw_and (pt_cmpR op_eq (pe_ix ix_tup (pv 15) pe_int (fun _ _ => rfl)) pe_str (nomark _)) (pw_and1 (pt_not (pt_val (pe_call GIk (hr.mono (by decide)) rfl TIk.mg TIk.kp bIk .nil pass0 (pa_cons (pv 12) (pa_cons (pv 15) (pa_cons (pv 13) (pa_cons (pv 9) pa_nil)))))))))) (pss_one (ps_ret pe_bl)) pss_nil)
      (pss_cons (ps_setLc (i := 16) (own := [("_law_name", 19)]) (g := gName 19) (tt := tYes) (te := Ab.tTupA (tCons (tVar 19) (tCons (tVar 13) tNil))) rfl scLaw.nd rfl rfl (by rfl) (pi_tup (pe_ix ix_tup (pv 9) pe_int (fun _ _ => rfl))) (blkOk_by (N := ["_law_script", "_law_pen_here", "_law_turn", "_law_names", "_law_keys", "_law_kinds", "_law_handler_here", "_law_words_here", "_law_some", "_law_prints", "_law_other", "_law_again", "_law_rows_here", "_law_key", "_law_message", "_law_end", "_law_fixed", "_law_more", "_law_turned", "_law_name"]) (sc := defScope sLaw) (by decide +kernel)) (fun _ _ _ _ _ => by exact (pg_name (i := 19) scLaw.nd rfl (Or.inl rfl))) (fun _ _ _ _ _ => by exact pts_nil) (fun _ _ _ _ _ => by exact (Ab.pe_tupA (pa_cons (pv 19) (pa_cons (pv 13) pa_nil)))))
      (pss_cons (ps_set (i := 17) scLaw.nd rfl (Or.inl rfl) (pe_call GRh (hr.mono (by decide)) rfl TRh.mg TRh.kp bRh .nil pass0 (pa_cons (pv 6) (pa_cons (pe_call GWi (hr.mono (by decide)) rfl TWi.mg TWi.kp bWi .nil pass0 (pa_cons (pv 1) (pa_cons (pv 12) (pa_cons (pv 3) (pa_cons (pv 4) (pa_cons (pv 16) pa_nil)))))) (pa_cons (pv 14) pa_nil)))))
      (pss_cons (ps_if (PW.pt (pw_or (pt_cmpR op_ne (pe_ix ix_tup (pv 17) pe_int (fun _ _ => rfl)) (pe_ix ix_tup (pv 15) pe_int (fun _ _ => rfl)) (nomark _)) (pw_or1 (pt_cmpR (op_neD hr.units) (pe_slice sl_tup (pv 17) (po_some pe_int) po_none) (pe_slice sl_tup (pv 15) (po_some pe_int) po_none) (nomark _))))) (pss_one (ps_ret pe_bl)) pss_nil)
      (pss_cons (ps_set (i := 18) scLaw.nd rfl (Or.inl rfl) (Ab.pe_tupA (pa_cons (pe_dget hu (pe_ix ix_list (pv 7) pe_int (fun _ _ => rfl)) (pe_ix ix_list (pv 5) pe_int (fun _ _ => rfl)) (fun _ _ => rfl)) (pa_cons (pe_dget hu (pe_ix ix_list (pv 7) pe_int (fun _ _ => rfl)) (pv 13) (fun _ _ => rfl)) (pa_cons (pe_ix ix_tup (pv 14) pe_int (fun _ _ => rfl)) pa_nil)))))
      (pss_one (ps_if (pt_cmpR (op_neD hr.units) (pe_call GRh (hr.mono (by decide)) rfl TRh.mg TRh.kp bRh .nil pass0 (pa_cons (pv 10) (pa_cons (pe_call GRr (hr.mono (by decide)) rfl TRr.mg TRr.kp bRr .nil pass0 (pa_cons (pv 12) (pa_cons (pv 7) pa_nil))) (pa_cons (pv 18) pa_nil)))) (pe_call GEr (hr.mono (by decide)) rfl TEr.mg TEr.kp bEr .nil pass0 (pa_cons (pv 15) (pa_cons (pv 7) pa_nil))) (nomark _)) (pss_one (ps_ret pe_bl)) pss_nil))))))))))))))))))
      (pss_one (ps_ret pe_bl)))), ?_⟩
    refine ⟨_, rfl, a, ns, rfl, hS, hlen, fun p c H1 np Pn s1 => ?_⟩
    refine ⟨10, rfl, by decide, by decide, for_range (n := 10) (fun i σ H => σ.length = 20 ∧ σ[1]? = some (some (.ref p)) ∧ PenAt H p c ns (2 ^ 28 * i)) ⟨rfl, rfl, Pn⟩ ?_ ?_⟩
    · intro i σ G hi ⟨L0, v1, P0⟩
      have z1 : (σ.set 2 (some (V.int (0 + (i : Int)))))[1]? = some (some (.ref p)) := by simp [v1]
      refine ⟨_, z1, p, c, ns, _, 3, rfl, P0, hlen, by omega, by omega, by omega, fun la A1 Ga fa lA ndA na Pa xa => ?_⟩
      refine ⟨_, z1, p, c, ns, _, 3, rfl, Pa, hlen, by omega, by omega, by omega, fun lb A2 Gb fb lB ndB nb Pb xb => ?_⟩
      refine ⟨_, z1, p, c, ns, _, 3, rfl, Pb, hlen, by omega, by omega, by omega, fun lc A3 Gc fc lC ndC nc Pc xc => ?_⟩
      have na2 := (na.same Pa xb).same Pb xc
      have nb2 := nb.same Pb xc
      refine ⟨_, _, _, rfl, ?_⟩
      generalize hσ : (((σ.set 2 (some (V.int (0 + (i : Int))))).set 3 (some (V.ref la))).set 4 (some (V.ref lb))).set 5 (some (V.ref lc)) = ρ
      have r0 : ρ.length = 20 := by rw [← hσ]; simp [L0]
      have r1 : ρ[1]? = some (some (V.ref p)) := by rw [← hσ]; simp [v1]
      have r3 : ρ[3]? = some (some (V.ref la)) := by rw [← hσ]; simp [L0]
      have r4 : ρ[4]? = some (some (V.ref lb)) := by rw [← hσ]; simp [L0]
      have r5 : ρ[5]? = some (some (V.ref lc)) := by rw [← hσ]; simp [L0]
      clear hσ
      obtain ⟨y0, y1, y2, y3, y4, y5, y6, y7, y8, y9, y10, y11, y12, y13, y14, y15, y16, y17, y18, y19, rfl⟩ := list20 r0
      obtain rfl : y1 = _ := Option.some.inj r1
      obtain rfl : y3 = _ := Option.some.inj r3
      obtain rfl : y4 = _ := Option.some.inj r4
      obtain rfl : y5 = _ := Option.some.inj r5
      clear r0 r1 r3 r4 r5
      refine ⟨_, rfl, _, rfl, _, rfl, _, rfl, p, c, ns, _, la, lb, lc, 3, ⟨A1, A2, A3⟩, rfl, Pc, hlen, by omega, na2, nb2, nc, fun hv hds Gd nd wd hl5 va h12 Pd xd => ?_⟩
      refine ⟨by decide, fun lw Ge nlw _ sw elw => ⟨_, _, rfl, ?_⟩⟩
      have Pe := Pd.same sw
      have naE := (na2.same Pc xd).same Pd (Same.X sw)
      have nbE := (nb2.same Pc xd).same Pd (Same.X sw)
      have ncE := (nc.same Pc xd).same Pd (Same.X sw)
      have wdE := wd.same (Same.X sw)
      refine ⟨_, rfl, _, rfl, _, rfl, (by show 3 ≤ sizeLine; decide), fun tp Gf ntp sp ep => ⟨tp, rfl, ⟨_, SqT.of ep⟩, for_tup (xs := [V.ref la, V.ref lb, V.ref lc]) (fun i' σ' G' => WdSt p c ns (2 ^ 28 * i + 2 ^ 27) lw tp Gd Gf [A1, A2, A3] [y0, some (.ref p), y2, some (.ref la), some (.ref lb), some (.ref lc), some hv, some (.ref lw), y8, y9, y10, y11, y12, y13, y14, y15, y16, y17, y18, y19] i' σ' G') ?_ ?_ ?_ ?_⟩⟩
      · exact ⟨⟨y8, rfl⟩, (Pe.same sp).mono (by omega), Same.X (sw.trans sp), rfl, [], sp _ _ elw, rfl, fun j d A h => by simp at h⟩
      · exact fun i' σ' G' _ h => SqT.of (h.t.trans ep)
      · intro i' x σ' G' hx h
        obtain ⟨⟨v, rfl⟩, PG, xG, tG, ls, eL, lL, all⟩ := h
        obtain ⟨lx, Ax, rfl, hAx, nAx, ndx, l3x⟩ : ∃ (lx : Addr) (Ax : List Str), x = V.ref lx ∧ [A1, A2, A3][i']? = some Ax ∧ NamesA G' lx Ax ∧ Ax.Nodup ∧ Ax.length = 3 := by
          match i', hx with
          | 0, e => cases e; exact ⟨_, _, rfl, rfl, (na2.same Pc xd).same Pd xG, ndA, lA⟩
          | 1, e => cases e; exact ⟨_, _, rfl, rfl, (nb2.same Pc xd).same Pd xG, ndB, lB⟩
          | 2, e => cases e; exact ⟨_, _, rfl, rfl, (nc.same (Pc) xd).same Pd xG, ndC, lC⟩
          | n + 3, e => simp at e
        have owp : lw ≠ p := PenAt.off Pd nlw
        have hi3 : i' < 3 := (List.getElem?_eq_some_iff.mp hx).1
        refine ⟨_, rfl, .inl ⟨rfl, _, SqL.of eL⟩, _, rfl, _, rfl, "q", 6, rfl, rfl, by decide +kernel, by decide, by decide, (by show 3 ≤ sizeLine; decide), fun l3 G3 n3 _ s3 e3 => ?_⟩
        have P3 := PG.same s3
        refine ⟨p, c, ns, _, l3, ["m", Txt.mul "q" 6, "zq"], rfl, P3, hlen, by omega, e3, by decide, fun r zs G4 nr pm er P4 x4 => ?_⟩
        have pm : zs.Perm ["m", "qqqqqq", "zq"] := pm
        have x34 : SameX p G' G4 := (Same.X s3).trans x4
        have nA4 := nAx.same PG x34
        have lz : zs.length = 3 := pm.length_eq
        refine ⟨lx, r, Ax, zs, rfl, nA4.1, er, ndx, by rw [l3x, lz], by rw [l3x]; decide, fun d nd => ?_⟩
        have eL4 := x34 _ _ owp eL
        have olw : lw ≠ d := ne_of_none eL4 nd
        refine ⟨lw, _, .ref d, rfl, rfl, ((upd_ne olw).trans eL4), szl (by rw [List.length_map, lL]; omega), ⟨_, rfl⟩, ?_, ?_, ?_, ls ++ [d], by rw [upd_same, List.map_append]; rfl, by rw [List.length_append, lL]; rfl, ?_⟩
        · obtain ⟨⟨a1, r2, hp, q1⟩, q3⟩ := P4.mono (b' := 2 ^ 28 * i + 2 ^ 27 + 100 * (i' + 1)) (by simp only [List.length_cons, List.length_nil]; omega)
          have pd : p ≠ d := ne_of_none hp nd
          exact ⟨⟨a1, r2, ((upd_ne owp.symm).trans (upd_ne pd)).trans hp, q1⟩, ((upd_ne (ne_of_none Pd.ce nlw)).trans (upd_ne (ne_of_none q3 nd))).trans q3⟩
        · intro z o hz ho
          have h4 := x34 _ _ hz (xG _ _ hz ho)
          rw [upd_ne (ne_of_none ho nlw), upd_ne (ne_of_none h4 nd)]
          exact h4
        · obtain ⟨_, _, hp, _⟩ := Pe.ex
          have tpp : tp ≠ p := fun e => by rw [e, hp] at ntp; cases ntp
          have h4 := x34 _ _ tpp (tG.trans ep)
          rw [upd_ne (ne_of_none elw ntp).symm, upd_ne (ne_of_none h4 nd), h4, ep]
        · intro j d' A hj hA
          by_cases q : j < ls.length
          · rw [List.getElem?_append_left q] at hj
            obtain ⟨dp, Y, e, pY⟩ := all j d' A hj hA
            have e4 := x34 _ _ dp e
            refine ⟨dp, Y, ?_, pY⟩
            rw [upd_ne (ne_of e4 eL4 (by intro z; cases z)), upd_ne (ne_of_none e4 nd)]
            exact e4
          · have hj2 := (List.getElem?_eq_some_iff.mp hj).1
            rw [List.length_append, List.length_singleton] at hj2
            have ej : j = i' := by omega
            rw [List.getElem?_append_right (by omega), ej, lL, Nat.sub_self] at hj
            cases hj
            rw [ej, hAx] at hA
            cases hA
            obtain ⟨_, _, hp, _⟩ := P4.ex
            exact ⟨(fun e => by rw [e, hp] at nd; cases nd), zs, by rw [upd_ne olw.symm]; exact upd_same, pm⟩
      · intro σ' Gg h
        obtain ⟨⟨v8, rfl⟩, Pg, xg, tg, ls, eL, lL, all⟩ := h
        obtain ⟨d0, d1, d2, rfl⟩ : ∃ d0 d1 d2, ls = [d0, d1, d2] := by
          match ls, lL with
          | [d0, d1, d2], _ => exact ⟨d0, d1, d2, rfl⟩
        obtain ⟨dq0, Y1, ed0, pm1⟩ := all 0 d0 A1 rfl rfl
        obtain ⟨dq1, Y2, ed1, pm2⟩ := all 1 d1 A2 rfl rfl
        obtain ⟨dq2, Y3, ed2, pm3⟩ := all 2 d2 A3 rfl rfl
        clear all
        have wdG := wd.same xg
        have rpG : Rp K Gg hv (.tuple hds) := Rp.same delp_le wdG.1
        obtain ⟨l4, mA⟩ := rd_h va h12
        obtain ⟨_, hr', hde, room⟩ := hand_is (va.ok h12)
        cases hde
        have l64 : (once (readsOf hds)).length < 64 := by
          have : (once (readsOf hds)).length ≤ A1.length := once_few mA
          omega
        refine ⟨_, rfl, hv, .tuple hds, rfl, rpG, wdG.2.1, .inl ⟨hds, hr', rfl, room, l4, l64, fun fp ta tb' tc w1 w2 w3 Gh sh S1 S2 S3 et fa' fb' fc' => ?_⟩⟩
        refine ⟨_, rfl, _, rfl, hv, .tuple hds, lw, d0, d1, d2, A1, Y1, A2, Y2, A3, Y3, rfl, sh _ _ eL, sh _ _ ed0, sh _ _ ed1, sh _ _ ed2, Rp.same sh rpG, wdG.2.2.2.1, okT_hand va h12, fun ov Gi si rpo => ⟨_, _, rfl, ?_⟩⟩
        have shi := sh.trans si
        have PI := (Pg.same shi).mono (b' := 2 ^ 28 * i + 2 ^ 27 + 1000) (by show 2 ^ 28 * i + 2 ^ 27 + 100 * 3 ≤ _; omega)
        have naI := ((na2.same Pc xd).same Pd xg).same Pg (Same.X shi)
        have nbI := ((nb2.same Pc xd).same Pd xg).same Pg (Same.X shi)
        have ncI := ((nc.same Pc xd).same Pd xg).same Pg (Same.X shi)
        have wdI := wdG.same (Same.X shi)
        have eLI := shi _ _ eL
        have edI0 := shi _ _ ed0
        have edI1 := shi _ _ ed1
        have edI2 := shi _ _ ed2
        have fpI := si _ _ et
        have faI : DpT.TupF Gi ta (w1.map V.str) := by
          obtain ⟨o, q1, q2, q3⟩ := fa'
          exact ⟨o, q1, q2, si _ _ q3⟩
        have fbI : DpT.TupF Gi tb' (w2.map V.str) := by
          obtain ⟨o, q1, q2, q3⟩ := fb'
          exact ⟨o, q1, q2, si _ _ q3⟩
        have fcI : DpT.TupF Gi tc (w3.map V.str) := by
          obtain ⟨o, q1, q2, q3⟩ := fc'
          exact ⟨o, q1, q2, si _ _ q3⟩
        refine ⟨4, rfl, by decide, by decide, for_range (n := 4) (fun j τ H => τ.length = 20 ∧ τ[1]? = some (some (.ref p)) ∧ τ[3]? = some (some (.ref la)) ∧ τ[4]? = some (some (.ref lb)) ∧ τ[5]? = some (some (.ref lc)) ∧ τ[6]? = some (some hv) ∧ τ[7]? = some (some (.ref lw)) ∧ τ[9]? = some (some (.ref fp)) ∧ τ[10]? = some (some ov) ∧ PenAt H p c ns (2 ^ 28 * i + 2 ^ 27 + 1000 + 10000 * j) ∧ SameX p Gi H) ⟨rfl, rfl, rfl, rfl, rfl, rfl, rfl, rfl, rfl, PI.mono (by omega), SameX.refl⟩ ?_ ?_⟩
        · intro j τ H0 hj hh
          obtain ⟨t0, t1, t3, t4, t5, t6, t7, t9, t10, P7, x7⟩ := hh
          obtain ⟨y0, y1, y2, y3, y4, y5, y6, y7, y8, y9, y10, y11, y12, y13, y14, y15, y16, y17, y18, y19, rfl⟩ := list20 t0
          obtain rfl : y1 = _ := Option.some.inj t1
          obtain rfl : y3 = _ := Option.some.inj t3
          obtain rfl : y4 = _ := Option.some.inj t4
          obtain rfl : y5 = _ := Option.some.inj t5
          obtain rfl : y6 = _ := Option.some.inj t6
          obtain rfl : y7 = _ := Option.some.inj t7
          obtain rfl : y9 = _ := Option.some.inj t9
          obtain rfl : y10 = _ := Option.some.inj t10
          clear t0 t1 t3 t4 t5 t6 t7 t9 t10
          have na7 := naI.same PI x7
          have nb7 := nbI.same PI x7
          have nc7 := ncI.same PI x7
          refine ⟨_, rfl, _, rfl, _, rfl, p, c, ns, _, la, lb, A1, A2, rfl, P7, hlen, by omega, na7, nb7, fun ra L Ha rowsA rok ci lL Pa7 xa7 => ?_⟩
          have nb8 := nb7.same P7 xa7
          refine ⟨_, rfl, _, rfl, p, c, ns, _, lb, _, rfl, Pa7, hlen, by omega, nb8.1, by rw [List.length_map]; exact nb8.2.1, by rw [List.length_map]; exact Nat.le_trans nb8.2.2.1 (by decide), fun u2 Hb hu2 Pb7 xb7 => ?_⟩
          obtain ⟨key, hkey, rfl⟩ := text_of hu2
          have wkey : isWord (.str key) = true := nb8.2.2.2 key hkey
          refine ⟨(by show 2 ≤ sizeLine; decide), fun tq Hc nq sq eq => ⟨tq, _, rfl, SqT.of eq, rfl, _, _, rfl, _, _, rfl, rfl, ?_⟩⟩
          have Pc7 := Pb7.same sq
          have nc8 := ((nc7.same P7 xa7).same Pa7 xb7).same Pb7 (Same.X sq)
          obtain ⟨kd, kr, hA3⟩ : ∃ kd kr, A3 = kd :: kr := by
            have := nc8.2.1
            cases A3 with
            | nil => simp at this
            | cons kd kr => exact ⟨kd, kr, rfl⟩
          have mkd : kd ∈ A3 := by rw [hA3]; exact List.mem_cons_self
          have wkd : isWord (.str kd) = true := nc8.2.2.2 kd mkd
          refine ⟨_, rfl, lc, _, 0, .str kd, rfl, rfl, SqL.of nc8.1, by rw [hA3]; exact atI_nat (j := 0) rfl, _, rfl, _, rfl, p, c, ns, _, rfl, Pc7, hlen, by omega, fun body Hd bb Pd7 xd7 => ⟨(by show 3 ≤ sizeLine; decide), fun ma He nma sma ema => ?_⟩⟩
          have x89 : SameX p Gi He := ((((x7.trans xa7).trans xb7).trans (Same.X sq)).trans xd7).trans (Same.X sma)
          have xaE : SameX p Ha He := ((xb7.trans (Same.X sq)).trans xd7).trans (Same.X sma)
          have Pe7 := Pd7.same sma
          have rowsE : RowsAt He ra L := by
            obtain ⟨_, _, hp, _⟩ := Pa7.ex
            exact rowsA.sameX hp xaE
          have wdE2 := wdI.same x89
          have rpE : Rp K He hv (.tuple hds) := Rp.same delp_le wdE2.1
          have L9 : L.length ≤ 9 := by rw [lA, lB] at lL; exact lL
          have smE : sm (.tuple hds) = true := wdE2.2.1
          refine ⟨_, rfl, _, rfl, _, rfl, hv, hds, hr', ra, ma, L, kd, key, body, rfl, rpE, smE, room, rowsE.q, rok, by omega, SqT.of ema, wkd, wkey, bb, fun r1 Hf R1 sf => ?_⟩
          refine ⟨_, rfl, _, rfl, _, rfl, _, rfl, hv, hds, hr', ra, ma, L, kd, key, body, rfl, Rp.same sf rpE, smE, room, (rowsE.same sf).q, rok, by omega, SqT.of (sf _ _ ema), wkd, wkey, bb, fun r2 Hg R2 sg => ?_⟩
          have gr := grow_h (ds := hds) wkey bb.1 bb.2 room rok.ok
          generalize hX : runAll (deedE key body 3) hds ⟨L, []⟩ = X at *
          obtain ⟨Dd, dp1, dp2, shD⟩ := RunAt.same2 (K := K) (R1.move sg) R2 gr.ok
          refine ⟨_, _, dp1, dp2, shD, shD, _, rfl, ite2 (fun h => absurd h (ne_not shD)) (fun _ => ?_)⟩
          have R1' := R1.move sg
          have kp := run_kept (body := body) room L (key := key)
          rw [hX] at kp
          have sEg := sf.trans sg
          have xIg : SameX p Gi Hg := x89.trans (Same.X sEg)
          have ndL : (L.map (·.1)).Nodup := List.pairwise_map.mpr (rok.up.imp fun {a b} h e => by rw [e] at h; exact absurd h (by rw [lt2_irr]; simp))
          have tpe : ∀ {G : Hp} {t : Addr} {xs : List V}, SameX p Gi G → DpT.TupF Gi t xs → DpT.TupF G t xs := fun {G t xs} s ⟨o, q1, q2, q3⟩ => ⟨o, q1, q2, s _ _ (by obtain ⟨_, _, hp, _⟩ := PI.ex; exact ne_of q3 hp (by intro z; cases z)) q3⟩
          have fpp : fp ≠ p := by obtain ⟨_, _, hp, _⟩ := PI.ex; exact ne_of fpI hp (by intro z; cases z)
          have gt := gr.t
          have gs := gr.s
          have gt : X.2.t.length + hr' ≤ L.length + 12 := gt
          have gs : X.2.ss.length + hr' ≤ 0 + 12 := gs
          apply after2 (A := Hg)
          · intro k2
            by_cases hx : X.1 = true
            · cases R1' with
              | failed h _ => rw [hx] at h; cases h
              | done zs rr sa ts h so e rws tf ps =>
                refine ⟨_, rfl, r1, _, 0, _, rfl, rfl, SqT.of e, atI_nat (j := 0) rfl, rfl, _, rfl, ite2 (fun _ => ?_) (fun h => absurd (by decide +kernel) h)⟩
                refine ⟨_, rfl, _, rfl, _, rfl, _, rfl, ra, r1, fp, ta, tb', tc, key, L, X, w2, w3, rfl, rowsE.same sEg, ndL, by omega, .done zs rr sa ts h so e rws tf ps, hx, by omega, by omega, xIg _ _ fpp fpI, tpe xIg fbI, tpe xIg fcI, fun z hz => ?_, fun en hen => ?_, fun Hn sn => ?_⟩
                · exact (kp.t z.1 z.2 (hz.imp_right fun m q => m (S2.mem.mpr q))).symm
                · rcases kp.ss en hen with q | q
                  · cases q
                  · exact S3.mem.mpr q
                · exact ⟨_, rfl, k2 _ sn⟩
            · cases R1' with
              | done _ _ _ _ h => exact absurd h hx
              | failed h e =>
                refine ⟨_, rfl, r1, _, 0, _, rfl, rfl, SqT.of e, atI_nat (j := 0) rfl, rfl, _, rfl, ite2 (fun h => absurd h (by decide +kernel)) (fun _ => iteF (k2 _ (.refl _)))⟩
          · intro Hn sn
            have xIn := xIg.trans (Same.X sn)
            have faN := tpe xIn faI
            have w63 : w1.length < 64 := by rw [S1.len]; exact l64
            have PN := (Pe7.same sEg).same sn
            have xEn : Same He Hn := sEg.trans sn
            refine ⟨_, rfl, fp, _, 0, _, rfl, rfl, SqT.of (xIn _ _ fpp fpI), atI_nat (j := 0) rfl, ta, rfl, ⟨_, faN.sq⟩, fun D hD => lc_tup (xs := w1.map V.str) (fun i2 G2 => Same Hn G2 ∧ ∃ fs : List Addr, G2 D = some (.lst (fs.map V.ref)) ∧ fs.length = i2 ∧ Paired (FixT key G2) (w1.take i2) fs) ⟨same_new hD, [], upd_same, rfl, .nil⟩ (fun i2 G2 _ h => sqT_same h.1 faN.sq) (fun i2 y G2 hy h => ?_) (fun G2 h => ?_)⟩
            · obtain ⟨sG, fs, eD, lf, pf⟩ := h
              obtain ⟨n, hn, rfl⟩ : ∃ n, w1[i2]? = some n ∧ V.str n = y := by
                rw [List.getElem?_map] at hy
                obtain ⟨c, a, b⟩ := Option.map_eq_some_iff.mp hy
                exact ⟨c, a, b⟩
              have hn2 := (List.getElem?_eq_some_iff.mp hn).1
              refine ⟨rfl, ?_⟩
              unfold tYes
              simp only [↓reduceIte]
              refine ⟨_, rfl, _, rfl, (by show 2 ≤ sizeLine; decide), fun p2 G3 n2 s2 q2 => ⟨fs.map V.ref, s2 _ _ eD, szl (by rw [List.length_map]; omega), ?_, fs ++ [p2], by rw [upd_same, List.map_append]; rfl, by rw [List.length_append, lf]; rfl, ?_⟩⟩
              · intro z o hz
                rw [upd_ne (ne_of_none hz hD)]
                exact s2 _ _ (sG _ _ hz)
              · rw [take_more hn]
                have eD3 := s2 _ _ eD
                refine fix_same (H := G3) (fun z o hz ⟨xs, eo⟩ => ?_) (pget2 (fix_same (fun z o hz _ => s2 _ _ hz) pf) (.cons q2 .nil))
                rw [upd_ne (ne_of hz eD3 (by rw [eo]; intro z; cases z))]
                exact hz
            · obtain ⟨sG, fs, eD, lf, pf⟩ := h
              rw [List.length_map, List.take_length] at pf
              have sEG := xEn.trans sG
              have xIG := xIn.trans (Same.X sG)
              have PG2 := PN.same sG
              have wW : ∀ n ∈ w1, isWord (.str n) = true := fun n hn => naI.2.2.2 n (mA n (S1.mem.mp hn))
              refine ⟨_, rfl, _, rfl, _, rfl, _, rfl, _, rfl, _, rfl, p, c, ns, _, ra, la, lb, D, A1, A2, L, w1, key, fs, rfl, PG2, hlen, by omega, rowsE.same sEG, rok.ok, ci, ndL, by omega, naI.same PI xIG, nbI.same PI xIG, eD, pf, wW, wkey, fun rm M Hm rowsM okM ciM lM agM PM xM => ?_⟩
              have wdM := wdI.same (xIG.trans xM)
              have map : ma ≠ p := by obtain ⟨_, _, hp, _⟩ := Pe7.ex; exact ne_of ema hp (by intro z; cases z)
              refine ⟨_, rfl, hv, hds, hr', rm, ma, M, kd, key, body, rfl, Rp.same delp_le wdM.1, wdM.2.1, room, rowsM.q, okM, by omega, SqT.of (xM _ _ map (sEG _ _ ema)), wkd, wkey, bb, fun r3 Hq R3 sq3 => ?_⟩
              obtain ⟨ea, es⟩ := run_alike (body := body) room (R := w1) (fun x hx => S1.mem.mpr hx) (t := M) (u := L) agM
              rw [hX] at ea es
              have R1q : RunAt Hq r1 X := by
                obtain ⟨_, _, hp, _⟩ := PG2.ex
                exact ((R1'.move (sn.trans sG)).moveX hp xM).move sq3
              have sh2 := snds_shaped gr.ok.s
              generalize hX3 : runAll (deedE key body 3) hds ⟨M, []⟩ = X3 at *
              apply after2 (A := Hq)
              · intro k3
                by_cases hx : X.1 = true
                · cases R1q with
                  | failed h _ => rw [hx] at h; cases h
                  | done zs rr sa ts h so e rws tf ps =>
                  cases R3 with
                  | failed h _ => rw [ea, hx] at h; cases h
                  | done zs3 rr3 sa3 ts3 h3 so3 e3 rws3 tf3 ps3 =>
                  refine ⟨_, rfl, r3, _, 0, _, rfl, rfl, SqT.of e3, atI_nat (j := 0) rfl, _, rfl, r1, _, 0, _, rfl, rfl, SqT.of e, atI_nat (j := 0) rfl, rfl, _, rfl, ite2 (fun h => absurd h (by simp)) (fun _ => ?_)⟩
                  refine ⟨_, rfl, 2, rfl, r3, _, rfl, SqT.of e3, by rw [show (2 : Int) = ((2 : Nat) : Int) from rfl, HT.sIx_nat]; exact fun h => absurd h.1 (by simp), fun p1 n1 => ?_⟩
                  rw [show cutV [V.str "done", .ref rr3, .ref sa3] (some 2) none = [.ref sa3] from cut1 (i := 2)]
                  refine ⟨_, rfl, 2, rfl, r1, _, rfl, sqT_same (same_new n1) (SqT.of e), by rw [show (2 : Int) = ((2 : Nat) : Int) from rfl, HT.sIx_nat]; exact fun h => absurd h.1 (by simp), fun p2 n2 => ?_⟩
                  rw [show cutV [V.str "done", .ref rr, .ref sa] (some 2) none = [.ref sa] from cut1 (i := 2)]
                  have s12 := (same_new (o := .tup [.ref sa3]) n1).trans (same_new (o := .tup [.ref sa]) n2)
                  have tuS : tu (.tuple [.tuple (X.2.ss.map sndD)]) = true := by
                    show (tuAll (X.2.ss.map sndD) && true) = true
                    rw [tu_snds]
                    rfl
                  refine ⟨.tuple [.tuple (X.2.ss.map sndD)], .tuple [.tuple (X.2.ss.map sndD)], dp_of tuS (Rp.tup (SqT.of ((same_new (o := .tup [.ref sa]) n2) _ _ upd_same)) (.cons (.tup (sqT_same s12 tf3.sq) (RpAll.same s12 (es ▸ rp_snds ps3))) .nil)), dp_of tuS (Rp.tup (SqT.of upd_same) (.cons (.tup (sqT_same s12 tf.sq) (RpAll.same s12 (rp_snds ps))) .nil)), sh2, sh2, _, rfl, ite2 (fun h => absurd h (ne_not sh2)) (fun _ => k3 _ s12)⟩
                · cases R1q with
                  | done _ _ _ _ h => exact absurd h hx
                  | failed h e =>
                  cases R3 with
                  | done _ _ _ _ h3 => rw [ea] at h3; exact absurd h3 hx
                  | failed h3 e3 =>
                  refine ⟨_, rfl, r3, _, 0, _, rfl, rfl, SqT.of e3, atI_nat (j := 0) rfl, _, rfl, r1, _, 0, _, rfl, rfl, SqT.of e, atI_nat (j := 0) rfl, rfl, _, rfl, ite2 (fun h => absurd h (by simp)) (fun _ => ?_)⟩
                  refine ⟨_, rfl, 2, rfl, r3, _, rfl, SqT.of e3, by rw [show (2 : Int) = ((2 : Nat) : Int) from rfl, HT.sIx_nat]; exact fun h => absurd h.1 (by simp), fun p1 n1 => ?_⟩
                  refine ⟨_, rfl, 2, rfl, r1, _, rfl, sqT_same (same_new n1) (SqT.of e), by rw [show (2 : Int) = ((2 : Nat) : Int) from rfl, HT.sIx_nat]; exact fun h => absurd h.1 (by simp), fun p2 n2 => ?_⟩
                  have c0 : cutV [V.str "failed"] (some 2) none = [] := cut1 (i := 2)
                  rw [c0]
                  have s12 := (same_new (o := .tup []) n1).trans (same_new (o := .tup []) n2)
                  exact ⟨.tuple [], .tuple [], .tup (SqT.of ((same_new (o := .tup []) n2) _ _ upd_same)) .nil, .tup (SqT.of upd_same) .nil, by decide +kernel, by decide +kernel, _, rfl, ite2 (fun h => absurd h (by decide +kernel)) (fun _ => k3 _ s12)⟩
              · intro Hz sz
                have xMz : SameX p Gi Hz := ((xIG.trans xM).trans (Same.X sq3)).trans (Same.X sz)
                have PGe := PG2
                have moveG : ∀ {a : Addr} {o : HO}, Gi a = some o → a ≠ p → Hz a = some o := fun h n => xMz _ _ n h
                obtain ⟨_, _, hpI, _⟩ := PI.ex
                have lwp : lw ≠ p := by intro e; rw [e] at eLI; rw [hpI] at eLI; cases eLI
                have eLz := moveG eLI lwp
                have e0z := moveG edI0 dq0
                have e1z := moveG edI1 dq1
                have e2z := moveG edI2 dq2
                have ncz := ncI.same PI xMz
                have emaz : Hz ma = some (.tup [.str kd, .str key, .int body]) := sz _ _ (sq3 _ _ (xM _ _ map (sEG _ _ ema)))
                have lY1 : A1.length ≤ Y1.length := by rw [lA, pm1.length_eq]; decide
                have lY2 : A2.length ≤ Y2.length := by rw [lB, pm2.length_eq]; decide
                have lY3 : A3.length ≤ Y3.length := by rw [lC, pm3.length_eq]; decide
                have nd3 : (["m", "qqqqqq", "zq"] : List Str).Nodup := by decide +kernel
                have nY1 : Y1.Nodup := pm1.nodup_iff.mpr nd3
                have nY2 : Y2.Nodup := pm2.nodup_iff.mpr nd3
                have nY3 : Y3.Nodup := pm3.nodup_iff.mpr nd3
                have w3w : ∀ x ∈ (["m", "qqqqqq", "zq"] : List Str), isWord (.str x) = true := by decide +kernel
                obtain ⟨vk, mk⟩ := byT_in mkd lY3
                obtain ⟨vy, my⟩ := byT_in hkey lY2
                have wfA : ∀ x ∈ A1, isWord (.str (byT A1 Y1 x)) = true := fun x hx => w3w _ (pm1.mem_iff.mp (byT_in hx lY1).2)
                have wfB : ∀ x ∈ A2, isWord (.str (byT A2 Y2 x)) = true := fun x hx => w3w _ (pm2.mem_iff.mp (byT_in hx lY2).2)
                have wfC : ∀ x ∈ A3, isWord (.str (byT A3 Y3 x)) = true := fun x hx => w3w _ (pm3.mem_iff.mp (byT_in hx lY3).2)
                refine ⟨_, rfl, lw, _, 2, _, rfl, rfl, SqL.of eLz, atI_nat (j := 2) rfl, _, rfl, lc, _, 0, .str kd, rfl, rfl, SqL.of ncz.1, by rw [hA3]; exact atI_nat (j := 0) rfl, d2, _, rfl, vk ▸ DGet.k (k := .inr kd) e2z, _, rfl, lw, _, 1, _, rfl, rfl, SqL.of eLz, atI_nat (j := 1) rfl, _, rfl, d1, _, rfl, vy ▸ DGet.k (k := .inr key) e1z, _, rfl, ma, _, 2, _, rfl, rfl, SqT.of emaz, atI_nat (j := 2) rfl, (by show 3 ≤ sizeLine; decide), fun mt Hy nmt smt emt => ?_⟩
                have xMy := xMz.trans (Same.X smt)
                have rowsZ : RowsAt Hy ra L := by
                  obtain ⟨_, _, hp, _⟩ := PG2.ex
                  exact ((((rowsE.same sEG).sameX hp xM).same sq3).same sz).same smt
                have rpoZ : Rp K Hy ov (ren (byT A1 Y1) (byT A2 Y2) (byT A3 Y3) (.tuple hds)) := rp_moveX hpI xMy (tu_ren wdG.2.2.2.1) rpo
                rw [ren_tups va] at rpoZ
                refine ⟨_, rfl, _, rfl, _, rfl, ra, lw, d0, d1, d2, A1, Y1, A2, Y2, L, rfl, rowsZ.q, smt _ _ eLz, smt _ _ e0z, smt _ _ e1z, lY1, lY2, nY1, nY2, ci, ndL, by omega, fun zs4 rr4 Hx srt4 s4 rows4 => ?_⟩
                have oA := byT_one lY1 nY1
                have oB := byT_one lY2 nY2
                have sim := sim_rows oA oB ci srt4
                obtain ⟨room4, e4, S4⟩ := run_ren (body := body) (key := key) va hkey wfA wfB wfC oA oB sim
                rw [hX] at e4 S4
                have ok4 : TbOk (renR (byT A1 Y1) (byT A2 Y2) L) := fun e he => by
                  obtain ⟨y, hy, rfl⟩ := List.mem_map.mp he
                  obtain ⟨h1, h2⟩ := ci y hy
                  obtain ⟨_, _, v0, v1⟩ := rok.ok y hy
                  exact ⟨wfA _ h1, wfB _ h2, v0, v1⟩
                have rok4 := rows_ok ok4 srt4
                have lz4 : zs4.length = L.length := by rw [srt4.perm.length_eq, List.length_map, renR, List.length_map]
                have lr4 := rowsOf_len (renR (byT A1 Y1) (byT A2 Y2) L) zs4
                have w3l : ∀ x ∈ (["m", "qqqqqq", "zq"] : List Str), x.length ≤ 1000 := by decide +kernel
                have smR : sm (.tuple (renA (byT A1 Y1) (byT A2 Y2) (byT A3 Y3) hds)) = true := by
                  rw [← ren_tups va]
                  exact sm_ren (byT_len fun y m => w3l y (pm1.mem_iff.mp m)) (byT_len fun y m => w3l y (pm2.mem_iff.mp m)) (byT_len fun y m => w3l y (pm3.mem_iff.mp m)) smE
                have room5 : roomAll (deedR 3) (renA (byT A1 Y1) (byT A2 Y2) (byT A3 Y3) hds) 12 = some hr' := (room4 12).trans room
                refine ⟨_, rfl, ov, renA (byT A1 Y1) (byT A2 Y2) (byT A3 Y3) hds, hr', rr4, mt, rowsOf (renR (byT A1 Y1) (byT A2 Y2) L) zs4, byT A3 Y3 kd, byT A2 Y2 key, body, rfl, Rp.same s4 rpoZ, smR, room5, rows4.q, rok4, by omega, SqT.of (s4 _ _ emt), wfC _ mkd, wfB _ hkey, bb, fun r5 H5 R5 s5 => ?_⟩
                have gr5 := grow_h (ds := renA (byT A1 Y1) (byT A2 Y2) (byT A3 Y3) hds) (wfB _ hkey) bb.1 bb.2 room5 rok4.ok
                have s35 := (smt.trans s4).trans s5
                have sz5 := sz.trans s35
                obtain ⟨zsX, hzX⟩ : ∃ zs, X.1 = true → Srt (X.2.t.map (·.1)) zs := R1'.zs.elim (fun h => ⟨[], fun t => by rw [h] at t; cases t⟩) (fun ⟨zs, s⟩ => ⟨zs, fun _ => s⟩)
                refine ⟨_, rfl, _, rfl, r1, lw, d0, d1, d2, A1, Y1, A2, Y2, A3, Y3, X, zsX, rfl, R1q.move sz5, hzX, s35 _ _ eLz, s35 _ _ e0z, s35 _ _ e1z, s35 _ _ e2z, lY1, lY2, lY3, nY1, nY2, S4.t.kt, S4.si, by omega, by omega, fun r6 H6 s6 R6 => ?_⟩
                obtain ⟨D6, dp5, dp6, sh6⟩ := RunAt.sameR (K := K) (R5.move s6) R6 gr5.ok e4 S4.ss (fun zs ys h a b => ends_eq oA oB S4.t (hzX (e4 ▸ h)) a b)
                refine ⟨D6, D6, dp5, dp6, sh6, sh6, _, rfl, ite2 (fun h => absurd h (ne_not sh6)) (fun _ => ?_)⟩
                exact ⟨rfl, rfl, rfl, rfl, rfl, rfl, rfl, rfl, rfl, (((((PM.same sq3).same sz).same s35).same s6).mono (by omega)), xMz.trans (Same.X (s35.trans s6))⟩
        · intro τ H0 hh
          obtain ⟨t0, t1, _, _, _, _, _, _, _, P7, _⟩ := hh
          exact ⟨t0, t1, P7.mono (by omega)⟩
    · intro σ G ⟨L0, v1, P0⟩
      exact kk _
end
end Hd

set_option Elab.async false
set_option linter.all false
set_option maxRecDepth 100000
set_option maxHeartbeats 8000000
namespace Hd
open PySem L2 Pen RG Dat KEq TxS
theorem all_mk {l : PySem.W.OpenLaw} {w : World} {K : PySem.W.Frag} {h : Heap} {mg : Str → Option Value} {fa C g0 g1 g2 g3 g4 g5 g6 g7 g8 g9 g10 g11 g12 g13 g14 g15 g16 g17 g18 g19 g20 g21 g22 g23 g24 g25 g26 g27 g28 g29 g30 g31 g32 g33 g34 g35 g36 g37 g38 g39 g40 g41 g42 g43 g44 g45 g46 g47 g48 dt9 dt10 X1 xf1 xN1 : Addr} {god0 gan0 god1 gan1 god2 gan2 god3 gan3 god4 gan4 god5 gan5 god6 gan6 god7 gan7 god8 gan8 god9 gan9 god10 gan10 god11 gan11 god12 gan12 god13 gan13 god14 gan14 god15 gan15 god16 gan16 god17 gan17 god18 gan18 god19 gan19 god20 gan20 god21 gan21 god22 gan22 god23 gan23 god24 gan24 god25 gan25 god26 gan26 god27 gan27 god28 gan28 god29 gan29 god30 gan30 god31 gan31 god32 gan32 god33 gan33 god34 gan34 god35 gan35 god36 gan36 god37 gan37 god38 gan38 god39 gan39 god40 gan40 god41 gan41 god42 gan42 god43 gan43 god44 gan44 god45 gan45 god46 gan46 god47 gan47 god48 gan48 dod9 dod10 yod1 yan1 xe1 : Option Addr} {goc0 gkV0 gdc0 gpm0 gct0 gcd0 goc1 gkV1 gdc1 gpm1 gct1 gcd1 goc2 gkV2 gdc2 gpm2 gct2 gcd2 goc3 gkV3 gdc3 gpm3 gct3 gcd3 goc4 gkV4 gdc4 gpm4 gct4 gcd4 goc5 gkV5 gdc5 gpm5 gct5 gcd5 goc6 gkV6 gdc6 gpm6 gct6 gcd6 goc7 gkV7 gdc7 gpm7 gct7 gcd7 goc8 gkV8 gdc8 gpm8 gct8 gcd8 goc9 gkV9 gdc9 gpm9 gct9 gcd9 goc10 gkV10 gdc10 gpm10 gct10 gcd10 goc11 gkV11 gdc11 gpm11 gct11 gcd11 goc12 gkV12 gdc12 gpm12 gct12 gcd12 goc13 gkV13 gdc13 gpm13 gct13 gcd13 goc14 gkV14 gdc14 gpm14 gct14 gcd14 goc15 gkV15 gdc15 gpm15 gct15 gcd15 goc16 gkV16 gdc16 gpm16 gct16 gcd16 goc17 gkV17 gdc17 gpm17 gct17 gcd17 goc18 gkV18 gdc18 gpm18 gct18 gcd18 goc19 gkV19 gdc19 gpm19 gct19 gcd19 goc20 gkV20 gdc20 gpm20 gct20 gcd20 goc21 gkV21 gdc21 gpm21 gct21 gcd21 goc22 gkV22 gdc22 gpm22 gct22 gcd22 goc23 gkV23 gdc23 gpm23 gct23 gcd23 goc24 gkV24 gdc24 gpm24 gct24 gcd24 goc25 gkV25 gdc25 gpm25 gct25 gcd25 goc26 gkV26 gdc26 gpm26 gct26 gcd26 goc27 gkV27 gdc27 gpm27 gct27 gcd27 goc28 gkV28 gdc28 gpm28 gct28 gcd28 goc29 gkV29 gdc29 gpm29 gct29 gcd29 goc30 gkV30 gdc30 gpm30 gct30 gcd30 goc31 gkV31 gdc31 gpm31 gct31 gcd31 goc32 gkV32 gdc32 gpm32 gct32 gcd32 goc33 gkV33 gdc33 gpm33 gct33 gcd33 goc34 gkV34 gdc34 gpm34 gct34 gcd34 goc35 gkV35 gdc35 gpm35 gct35 gcd35 goc36 gkV36 gdc36 gpm36 gct36 gcd36 goc37 gkV37 gdc37 gpm37 gct37 gcd37 goc38 gkV38 gdc38 gpm38 gct38 gcd38 goc39 gkV39 gdc39 gpm39 gct39 gcd39 goc40 gkV40 gdc40 gpm40 gct40 gcd40 goc41 gkV41 gdc41 gpm41 gct41 gcd41 goc42 gkV42 gdc42 gpm42 gct42 gcd42 goc43 gkV43 gdc43 gpm43 gct43 gcd43 goc44 gkV44 gdc44 gpm44 gct44 gcd44 goc45 gkV45 gdc45 gpm45 gct45 gcd45 goc46 gkV46 gdc46 gpm46 gct46 gcd46 goc47 gkV47 gdc47 gpm47 gct47 gcd47 goc48 gkV48 gdc48 gpm48 gct48 gcd48 doc9 doc10 yoc1 ykV1 ydc1 ypm1 ycd1 yct1 : Value} {gsl0 gsl1 gsl2 gsl3 gsl4 gsl5 gsl6 gsl7 gsl8 gsl9 gsl10 gsl11 gsl12 gsl13 gsl14 gsl15 gsl16 gsl17 gsl18 gsl19 gsl20 gsl21 gsl22 gsl23 gsl24 gsl25 gsl26 gsl27 gsl28 gsl29 gsl30 gsl31 gsl32 gsl33 gsl34 gsl35 gsl36 gsl37 gsl38 gsl39 gsl40 gsl41 gsl42 gsl43 gsl44 gsl45 gsl46 gsl47 gsl48 dsl9 dsl10 ysl1 : Array (Option Value)} {tB1 tB2 tB3 tB4 tB5 dtk9 dtk10 : Tok} {dn9 dn10 : Nat} {xn1 xq1 : Str} {xb1 xu1 : List Value} {xs1 : List Str} {xd1 : Bool} {xc1 : Option Bool} {x01 x11 x21 x31 x51 : Option Value} (X : K.In h) (G : h.Ns mainGlobals mg) (hfa : mg "law" = some (.ref fa))
    (z_isinstance : PySem.W.nsIn K mainGlobals "isinstance" = some none)
    (z_len : PySem.W.nsIn K mainGlobals "len" = some none)
    (z_all : PySem.W.nsIn K mainGlobals "all" = some none)
    (z_int : PySem.W.nsIn K mainGlobals "int" = some none)
    (z_bool : PySem.W.nsIn K mainGlobals "bool" = some none)
    (z_str : PySem.W.nsIn K mainGlobals "str" = some none)
    (z_tuple : PySem.W.nsIn K mainGlobals "tuple" = some none)
    (z_abs : PySem.W.nsIn K mainGlobals "abs" = some none)
    (z_list : PySem.W.nsIn K mainGlobals "list" = some none)
    (z_range : PySem.W.nsIn K mainGlobals "range" = some none)
    (z_repr : PySem.W.nsIn K mainGlobals "repr" = some none)
    (z_zip : PySem.W.nsIn K mainGlobals "zip" = some none)
    (z_min : PySem.W.nsIn K mainGlobals "min" = some none)
    (z_max : PySem.W.nsIn K mainGlobals "max" = some none)
    (z_any : PySem.W.nsIn K mainGlobals "any" = some none)
    (z_sorted : PySem.W.nsIn K mainGlobals "sorted" = some none)
    (z_dict : PySem.W.nsIn K mainGlobals "dict" = some none)
    (z_set : PySem.W.nsIn K mainGlobals "set" = some none)
    (cB : PySem.W.nsIn K mainGlobals "BOUND" = some (some (.int 99 tB1)))
    (cL : PySem.W.nsIn K mainGlobals "LONGEST_WORD" = some (some (.int 6 tB2)))
    (cA : PySem.W.nsIn K mainGlobals "LETTERS" = some (some (.str abc tB3)))
    (cM : PySem.W.nsIn K mainGlobals "MOST_DEEDS" = some (some (.int 12 tB4)))
    (cI : PySem.W.nsIn K mainGlobals "MOST_IFS" = some (some (.int 3 tB5)))
    (aD0 : PySem.W.nsIn K mainGlobals "is_number" = some (some (.ref g0)))
    (lD0 : K.lookup g0 = some ⟨goc0, god0, .func (PySem.W.fnOf "is_number" "is_number" (defArgs sNum) (defBody sNum) (defScope sNum) .none gkV0 gdc0 gpm0 gan0 gcd0 gct0), gsl0⟩)
    (cD0 : PySem.W.codeIn K gcd0 "is_number" = true)
    (kD0 : PySem.W.keepIn K (.ref g0) = true)
    (aD1 : PySem.W.nsIn K mainGlobals "is_value" = some (some (.ref g1)))
    (lD1 : K.lookup g1 = some ⟨goc1, god1, .func (PySem.W.fnOf "is_value" "is_value" (defArgs sVal) (defBody sVal) (defScope sVal) .none gkV1 gdc1 gpm1 gan1 gcd1 gct1), gsl1⟩)
    (cD1 : PySem.W.codeIn K gcd1 "is_value" = true)
    (kD1 : PySem.W.keepIn K (.ref g1) = true)
    (aD2 : PySem.W.nsIn K mainGlobals "is_word" = some (some (.ref g2)))
    (lD2 : K.lookup g2 = some ⟨goc2, god2, .func (PySem.W.fnOf "is_word" "is_word" (defArgs sWord) (defBody sWord) (defScope sWord) .none gkV2 gdc2 gpm2 gan2 gcd2 gct2), gsl2⟩)
    (cD2 : PySem.W.codeIn K gcd2 "is_word" = true)
    (kD2 : PySem.W.keepIn K (.ref g2) = true)
    (aD3 : PySem.W.nsIn K mainGlobals "is_tuple_of" = some (some (.ref g3)))
    (lD3 : K.lookup g3 = some ⟨goc3, god3, .func (PySem.W.fnOf "is_tuple_of" "is_tuple_of" (defArgs sTof) (defBody sTof) (defScope sTof) .none gkV3 gdc3 gpm3 gan3 gcd3 gct3), gsl3⟩)
    (cD3 : PySem.W.codeIn K gcd3 "is_tuple_of" = true)
    (kD3 : PySem.W.keepIn K (.ref g3) = true)
    (aD4 : PySem.W.nsIn K mainGlobals "is_message" = some (some (.ref g4)))
    (lD4 : K.lookup g4 = some ⟨goc4, god4, .func (PySem.W.fnOf "is_message" "is_message" (defArgs sMs) (defBody sMs) (defScope sMs) .none gkV4 gdc4 gpm4 gan4 gcd4 gct4), gsl4⟩)
    (cD4 : PySem.W.codeIn K gcd4 "is_message" = true)
    (kD4 : PySem.W.keepIn K (.ref g4) = true)
    (aD5 : PySem.W.nsIn K mainGlobals "is_row" = some (some (.ref g5)))
    (lD5 : K.lookup g5 = some ⟨goc5, god5, .func (PySem.W.fnOf "is_row" "is_row" (defArgs sRw) (defBody sRw) (defScope sRw) .none gkV5 gdc5 gpm5 gan5 gcd5 gct5), gsl5⟩)
    (cD5 : PySem.W.codeIn K gcd5 "is_row" = true)
    (kD5 : PySem.W.keepIn K (.ref g5) = true)
    (aD6 : PySem.W.nsIn K mainGlobals "is_rows" = some (some (.ref g6)))
    (lD6 : K.lookup g6 = some ⟨goc6, god6, .func (PySem.W.fnOf "is_rows" "is_rows" (defArgs sRs) (defBody sRs) (defScope sRs) .none gkV6 gdc6 gpm6 gan6 gcd6 gct6), gsl6⟩)
    (cD6 : PySem.W.codeIn K gcd6 "is_rows" = true)
    (kD6 : PySem.W.keepIn K (.ref g6) = true)
    (aD7 : PySem.W.nsIn K mainGlobals "combined" = some (some (.ref g7)))
    (lD7 : K.lookup g7 = some ⟨goc7, god7, .func (PySem.W.fnOf "combined" "combined" (defArgs sCb) (defBody sCb) (defScope sCb) .none gkV7 gdc7 gpm7 gan7 gcd7 gct7), gsl7⟩)
    (cD7 : PySem.W.codeIn K gcd7 "combined" = true)
    (kD7 : PySem.W.keepIn K (.ref g7) = true)
    (aD8 : PySem.W.nsIn K mainGlobals "run_of" = some (some (.ref g8)))
    (lD8 : K.lookup g8 = some ⟨goc8, god8, .func (PySem.W.fnOf "run_of" "run_of" (defArgs sRo) (defBody sRo) (defScope sRo) .none gkV8 gdc8 gpm8 gan8 gcd8 gct8), gsl8⟩)
    (cD8 : PySem.W.codeIn K gcd8 "run_of" = true)
    (kD8 : PySem.W.keepIn K (.ref g8) = true)
    (aD9 : PySem.W.nsIn K mainGlobals "is_expression" = some (some (.ref g9)))
    (lD9 : K.lookup g9 = some ⟨goc9, god9, .func (PySem.W.fnOf "is_expression" "is_expression" (defArgs sExp) (defBody sExp) (defScope sExp) (.ref dt9) gkV9 gdc9 gpm9 gan9 gcd9 gct9), gsl9⟩)
    (cD9 : PySem.W.codeIn K gcd9 "is_expression" = true)
    (kD9 : PySem.W.keepIn K (.ref g9) = true)
    (aD10 : PySem.W.nsIn K mainGlobals "is_condition" = some (some (.ref g10)))
    (lD10 : K.lookup g10 = some ⟨goc10, god10, .func (PySem.W.fnOf "is_condition" "is_condition" (defArgs sCon) (defBody sCon) (defScope sCon) (.ref dt10) gkV10 gdc10 gpm10 gan10 gcd10 gct10), gsl10⟩)
    (cD10 : PySem.W.codeIn K gcd10 "is_condition" = true)
    (kD10 : PySem.W.keepIn K (.ref g10) = true)
    (aD11 : PySem.W.nsIn K mainGlobals "row_names" = some (some (.ref g11)))
    (lD11 : K.lookup g11 = some ⟨goc11, god11, .func (PySem.W.fnOf "row_names" "row_names" (defArgs sRn) (defBody sRn) (defScope sRn) .none gkV11 gdc11 gpm11 gan11 gcd11 gct11), gsl11⟩)
    (cD11 : PySem.W.codeIn K gcd11 "row_names" = true)
    (kD11 : PySem.W.keepIn K (.ref g11) = true)
    (aD12 : PySem.W.nsIn K mainGlobals "is_handler" = some (some (.ref g12)))
    (lD12 : K.lookup g12 = some ⟨goc12, god12, .func (PySem.W.fnOf "is_handler" "is_handler" (defArgs sHand) (defBody sHand) (defScope sHand) .none gkV12 gdc12 gpm12 gan12 gcd12 gct12), gsl12⟩)
    (cD12 : PySem.W.codeIn K gcd12 "is_handler" = true)
    (kD12 : PySem.W.keepIn K (.ref g12) = true)
    (aD13 : PySem.W.nsIn K mainGlobals "room_after" = some (some (.ref g13)))
    (lD13 : K.lookup g13 = some ⟨goc13, god13, .func (PySem.W.fnOf "room_after" "room_after" (defArgs sRoom) (defBody sRoom) (defScope sRoom) .none gkV13 gdc13 gpm13 gan13 gcd13 gct13), gsl13⟩)
    (cD13 : PySem.W.codeIn K gcd13 "room_after" = true)
    (kD13 : PySem.W.keepIn K (.ref g13) = true)
    (aD14 : PySem.W.nsIn K mainGlobals "room_after_deed" = some (some (.ref g14)))
    (lD14 : K.lookup g14 = some ⟨goc14, god14, .func (PySem.W.fnOf "room_after_deed" "room_after_deed" (defArgs sDeed) (defBody sDeed) (defScope sDeed) .none gkV14 gdc14 gpm14 gan14 gcd14 gct14), gsl14⟩)
    (cD14 : PySem.W.codeIn K gcd14 "room_after_deed" = true)
    (kD14 : PySem.W.keepIn K (.ref g14) = true)
    (aD15 : PySem.W.nsIn K mainGlobals "is_single_deed" = some (some (.ref g15)))
    (lD15 : K.lookup g15 = some ⟨goc15, god15, .func (PySem.W.fnOf "is_single_deed" "is_single_deed" (defArgs sOne) (defBody sOne) (defScope sOne) .none gkV15 gdc15 gpm15 gan15 gcd15 gct15), gsl15⟩)
    (cD15 : PySem.W.codeIn K gcd15 "is_single_deed" = true)
    (kD15 : PySem.W.keepIn K (.ref g15) = true)
    (aD16 : PySem.W.nsIn K mainGlobals "is_key" = some (some (.ref g16)))
    (lD16 : K.lookup g16 = some ⟨goc16, god16, .func (PySem.W.fnOf "is_key" "is_key" (defArgs sKey) (defBody sKey) (defScope sKey) .none gkV16 gdc16 gpm16 gan16 gcd16 gct16), gsl16⟩)
    (cD16 : PySem.W.codeIn K gcd16 "is_key" = true)
    (kD16 : PySem.W.keepIn K (.ref g16) = true)
    (aD17 : PySem.W.nsIn K mainGlobals "footprint" = some (some (.ref g17)))
    (lD17 : K.lookup g17 = some ⟨goc17, god17, .func (PySem.W.fnOf "footprint" "footprint" (defArgs sFp) (defBody sFp) (defScope sFp) .none gkV17 gdc17 gpm17 gan17 gcd17 gct17), gsl17⟩)
    (cD17 : PySem.W.codeIn K gcd17 "footprint" = true)
    (kD17 : PySem.W.keepIn K (.ref g17) = true)
    (aD18 : PySem.W.nsIn K mainGlobals "all_deeds" = some (some (.ref g18)))
    (lD18 : K.lookup g18 = some ⟨goc18, god18, .func (PySem.W.fnOf "all_deeds" "all_deeds" (defArgs sAd) (defBody sAd) (defScope sAd) .none gkV18 gdc18 gpm18 gan18 gcd18 gct18), gsl18⟩)
    (cD18 : PySem.W.codeIn K gcd18 "all_deeds" = true)
    (kD18 : PySem.W.keepIn K (.ref g18) = true)
    (aD19 : PySem.W.nsIn K mainGlobals "trees_of" = some (some (.ref g19)))
    (lD19 : K.lookup g19 = some ⟨goc19, god19, .func (PySem.W.fnOf "trees_of" "trees_of" (defArgs sTo) (defBody sTo) (defScope sTo) .none gkV19 gdc19 gpm19 gan19 gcd19 gct19), gsl19⟩)
    (cD19 : PySem.W.codeIn K gcd19 "trees_of" = true)
    (kD19 : PySem.W.keepIn K (.ref g19) = true)
    (aD20 : PySem.W.nsIn K mainGlobals "run_handler" = some (some (.ref g20)))
    (lD20 : K.lookup g20 = some ⟨goc20, god20, .func (PySem.W.fnOf "run_handler" "run_handler" (defArgs sRh) (defBody sRh) (defScope sRh) .none gkV20 gdc20 gpm20 gan20 gcd20 gct20), gsl20⟩)
    (cD20 : PySem.W.codeIn K gcd20 "run_handler" = true)
    (kD20 : PySem.W.keepIn K (.ref g20) = true)
    (aD21 : PySem.W.nsIn K mainGlobals "_law_pen" = some (some (.ref g21)))
    (lD21 : K.lookup g21 = some ⟨goc21, god21, .func (PySem.W.fnOf "_law_pen" "_law_pen" (defArgs sPen) (defBody sPen) (defScope sPen) .none gkV21 gdc21 gpm21 gan21 gcd21 gct21), gsl21⟩)
    (cD21 : PySem.W.codeIn K gcd21 "_law_pen" = true)
    (kD21 : PySem.W.keepIn K (.ref g21) = true)
    (aD22 : PySem.W.nsIn K mainGlobals "_law_draw" = some (some (.ref g22)))
    (lD22 : K.lookup g22 = some ⟨goc22, god22, .func (PySem.W.fnOf "_law_draw" "_law_draw" (defArgs sDraw) (defBody sDraw) (defScope sDraw) .none gkV22 gdc22 gpm22 gan22 gcd22 gct22), gsl22⟩)
    (cD22 : PySem.W.codeIn K gcd22 "_law_draw" = true)
    (kD22 : PySem.W.keepIn K (.ref g22) = true)
    (aD23 : PySem.W.nsIn K mainGlobals "_law_pick" = some (some (.ref g23)))
    (lD23 : K.lookup g23 = some ⟨goc23, god23, .func (PySem.W.fnOf "_law_pick" "_law_pick" (defArgs sPick) (defBody sPick) (defScope sPick) .none gkV23 gdc23 gpm23 gan23 gcd23 gct23), gsl23⟩)
    (cD23 : PySem.W.codeIn K gcd23 "_law_pick" = true)
    (kD23 : PySem.W.keepIn K (.ref g23) = true)
    (aD24 : PySem.W.nsIn K mainGlobals "_law_shuffled" = some (some (.ref g24)))
    (lD24 : K.lookup g24 = some ⟨goc24, god24, .func (PySem.W.fnOf "_law_shuffled" "_law_shuffled" (defArgs sSh) (defBody sSh) (defScope sSh) .none gkV24 gdc24 gpm24 gan24 gcd24 gct24), gsl24⟩)
    (cD24 : PySem.W.codeIn K gcd24 "_law_shuffled" = true)
    (kD24 : PySem.W.keepIn K (.ref g24) = true)
    (aD25 : PySem.W.nsIn K mainGlobals "_law_words" = some (some (.ref g25)))
    (lD25 : K.lookup g25 = some ⟨goc25, god25, .func (PySem.W.fnOf "_law_words" "_law_words" (defArgs sWd) (defBody sWd) (defScope sWd) .none gkV25 gdc25 gpm25 gan25 gcd25 gct25), gsl25⟩)
    (cD25 : PySem.W.codeIn K gcd25 "_law_words" = true)
    (kD25 : PySem.W.keepIn K (.ref g25) = true)
    (aD26 : PySem.W.nsIn K mainGlobals "_law_number" = some (some (.ref g26)))
    (lD26 : K.lookup g26 = some ⟨goc26, god26, .func (PySem.W.fnOf "_law_number" "_law_number" (defArgs sNm) (defBody sNm) (defScope sNm) .none gkV26 gdc26 gpm26 gan26 gcd26 gct26), gsl26⟩)
    (cD26 : PySem.W.codeIn K gcd26 "_law_number" = true)
    (kD26 : PySem.W.keepIn K (.ref g26) = true)
    (aD27 : PySem.W.nsIn K mainGlobals "_law_leaf" = some (some (.ref g27)))
    (lD27 : K.lookup g27 = some ⟨goc27, god27, .func (PySem.W.fnOf "_law_leaf" "_law_leaf" (defArgs sLeaf) (defBody sLeaf) (defScope sLeaf) .none gkV27 gdc27 gpm27 gan27 gcd27 gct27), gsl27⟩)
    (cD27 : PySem.W.codeIn K gcd27 "_law_leaf" = true)
    (kD27 : PySem.W.keepIn K (.ref g27) = true)
    (aD28 : PySem.W.nsIn K mainGlobals "_law_e" = some (some (.ref g28)))
    (lD28 : K.lookup g28 = some ⟨goc28, god28, .func (PySem.W.fnOf "_law_e" "_law_e" (defArgs sE) (defBody sE) (defScope sE) .none gkV28 gdc28 gpm28 gan28 gcd28 gct28), gsl28⟩)
    (cD28 : PySem.W.codeIn K gcd28 "_law_e" = true)
    (kD28 : PySem.W.keepIn K (.ref g28) = true)
    (aD29 : PySem.W.nsIn K mainGlobals "_law_c" = some (some (.ref g29)))
    (lD29 : K.lookup g29 = some ⟨goc29, god29, .func (PySem.W.fnOf "_law_c" "_law_c" (defArgs sC) (defBody sC) (defScope sC) .none gkV29 gdc29 gpm29 gan29 gcd29 gct29), gsl29⟩)
    (cD29 : PySem.W.codeIn K gcd29 "_law_c" = true)
    (kD29 : PySem.W.keepIn K (.ref g29) = true)
    (aD30 : PySem.W.nsIn K mainGlobals "_law_deed" = some (some (.ref g30)))
    (lD30 : K.lookup g30 = some ⟨goc30, god30, .func (PySem.W.fnOf "_law_deed" "_law_deed" (defArgs sDd) (defBody sDd) (defScope sDd) .none gkV30 gdc30 gpm30 gan30 gcd30 gct30), gsl30⟩)
    (cD30 : PySem.W.codeIn K gcd30 "_law_deed" = true)
    (kD30 : PySem.W.keepIn K (.ref g30) = true)
    (aD31 : PySem.W.nsIn K mainGlobals "_law_deeds" = some (some (.ref g31)))
    (lD31 : K.lookup g31 = some ⟨goc31, god31, .func (PySem.W.fnOf "_law_deeds" "_law_deeds" (defArgs sDs) (defBody sDs) (defScope sDs) .none gkV31 gdc31 gpm31 gan31 gcd31 gct31), gsl31⟩)
    (cD31 : PySem.W.codeIn K gcd31 "_law_deeds" = true)
    (kD31 : PySem.W.keepIn K (.ref g31) = true)
    (aD32 : PySem.W.nsIn K mainGlobals "_law_handler" = some (some (.ref g32)))
    (lD32 : K.lookup g32 = some ⟨goc32, god32, .func (PySem.W.fnOf "_law_handler" "_law_handler" (defArgs sHn) (defBody sHn) (defScope sHn) .none gkV32 gdc32 gpm32 gan32 gcd32 gct32), gsl32⟩)
    (cD32 : PySem.W.codeIn K gcd32 "_law_handler" = true)
    (kD32 : PySem.W.keepIn K (.ref g32) = true)
    (aD33 : PySem.W.nsIn K mainGlobals "_law_rows" = some (some (.ref g33)))
    (lD33 : K.lookup g33 = some ⟨goc33, god33, .func (PySem.W.fnOf "_law_rows" "_law_rows" (defArgs sRows) (defBody sRows) (defScope sRows) .none gkV33 gdc33 gpm33 gan33 gcd33 gct33), gsl33⟩)
    (cD33 : PySem.W.codeIn K gcd33 "_law_rows" = true)
    (kD33 : PySem.W.keepIn K (.ref g33) = true)
    (aD34 : PySem.W.nsIn K mainGlobals "_law_row_tuple" = some (some (.ref g34)))
    (lD34 : K.lookup g34 = some ⟨goc34, god34, .func (PySem.W.fnOf "_law_row_tuple" "_law_row_tuple" (defArgs sRT) (defBody sRT) (defScope sRT) .none gkV34 gdc34 gpm34 gan34 gcd34 gct34), gsl34⟩)
    (cD34 : PySem.W.codeIn K gcd34 "_law_row_tuple" = true)
    (kD34 : PySem.W.keepIn K (.ref g34) = true)
    (aD35 : PySem.W.nsIn K mainGlobals "_law_handler_renamed" = some (some (.ref g35)))
    (lD35 : K.lookup g35 = some ⟨goc35, god35, .func (PySem.W.fnOf "_law_handler_renamed" "_law_handler_renamed" (defArgs sHr) (defBody sHr) (defScope sHr) .none gkV35 gdc35 gpm35 gan35 gcd35 gct35), gsl35⟩)
    (cD35 : PySem.W.codeIn K gcd35 "_law_handler_renamed" = true)
    (kD35 : PySem.W.keepIn K (.ref g35) = true)
    (aD36 : PySem.W.nsIn K mainGlobals "_law_rows_renamed" = some (some (.ref g36)))
    (lD36 : K.lookup g36 = some ⟨goc36, god36, .func (PySem.W.fnOf "_law_rows_renamed" "_law_rows_renamed" (defArgs sRr) (defBody sRr) (defScope sRr) .none gkV36 gdc36 gpm36 gan36 gcd36 gct36), gsl36⟩)
    (cD36 : PySem.W.codeIn K gcd36 "_law_rows_renamed" = true)
    (kD36 : PySem.W.keepIn K (.ref g36) = true)
    (aD37 : PySem.W.nsIn K mainGlobals "_law_end_renamed" = some (some (.ref g37)))
    (lD37 : K.lookup g37 = some ⟨goc37, god37, .func (PySem.W.fnOf "_law_end_renamed" "_law_end_renamed" (defArgs sEr) (defBody sEr) (defScope sEr) .none gkV37 gdc37 gpm37 gan37 gcd37 gct37), gsl37⟩)
    (cD37 : PySem.W.codeIn K gcd37 "_law_end_renamed" = true)
    (kD37 : PySem.W.keepIn K (.ref g37) = true)
    (aD38 : PySem.W.nsIn K mainGlobals "_law_with_others" = some (some (.ref g38)))
    (lD38 : K.lookup g38 = some ⟨goc38, god38, .func (PySem.W.fnOf "_law_with_others" "_law_with_others" (defArgs sWi) (defBody sWi) (defScope sWi) .none gkV38 gdc38 gpm38 gan38 gcd38 gct38), gsl38⟩)
    (cD38 : PySem.W.codeIn K gcd38 "_law_with_others" = true)
    (kD38 : PySem.W.keepIn K (.ref g38) = true)
    (aD39 : PySem.W.nsIn K mainGlobals "_law_is_kept" = some (some (.ref g39)))
    (lD39 : K.lookup g39 = some ⟨goc39, god39, .func (PySem.W.fnOf "_law_is_kept" "_law_is_kept" (defArgs sIk) (defBody sIk) (defScope sIk) .none gkV39 gdc39 gpm39 gan39 gcd39 gct39), gsl39⟩)
    (cD39 : PySem.W.codeIn K gcd39 "_law_is_kept" = true)
    (kD39 : PySem.W.keepIn K (.ref g39) = true)
    (aD40 : PySem.W.nsIn K mainGlobals "law" = some (some (.ref g40)))
    (lD40 : K.lookup g40 = some ⟨goc40, god40, .func (PySem.W.fnOf "law" "law" (defArgs sLaw) (defBody sLaw) (defScope sLaw) .none gkV40 gdc40 gpm40 gan40 gcd40 gct40), gsl40⟩)
    (cD40 : PySem.W.codeIn K gcd40 "law" = true)
    (kD40 : PySem.W.keepIn K (.ref g40) = true)
    (td9 : K.lookup dt9 = some ⟨doc9, dod9, .seq #[.int 6 dtk9] dn9, dsl9⟩)
    (td10 : K.lookup dt10 = some ⟨doc10, dod10, .seq #[.int 6 dtk10] dn10, dsl10⟩)
    (aR : PySem.W.nsIn K mainGlobals "Run" = some (some (.ref C)))
    (aD41 : PySem.W.findIn K (.ref C) "__init__" = some (some (.ref g41)))
    (iD41 : PySem.W.isFn K (.ref g41) = true)
    (lD41 : K.lookup g41 = some ⟨goc41, god41, .func (PySem.W.fnOf "__init__" "Run.__init__" (defArgs sIn) (defBody sIn) (defScope sIn) .none gkV41 gdc41 gpm41 gan41 gcd41 gct41), gsl41⟩)
    (cD41 : PySem.W.codeIn K gcd41 "Run.__init__" = true)
    (kD41 : PySem.W.keepIn K (.ref g41) = true)
    (aD42 : PySem.W.findIn K (.ref C) "rows" = some (some (.ref g42)))
    (iD42 : PySem.W.isFn K (.ref g42) = true)
    (lD42 : K.lookup g42 = some ⟨goc42, god42, .func (PySem.W.fnOf "rows" "Run.rows" (defArgs sRws) (defBody sRws) (defScope sRws) .none gkV42 gdc42 gpm42 gan42 gcd42 gct42), gsl42⟩)
    (cD42 : PySem.W.codeIn K gcd42 "Run.rows" = true)
    (kD42 : PySem.W.keepIn K (.ref g42) = true)
    (aD43 : PySem.W.findIn K (.ref C) "told" = some (some (.ref g43)))
    (iD43 : PySem.W.isFn K (.ref g43) = true)
    (lD43 : K.lookup g43 = some ⟨goc43, god43, .func (PySem.W.fnOf "told" "Run.told" (defArgs sTd) (defBody sTd) (defScope sTd) .none gkV43 gdc43 gpm43 gan43 gcd43 gct43), gsl43⟩)
    (cD43 : PySem.W.codeIn K gcd43 "Run.told" = true)
    (kD43 : PySem.W.keepIn K (.ref g43) = true)
    (aD44 : PySem.W.findIn K (.ref C) "read" = some (some (.ref g44)))
    (iD44 : PySem.W.isFn K (.ref g44) = true)
    (lD44 : K.lookup g44 = some ⟨goc44, god44, .func (PySem.W.fnOf "read" "Run.read" (defArgs sRe) (defBody sRe) (defScope sRe) .none gkV44 gdc44 gpm44 gan44 gcd44 gct44), gsl44⟩)
    (cD44 : PySem.W.codeIn K gcd44 "Run.read" = true)
    (kD44 : PySem.W.keepIn K (.ref g44) = true)
    (aD45 : PySem.W.findIn K (.ref C) "worth" = some (some (.ref g45)))
    (iD45 : PySem.W.isFn K (.ref g45) = true)
    (lD45 : K.lookup g45 = some ⟨goc45, god45, .func (PySem.W.fnOf "worth" "Run.worth" (defArgs sWo) (defBody sWo) (defScope sWo) .none gkV45 gdc45 gpm45 gan45 gcd45 gct45), gsl45⟩)
    (cD45 : PySem.W.codeIn K gcd45 "Run.worth" = true)
    (kD45 : PySem.W.keepIn K (.ref g45) = true)
    (aD46 : PySem.W.findIn K (.ref C) "holds" = some (some (.ref g46)))
    (iD46 : PySem.W.isFn K (.ref g46) = true)
    (lD46 : K.lookup g46 = some ⟨goc46, god46, .func (PySem.W.fnOf "holds" "Run.holds" (defArgs sHo) (defBody sHo) (defScope sHo) .none gkV46 gdc46 gpm46 gan46 gcd46 gct46), gsl46⟩)
    (cD46 : PySem.W.codeIn K gcd46 "Run.holds" = true)
    (kD46 : PySem.W.keepIn K (.ref g46) = true)
    (aD47 : PySem.W.findIn K (.ref C) "do_all" = some (some (.ref g47)))
    (iD47 : PySem.W.isFn K (.ref g47) = true)
    (lD47 : K.lookup g47 = some ⟨goc47, god47, .func (PySem.W.fnOf "do_all" "Run.do_all" (defArgs sDa) (defBody sDa) (defScope sDa) .none gkV47 gdc47 gpm47 gan47 gcd47 gct47), gsl47⟩)
    (cD47 : PySem.W.codeIn K gcd47 "Run.do_all" = true)
    (kD47 : PySem.W.keepIn K (.ref g47) = true)
    (aD48 : PySem.W.findIn K (.ref C) "do_one" = some (some (.ref g48)))
    (iD48 : PySem.W.isFn K (.ref g48) = true)
    (lD48 : K.lookup g48 = some ⟨goc48, god48, .func (PySem.W.fnOf "do_one" "Run.do_one" (defArgs sDo) (defBody sDo) (defScope sDo) .none gkV48 gdc48 gpm48 gan48 gcd48 gct48), gsl48⟩)
    (cD48 : PySem.W.codeIn K gcd48 "Run.do_one" = true)
    (kD48 : PySem.W.keepIn K (.ref g48) = true)
    (pg : PySem.W.plainGet K C Str.empty = true)
    (hd : PySem.W.hasDictIn K C = true)
    (po : PySem.W.plainOver K C = true)
    (sa : PySem.W.findIn K (.ref C) "__setattr__" = some (some (.builtin "object.__setattr__")))
    (mk : PySem.W.makesIn K C = true)
    (kc : PySem.W.keepIn K (.ref C) = true)
    (n_key : PySem.W.findIn K (.ref C) "key" = some none)
    (n_body : PySem.W.findIn K (.ref C) "body" = some none)
    (n_table : PySem.W.findIn K (.ref C) "table" = some none)
    (n_sends : PySem.W.findIn K (.ref C) "sends" = some none)
    (n_failed : PySem.W.findIn K (.ref C) "failed" = some none)
    (n_reads : PySem.W.findIn K (.ref C) "reads" = some none)
    (n_writes : PySem.W.findIn K (.ref C) "writes" = some none)
    (xa1 : PySem.W.nsIn K mainGlobals "InvalidHandler" = some (some (.ref X1)))
    (xl1 : K.lookup X1 = some (excClassObj xn1 xq1 X1 xN1 xb1 vMro true xs1 xu1 xd1 xc1 xe1 x01 x11 x21 x31 x51 "ValueError.__new__"))
    (xs_1 : PySem.W.findIn K (.ref X1) "__setattr__" = some (some (.builtin "object.__setattr__")))
    (xx_1 : PySem.W.subIn K (.ref X1) (.type "BaseException") = some true)
    (xt_1 : PySem.W.typeIn K (.ref X1) = some (.type "type"))
    (xk_1 : PySem.W.keepIn K (.ref X1) = true)
    (xi_1 : PySem.W.findIn K (.ref X1) "__init__" = some (some (.ref xf1)))
    (xy_1 : PySem.W.typeIn K (.ref xf1) = some (.type "function"))
    (xL1 : K.lookup xf1 = some ⟨yoc1, yod1, .func (PySem.W.fnOf "__init__" "InvalidHandler.__init__" (defArgs sI1) (defBody sI1) (defScope sI1) .none ykV1 ydc1 ypm1 yan1 ycd1 yct1), ysl1⟩)
    (xC1 : PySem.W.codeIn K ycd1 "InvalidHandler.__init__" = true)
    (xK1 : PySem.W.keepIn K (.ref xf1) = true)
    (xv1 : PySem.W.findIn K (.ref X1) "value" = some none) :
    ∃ fd : FuncData, (∀ (s : Shared) (v : Value), BindsTo s fd ⟨[v], []⟩ [("_law_script", v)]) ∧ ∀ base : Heap, K.In base → base.Ns mainGlobals mg → FnG l.prog w K mg base CX0 41 fa fd ["_law_script"] (spLaw K) := by
  have e := hfa.symm.trans (PySem.W.mg_of X G aD40)
  cases e
  have F0 := fun_mk (st := sNum) lD0 cD0 kD0
  have b0 := F0.binds (ps := ["value"]) fun _ _ _ _ _ _ us hl => match us, hl with | [_], _ => rfl
  have T0 : DefT K mg "is_number" g0 := ⟨PySem.W.mg_of X G aD0, kD0⟩
  have F1 := fun_mk (st := sVal) lD1 cD1 kD1
  have b1 := F1.binds (ps := ["value"]) fun _ _ _ _ _ _ us hl => match us, hl with | [_], _ => rfl
  have T1 : DefT K mg "is_value" g1 := ⟨PySem.W.mg_of X G aD1, kD1⟩
  have F2 := fun_mk (st := sWord) lD2 cD2 kD2
  have b2 := F2.binds (ps := ["value"]) fun _ _ _ _ _ _ us hl => match us, hl with | [_], _ => rfl
  have T2 : DefT K mg "is_word" g2 := ⟨PySem.W.mg_of X G aD2, kD2⟩
  have F3 := fun_mk (st := sTof) lD3 cD3 kD3
  have b3 := F3.binds (ps := ["value", "length"]) fun _ _ _ _ _ _ us hl => match us, hl with | [_, _], _ => rfl
  have T3 : DefT K mg "is_tuple_of" g3 := ⟨PySem.W.mg_of X G aD3, kD3⟩
  have F4 := fun_mk (st := sMs) lD4 cD4 kD4
  have b4 := F4.binds (ps := ["value"]) fun _ _ _ _ _ _ us hl => match us, hl with | [_], _ => rfl
  have T4 : DefT K mg "is_message" g4 := ⟨PySem.W.mg_of X G aD4, kD4⟩
  have F5 := fun_mk (st := sRw) lD5 cD5 kD5
  have b5 := F5.binds (ps := ["value"]) fun _ _ _ _ _ _ us hl => match us, hl with | [_], _ => rfl
  have T5 : DefT K mg "is_row" g5 := ⟨PySem.W.mg_of X G aD5, kD5⟩
  have F6 := fun_mk (st := sRs) lD6 cD6 kD6
  have b6 := F6.binds (ps := ["value"]) fun _ _ _ _ _ _ us hl => match us, hl with | [_], _ => rfl
  have T6 : DefT K mg "is_rows" g6 := ⟨PySem.W.mg_of X G aD6, kD6⟩
  have F7 := fun_mk (st := sCb) lD7 cD7 kD7
  have b7 := F7.binds (ps := ["sign", "left", "right"]) fun _ _ _ _ _ _ us hl => match us, hl with | [_, _, _], _ => rfl
  have T7 : DefT K mg "combined" g7 := ⟨PySem.W.mg_of X G aD7, kD7⟩
  have F8 := fun_mk (st := sRo) lD8 cD8 kD8
  have b8 := F8.binds (ps := ["handler", "rows", "message"]) fun _ _ _ _ _ _ us hl => match us, hl with | [_, _, _], _ => rfl
  have T8 : DefT K mg "run_of" g8 := ⟨PySem.W.mg_of X G aD8, kD8⟩
  have F9 : FunD K "is_expression" "is_expression" (defArgs sExp) (defBody sExp) (defScope sExp) [V.int 6] [] g9 _ := ⟨⟨_, _, _, _, _, _, _, _, _, _, rfl, lD9, cD9, .inr ⟨by simp, dt9, _, [.int 6 dtk9], _, rfl, td9, rfl, .cons ⟨_, rfl⟩ .nil⟩, .inl rfl⟩, kD9⟩
  obtain ⟨e9, v9, b9⟩ := F9.binds1 (ps := ["value", "deep"]) 2 1 (by simp) rfl (fun T kV doc pm an cdv ct us its h1 h2 => match us, its, h1, h2 with | [_, _], [_], _, _ => ⟨_, rfl, rfl⟩)
  cases v9
  obtain ⟨e9x, v9x, b9x⟩ := F9.binds1 (ps := ["value", "deep"]) 1 0 (by simp) rfl (fun T kV doc pm an cdv ct us its h1 h2 => match us, its, h1, h2 with | [_], [_], _, _ => ⟨_, rfl, rfl⟩)
  obtain ⟨u9x, rfl, w9x⟩ := vals1 v9x
  obtain ⟨t9x, rfl⟩ := w9x
  have T9 : DefT K mg "is_expression" g9 := ⟨PySem.W.mg_of X G aD9, kD9⟩
  have F10 : FunD K "is_condition" "is_condition" (defArgs sCon) (defBody sCon) (defScope sCon) [V.int 6] [] g10 _ := ⟨⟨_, _, _, _, _, _, _, _, _, _, rfl, lD10, cD10, .inr ⟨by simp, dt10, _, [.int 6 dtk10], _, rfl, td10, rfl, .cons ⟨_, rfl⟩ .nil⟩, .inl rfl⟩, kD10⟩
  obtain ⟨e10, v10, b10⟩ := F10.binds1 (ps := ["value", "deep"]) 2 1 (by simp) rfl (fun T kV doc pm an cdv ct us its h1 h2 => match us, its, h1, h2 with | [_, _], [_], _, _ => ⟨_, rfl, rfl⟩)
  cases v10
  obtain ⟨e10x, v10x, b10x⟩ := F10.binds1 (ps := ["value", "deep"]) 1 0 (by simp) rfl (fun T kV doc pm an cdv ct us its h1 h2 => match us, its, h1, h2 with | [_], [_], _, _ => ⟨_, rfl, rfl⟩)
  obtain ⟨u10x, rfl, w10x⟩ := vals1 v10x
  obtain ⟨t10x, rfl⟩ := w10x
  have T10 : DefT K mg "is_condition" g10 := ⟨PySem.W.mg_of X G aD10, kD10⟩
  have F11 := fun_mk (st := sRn) lD11 cD11 kD11
  have b11 := F11.binds (ps := ["tree"]) fun _ _ _ _ _ _ us hl => match us, hl with | [_], _ => rfl
  have T11 : DefT K mg "row_names" g11 := ⟨PySem.W.mg_of X G aD11, kD11⟩
  have F12 := fun_mk (st := sHand) lD12 cD12 kD12
  have b12 := F12.binds (ps := ["value"]) fun _ _ _ _ _ _ us hl => match us, hl with | [_], _ => rfl
  have T12 : DefT K mg "is_handler" g12 := ⟨PySem.W.mg_of X G aD12, kD12⟩
  have F13 := fun_mk (st := sRoom) lD13 cD13 kD13
  have b13 := F13.binds (ps := ["deeds", "room", "ifs"]) fun _ _ _ _ _ _ us hl => match us, hl with | [_, _, _], _ => rfl
  have T13 : DefT K mg "room_after" g13 := ⟨PySem.W.mg_of X G aD13, kD13⟩
  have F14 := fun_mk (st := sDeed) lD14 cD14 kD14
  have b14 := F14.binds (ps := ["deed", "room", "ifs"]) fun _ _ _ _ _ _ us hl => match us, hl with | [_, _, _], _ => rfl
  have T14 : DefT K mg "room_after_deed" g14 := ⟨PySem.W.mg_of X G aD14, kD14⟩
  have F15 := fun_mk (st := sOne) lD15 cD15 kD15
  have b15 := F15.binds (ps := ["value"]) fun _ _ _ _ _ _ us hl => match us, hl with | [_], _ => rfl
  have T15 : DefT K mg "is_single_deed" g15 := ⟨PySem.W.mg_of X G aD15, kD15⟩
  have F16 := fun_mk (st := sKey) lD16 cD16 kD16
  have b16 := F16.binds (ps := ["value"]) fun _ _ _ _ _ _ us hl => match us, hl with | [_], _ => rfl
  have T16 : DefT K mg "is_key" g16 := ⟨PySem.W.mg_of X G aD16, kD16⟩
  have F17 := fun_mk (st := sFp) lD17 cD17 kD17
  have b17 := F17.binds (ps := ["handler"]) fun _ _ _ _ _ _ us hl => match us, hl with | [_], _ => rfl
  have T17 : DefT K mg "footprint" g17 := ⟨PySem.W.mg_of X G aD17, kD17⟩
  have F18 := fun_mk (st := sAd) lD18 cD18 kD18
  have b18 := F18.binds (ps := ["deeds"]) fun _ _ _ _ _ _ us hl => match us, hl with | [_], _ => rfl
  have T18 : DefT K mg "all_deeds" g18 := ⟨PySem.W.mg_of X G aD18, kD18⟩
  have F19 := fun_mk (st := sTo) lD19 cD19 kD19
  have b19 := F19.binds (ps := ["deed"]) fun _ _ _ _ _ _ us hl => match us, hl with | [_], _ => rfl
  have T19 : DefT K mg "trees_of" g19 := ⟨PySem.W.mg_of X G aD19, kD19⟩
  have F20 := fun_mk (st := sRh) lD20 cD20 kD20
  have b20 := F20.binds (ps := ["handler", "rows", "message"]) fun _ _ _ _ _ _ us hl => match us, hl with | [_, _, _], _ => rfl
  have T20 : DefT K mg "run_handler" g20 := ⟨PySem.W.mg_of X G aD20, kD20⟩
  have F21 := fun_mk (st := sPen) lD21 cD21 kD21
  have b21 := F21.binds (ps := ["_law_script"]) fun _ _ _ _ _ _ us hl => match us, hl with | [_], _ => rfl
  have T21 : DefT K mg "_law_pen" g21 := ⟨PySem.W.mg_of X G aD21, kD21⟩
  have F22 := fun_mk (st := sDraw) lD22 cD22 kD22
  have b22 := F22.binds (ps := ["_law_pen_here", "_law_many"]) fun _ _ _ _ _ _ us hl => match us, hl with | [_, _], _ => rfl
  have T22 : DefT K mg "_law_draw" g22 := ⟨PySem.W.mg_of X G aD22, kD22⟩
  have F23 := fun_mk (st := sPick) lD23 cD23 kD23
  have b23 := F23.binds (ps := ["_law_pen_here", "_law_items"]) fun _ _ _ _ _ _ us hl => match us, hl with | [_, _], _ => rfl
  have T23 : DefT K mg "_law_pick" g23 := ⟨PySem.W.mg_of X G aD23, kD23⟩
  have F24 := fun_mk (st := sSh) lD24 cD24 kD24
  have b24 := F24.binds (ps := ["_law_pen_here", "_law_items"]) fun _ _ _ _ _ _ us hl => match us, hl with | [_, _], _ => rfl
  have T24 : DefT K mg "_law_shuffled" g24 := ⟨PySem.W.mg_of X G aD24, kD24⟩
  have F25 := fun_mk (st := sWd) lD25 cD25 kD25
  have b25 := F25.binds (ps := ["_law_pen_here", "_law_many"]) fun _ _ _ _ _ _ us hl => match us, hl with | [_, _], _ => rfl
  have T25 : DefT K mg "_law_words" g25 := ⟨PySem.W.mg_of X G aD25, kD25⟩
  have F26 := fun_mk (st := sNm) lD26 cD26 kD26
  have b26 := F26.binds (ps := ["_law_pen_here"]) fun _ _ _ _ _ _ us hl => match us, hl with | [_], _ => rfl
  have T26 : DefT K mg "_law_number" g26 := ⟨PySem.W.mg_of X G aD26, kD26⟩
  have F27 := fun_mk (st := sLeaf) lD27 cD27 kD27
  have b27 := F27.binds (ps := ["_law_pen_here", "_law_names"]) fun _ _ _ _ _ _ us hl => match us, hl with | [_, _], _ => rfl
  have T27 : DefT K mg "_law_leaf" g27 := ⟨PySem.W.mg_of X G aD27, kD27⟩
  have F28 := fun_mk (st := sE) lD28 cD28 kD28
  have b28 := F28.binds (ps := ["_law_pen_here", "_law_names", "_law_deep"]) fun _ _ _ _ _ _ us hl => match us, hl with | [_, _, _], _ => rfl
  have T28 : DefT K mg "_law_e" g28 := ⟨PySem.W.mg_of X G aD28, kD28⟩
  have F29 := fun_mk (st := sC) lD29 cD29 kD29
  have b29 := F29.binds (ps := ["_law_pen_here", "_law_names", "_law_deep"]) fun _ _ _ _ _ _ us hl => match us, hl with | [_, _, _], _ => rfl
  have T29 : DefT K mg "_law_c" g29 := ⟨PySem.W.mg_of X G aD29, kD29⟩
  have F30 := fun_mk (st := sDd) lD30 cD30 kD30
  have b30 := F30.binds (ps := ["_law_pen_here", "_law_place", "_law_ifs"]) fun _ _ _ _ _ _ us hl => match us, hl with | [_, _, _], _ => rfl
  have T30 : DefT K mg "_law_deed" g30 := ⟨PySem.W.mg_of X G aD30, kD30⟩
  have F31 := fun_mk (st := sDs) lD31 cD31 kD31
  have b31 := F31.binds (ps := ["_law_pen_here", "_law_place", "_law_ifs"]) fun _ _ _ _ _ _ us hl => match us, hl with | [_, _, _], _ => rfl
  have T31 : DefT K mg "_law_deeds" g31 := ⟨PySem.W.mg_of X G aD31, kD31⟩
  have F32 := fun_mk (st := sHn) lD32 cD32 kD32
  have b32 := F32.binds (ps := ["_law_pen_here", "_law_names", "_law_keys", "_law_kinds", "_law_sends"]) fun _ _ _ _ _ _ us hl => match us, hl with | [_, _, _, _, _], _ => rfl
  have T32 : DefT K mg "_law_handler" g32 := ⟨PySem.W.mg_of X G aD32, kD32⟩
  have F33 := fun_mk (st := sRows) lD33 cD33 kD33
  have b33 := F33.binds (ps := ["_law_pen_here", "_law_names", "_law_keys"]) fun _ _ _ _ _ _ us hl => match us, hl with | [_, _, _], _ => rfl
  have T33 : DefT K mg "_law_rows" g33 := ⟨PySem.W.mg_of X G aD33, kD33⟩
  have F34 := fun_mk (st := sRT) lD34 cD34 kD34
  have b34 := F34.binds (ps := ["_law_found"]) fun _ _ _ _ _ _ us hl => match us, hl with | [_], _ => rfl
  have T34 : DefT K mg "_law_row_tuple" g34 := ⟨PySem.W.mg_of X G aD34, kD34⟩
  have F35 := fun_mk (st := sHr) lD35 cD35 kD35
  have b35 := F35.binds (ps := ["_law_tree", "_law_words_here"]) fun _ _ _ _ _ _ us hl => match us, hl with | [_, _], _ => rfl
  have T35 : DefT K mg "_law_handler_renamed" g35 := ⟨PySem.W.mg_of X G aD35, kD35⟩
  have F36 := fun_mk (st := sRr) lD36 cD36 kD36
  have b36 := F36.binds (ps := ["_law_rows_here", "_law_words_here"]) fun _ _ _ _ _ _ us hl => match us, hl with | [_, _], _ => rfl
  have T36 : DefT K mg "_law_rows_renamed" g36 := ⟨PySem.W.mg_of X G aD36, kD36⟩
  have F37 := fun_mk (st := sEr) lD37 cD37 kD37
  have b37 := F37.binds (ps := ["_law_end", "_law_words_here"]) fun _ _ _ _ _ _ us hl => match us, hl with | [_, _], _ => rfl
  have T37 : DefT K mg "_law_end_renamed" g37 := ⟨PySem.W.mg_of X G aD37, kD37⟩
  have F38 := fun_mk (st := sWi) lD38 cD38 kD38
  have b38 := F38.binds (ps := ["_law_pen_here", "_law_rows_here", "_law_names", "_law_keys", "_law_fixed"]) fun _ _ _ _ _ _ us hl => match us, hl with | [_, _, _, _, _], _ => rfl
  have T38 : DefT K mg "_law_with_others" g38 := ⟨PySem.W.mg_of X G aD38, kD38⟩
  have F39 := fun_mk (st := sIk) lD39 cD39 kD39
  have b39 := F39.binds (ps := ["_law_rows_here", "_law_end", "_law_key", "_law_prints"]) fun _ _ _ _ _ _ us hl => match us, hl with | [_, _, _, _], _ => rfl
  have T39 : DefT K mg "_law_is_kept" g39 := ⟨PySem.W.mg_of X G aD39, kD39⟩
  have F40 := fun_mk (st := sLaw) lD40 cD40 kD40
  have F41 := fun_mk (st := sIn) lD41 cD41 kD41
  have b41 := F41.binds (ps := ["self", "rows", "message"]) fun _ _ _ _ _ _ us hl => match us, hl with | [_, _, _], _ => rfl
  have F42 := fun_mk (st := sRws) lD42 cD42 kD42
  have b42 := F42.binds (ps := ["self"]) fun _ _ _ _ _ _ us hl => match us, hl with | [_], _ => rfl
  have m42 : Meth K C "rows" g42 := ⟨aD42, iD42, kD42⟩
  have F43 := fun_mk (st := sTd) lD43 cD43 kD43
  have b43 := F43.binds (ps := ["self"]) fun _ _ _ _ _ _ us hl => match us, hl with | [_], _ => rfl
  have m43 : Meth K C "told" g43 := ⟨aD43, iD43, kD43⟩
  have F44 := fun_mk (st := sRe) lD44 cD44 kD44
  have b44 := F44.binds (ps := ["self", "place"]) fun _ _ _ _ _ _ us hl => match us, hl with | [_, _], _ => rfl
  have m44 : Meth K C "read" g44 := ⟨aD44, iD44, kD44⟩
  have F45 := fun_mk (st := sWo) lD45 cD45 kD45
  have b45 := F45.binds (ps := ["self", "expression"]) fun _ _ _ _ _ _ us hl => match us, hl with | [_, _], _ => rfl
  have m45 : Meth K C "worth" g45 := ⟨aD45, iD45, kD45⟩
  have F46 := fun_mk (st := sHo) lD46 cD46 kD46
  have b46 := F46.binds (ps := ["self", "condition"]) fun _ _ _ _ _ _ us hl => match us, hl with | [_, _], _ => rfl
  have m46 : Meth K C "holds" g46 := ⟨aD46, iD46, kD46⟩
  have F47 := fun_mk (st := sDa) lD47 cD47 kD47
  have b47 := F47.binds (ps := ["self", "deeds"]) fun _ _ _ _ _ _ us hl => match us, hl with | [_, _], _ => rfl
  have m47 : Meth K C "do_all" g47 := ⟨aD47, iD47, kD47⟩
  have F48 := fun_mk (st := sDo) lD48 cD48 kD48
  have b48 := F48.binds (ps := ["self", "deed"]) fun _ _ _ _ _ _ us hl => match us, hl with | [_, _], _ => rfl
  have m48 : Meth K C "do_one" g48 := ⟨aD48, iD48, kD48⟩
  have FX1 := fun_mk (st := sI1) xL1 xC1 xK1
  have bX1 := FX1.binds (ps := ["self", "value"]) fun _ _ _ _ _ _ us hl => match us, hl with | [_, _], _ => rfl
  have OX1 : OexC K X1 := ⟨⟨_, _, _, _, _, _, _, _, _, _, _, _, _, _, _, xl1, rfl⟩, xs_1, xx_1, xt_1, xk_1⟩
  have mX1 := PySem.W.mg_of X G xa1
  have TH : TxtH mg := ⟨PySem.W.mg_none_of X G z_isinstance, PySem.W.mg_none_of X G z_len, PySem.W.mg_none_of X G z_all, PySem.W.mg_none_of X G z_int, PySem.W.mg_none_of X G z_bool, PySem.W.mg_none_of X G z_str, PySem.W.mg_none_of X G z_tuple, ⟨_, PySem.W.mg_of X G cB⟩, ⟨_, PySem.W.mg_of X G cL⟩, ⟨_, PySem.W.mg_of X G cA⟩⟩
  have TM : TxtM mg := ⟨⟨_, PySem.W.mg_of X G cM⟩, ⟨_, PySem.W.mg_of X G cI⟩⟩
  have TP : TxtP mg := ⟨PySem.W.mg_none_of X G z_int, PySem.W.mg_none_of X G z_len, PySem.W.mg_none_of X G z_abs, PySem.W.mg_none_of X G z_list⟩
  have TS : TxtS mg := ⟨PySem.W.mg_none_of X G z_tuple, PySem.W.mg_none_of X G z_sorted⟩
  have TF : TxtF mg := ⟨PySem.W.mg_none_of X G z_tuple, PySem.W.mg_none_of X G z_sorted, PySem.W.mg_none_of X G z_set⟩
  have TN : TxtN mg := ⟨PySem.W.mg_none_of X G z_isinstance, PySem.W.mg_none_of X G z_tuple⟩
  have TR := PySem.W.mg_none_of X G z_range
  have TRp := PySem.W.mg_none_of X G z_repr
  have c : RunC K C := ⟨⟨pg, hd, po, sa⟩, n_key, n_body, n_table, n_sends, n_failed, n_reads, n_writes⟩
  refine ⟨PySem.W.fnOf "law" "law" (defArgs sLaw) (defBody sLaw) (defScope sLaw) .none gkV40 gdc40 gpm40 gan40 gcd40 gct40, fun s v => .of_eq rfl, fun base _ _ => ?_⟩
  have Gnum := ok_num (P := l.prog) (w := w) (base := base) F0 TH
  have Gval := ok_val F1 TH Gnum T0 b0
  have Gword := ok_word (P := l.prog) (w := w) (base := base) F2 TH
  have Gtof := ok_tof (P := l.prog) (w := w) (base := base) F3 TH
  have Gkey := ok_key F16 Gword T2 b2
  have Gexp := ok_exp F9 TH T9 b9 Gval T1 b1 Gword T2 b2 7
  have Gcon := ok_con F10 TH T10 b10 Gexp T9 b9x 7
  have Gone := ok_one F15 TH Gexp T9 b9x Gword T2 b2 Gkey T16 b16
  have Grm := ok_rooms F13 TH F14 T14 b14 T13 b13 Gone T15 b15 Gtof T3 b3 Gcon T10 b10x 4
  have Ghand := ok_hand F12 TM Grm T13 b13
  have Gms := ok_ms F4 Gtof T3 b3 Gword T2 b2 Gval T1 b1
  have Grw := ok_rw F5 Gtof T3 b3 Gword T2 b2 Gval T1 b1
  have Grs := ok_rs F6 TH (PySem.W.mg_none_of X G z_zip) Grw T5 b5
  have Gcb := ok_cb (P := l.prog) (w := w) (base := base) F7 TH (PySem.W.mg_none_of X G z_min) (PySem.W.mg_none_of X G z_max)
  have Gre := ok_re (mg := mg) (P := l.prog) (w := w) (base := base) F44 c
  have Gwo := ok_wo F45 c m45 b45 Gre m44 b44 Gcb T7 b7 7
  have Gho := ok_ho F46 TH (PySem.W.mg_none_of X G z_any) c m46 b46 Gwo m45 b45 7
  have Gda := ok_dos F48 F47 c Gwo m45 b45 Gho m46 b46 m48 b48 m47 b47 4
  have Gin := ok_in (mg := mg) (P := l.prog) (w := w) (base := base) F41 c
  have Gtd := ok_td (P := l.prog) (w := w) (base := base) F43 TS c
  have Grws := ok_rws (P := l.prog) (w := w) (base := base) F42 TS c
  have Gro := ok_ro F8 c (PySem.W.mg_of X G aR) ⟨mk, aD41, iD41, kc⟩ Gin b41 Gda m47 b47
  have EC1 : ErrC l.prog w K mg base "InvalidHandler" X1 xf1 _ := ⟨OX1, xi_1, xy_1, ok_i1 FX1 OX1 xv1, bX1, mX1⟩
  have Grh := ok_rh F20 c Ghand T12 b12 Grs T6 b6 Gms T4 b4 Gro T8 b8 Grws m42 b42 Gtd m43 b43
  have Grn := ok_rn (P := l.prog) (w := w) (base := base) F11 TN T11 b11 12
  have Gad := ok_ad (P := l.prog) (w := w) (base := base) F18 T18 b18 4
  have Gto := ok_to (P := l.prog) (w := w) (base := base) (mg := mg) F19
  have Gfp := ok_fp F17 TF EC1 Ghand T12 b12 Gad T18 b18 Gto T19 b19 Grn T11 b11
  have Gpen := ok_pen (P := l.prog) (w := w) (base := base) F21 TP
  have Gdraw := ok_draw (P := l.prog) (w := w) (base := base) F22 TP
  have Gpick := ok_pick (P := l.prog) (w := w) (base := base) F23 TP F22 T22 b22
  have GpickS := ok_pickS F23 TH Gdraw T22 b22
  have Gnm := ok_nm F26 Gdraw T22 b22 Gpick T23 b23
  have Glf := ok_leaf F27 Gnm T26 b26 Gpick T23 b23
  have Ge := ok_e F28 T28 b28 Gdraw T22 b22 Gpick T23 b23 Glf T27 b27 5
  have Gc := ok_c F29 T29 b29 Gdraw T22 b22 Ge T28 b28 5
  have Gwd := ok_wd F25 TH TR Gdraw T22 b22 GpickS Gpick T23 b23
  have Gds := ok_dss F31 F30 TH TR Gdraw T22 b22 Gpick T23 b23 Ge T28 b28 Gc T29 b29 T31 b31 T30 b30 4
  have Ghn := ok_hn F32 Gdraw T22 b22 Gpick T23 b23 Ge T28 b28 Gds T31 b31
  have Grt := ok_rt (P := l.prog) (w := w) (base := base) F34 TS
  have Grows := ok_rows F33 Gdraw T22 b22 Gnm T26 b26 Grt T34 b34
  have Gsh := ok_sh F24 TH (PySem.W.mg_none_of X G z_list) Gdraw T22 b22
  have TRn : TxtR mg := ⟨PySem.W.mg_none_of X G z_isinstance, PySem.W.mg_none_of X G z_tuple, PySem.W.mg_none_of X G z_len⟩
  have Ghr := ok_hr (P := l.prog) (w := w) (base := base) F35 TRn T35 b35 20
  have Grr := ok_rr F36 (PySem.W.mg_none_of X G z_dict) Grt T34 b34
  have Ger := ok_er F37 (PySem.W.mg_none_of X G z_tuple) Grr T36 b36
  have Gwi := ok_wi F38 (PySem.W.mg_none_of X G z_dict) Gdraw T22 b22 Gnm T26 b26 Grt T34 b34
  have Gik := ok_ik (P := l.prog) (w := w) (base := base) F39 (PySem.W.mg_none_of X G z_dict) (PySem.W.mg_none_of X G z_list)
  exact ok_law F40 TR (PySem.W.mg_none_of X G z_dict) (PySem.W.mg_none_of X G z_zip) Gpen T21 b21 Gwd T25 b25 Ghn T32 b32 Grows T33 b33 Gpick T23 b23 Gnm T26 b26 Grh T20 b20 Gfp T17 b17 Gsh T24 b24 Ghr T35 b35 Grr T36 b36 Ger T37 b37 Gwi T38 b38 Gik T39 b39
end Hd

set_option Elab.async false
set_option linter.all false
set_option maxRecDepth 100000
open L2

open PySem PySem.W PyProof.Rows
set_option maxRecDepth 100000 in
set_option maxHeartbeats 0 in
theorem PySem.Challenge.cw_oncepost_k09_whole_runs_and_their_footpr_holds : PySem.Challenge.rw_oncepost_k09_whole_runs_and_their_footpr.Holds := by
  w_on; o_law; k_head; (case hw => w_witness2)
  k_fill
  refine RG.walkG (l := PySem.Challenge.rw_oncepost_k09_whole_runs_and_their_footpr) (n := 41) (x := "_law_script") (CX := CX0) (sp := Hd.spLaw) rfl (by decide) rfl ⟨rfl, by decide, by decide⟩ (fun w h Y => PySem.W.kIn_of Y) ?F ?tl ?qu
  case F =>
    intro w mg fa h KX G hmg
    refine' Hd.all_mk KX G hmg ?z_isinstance ?z_len ?z_all ?z_int ?z_bool ?z_str ?z_tuple ?z_abs ?z_list ?z_range ?z_repr ?z_zip ?z_min ?z_max ?z_any ?z_sorted ?z_dict ?z_set ?cB ?cL ?cA ?cM ?cI ?aD0 ?lD0 ?cD0 ?kD0 ?aD1 ?lD1 ?cD1 ?kD1 ?aD2 ?lD2 ?cD2 ?kD2 ?aD3 ?lD3 ?cD3 ?kD3 ?aD4 ?lD4 ?cD4 ?kD4 ?aD5 ?lD5 ?cD5 ?kD5 ?aD6 ?lD6 ?cD6 ?kD6 ?aD7 ?lD7 ?cD7 ?kD7 ?aD8 ?lD8 ?cD8 ?kD8 ?aD9 ?lD9 ?cD9 ?kD9 ?aD10 ?lD10 ?cD10 ?kD10 ?aD11 ?lD11 ?cD11 ?kD11 ?aD12 ?lD12 ?cD12 ?kD12 ?aD13 ?lD13 ?cD13 ?kD13 ?aD14 ?lD14 ?cD14 ?kD14 ?aD15 ?lD15 ?cD15 ?kD15 ?aD16 ?lD16 ?cD16 ?kD16 ?aD17 ?lD17 ?cD17 ?kD17 ?aD18 ?lD18 ?cD18 ?kD18 ?aD19 ?lD19 ?cD19 ?kD19 ?aD20 ?lD20 ?cD20 ?kD20 ?aD21 ?lD21 ?cD21 ?kD21 ?aD22 ?lD22 ?cD22 ?kD22 ?aD23 ?lD23 ?cD23 ?kD23 ?aD24 ?lD24 ?cD24 ?kD24 ?aD25 ?lD25 ?cD25 ?kD25 ?aD26 ?lD26 ?cD26 ?kD26 ?aD27 ?lD27 ?cD27 ?kD27 ?aD28 ?lD28 ?cD28 ?kD28 ?aD29 ?lD29 ?cD29 ?kD29 ?aD30 ?lD30 ?cD30 ?kD30 ?aD31 ?lD31 ?cD31 ?kD31 ?aD32 ?lD32 ?cD32 ?kD32 ?aD33 ?lD33 ?cD33 ?kD33 ?aD34 ?lD34 ?cD34 ?kD34 ?aD35 ?lD35 ?cD35 ?kD35 ?aD36 ?lD36 ?cD36 ?kD36 ?aD37 ?lD37 ?cD37 ?kD37 ?aD38 ?lD38 ?cD38 ?kD38 ?aD39 ?lD39 ?cD39 ?kD39 ?aD40 ?lD40 ?cD40 ?kD40 ?td9 ?td10 ?aR ?aD41 ?iD41 ?lD41 ?cD41 ?kD41 ?aD42 ?iD42 ?lD42 ?cD42 ?kD42 ?aD43 ?iD43 ?lD43 ?cD43 ?kD43 ?aD44 ?iD44 ?lD44 ?cD44 ?kD44 ?aD45 ?iD45 ?lD45 ?cD45 ?kD45 ?aD46 ?iD46 ?lD46 ?cD46 ?kD46 ?aD47 ?iD47 ?lD47 ?cD47 ?kD47 ?aD48 ?iD48 ?lD48 ?cD48 ?kD48 ?pg ?hd ?po ?sa ?mk ?kc ?n_key ?n_body ?n_table ?n_sends ?n_failed ?n_reads ?n_writes ?xa1 ?xl1 ?xs_1 ?xx_1 ?xt_1 ?xk_1 ?xi_1 ?xy_1 ?xL1 ?xC1 ?xK1 ?xv1
    (case z_isinstance => k_is); (case z_len => k_is); (case z_all => k_is); (case z_int => k_is)
    (case z_bool => k_is); (case z_str => k_is); (case z_tuple => k_is); (case z_abs => k_is)
    (case z_list => k_is); (case z_range => k_is); (case z_repr => k_is); (case z_zip => k_is)
    (case z_min => k_is); (case z_max => k_is); (case z_any => k_is); (case z_sorted => k_is)
    (case z_dict => k_is); (case z_set => k_is); (case cB => k_is); (case cL => k_is)
    (case cA => k_is); (case cM => k_is); (case cI => k_is); (case aD0 => k_is)
    (case lD0 => k_is); (case cD0 => k_is); (case kD0 => k_is); (case aD1 => k_is)
    (case lD1 => k_is); (case cD1 => k_is); (case kD1 => k_is); (case aD2 => k_is)
    (case lD2 => k_is); (case cD2 => k_is); (case kD2 => k_is); (case aD3 => k_is)
    (case lD3 => k_is); (case cD3 => k_is); (case kD3 => k_is); (case aD4 => k_is)
    (case lD4 => k_is); (case cD4 => k_is); (case kD4 => k_is); (case aD5 => k_is)
    (case lD5 => k_is); (case cD5 => k_is); (case kD5 => k_is); (case aD6 => k_is)
    (case lD6 => k_is); (case cD6 => k_is); (case kD6 => k_is); (case aD7 => k_is)
    (case lD7 => k_is); (case cD7 => k_is); (case kD7 => k_is); (case aD8 => k_is)
    (case lD8 => k_is); (case cD8 => k_is); (case kD8 => k_is); (case aD9 => k_is)
    (case lD9 => k_is); (case cD9 => k_is); (case kD9 => k_is); (case aD10 => k_is)
    (case lD10 => k_is); (case cD10 => k_is); (case kD10 => k_is); (case aD11 => k_is)
    (case lD11 => k_is); (case cD11 => k_is); (case kD11 => k_is); (case aD12 => k_is)
    (case lD12 => k_is); (case cD12 => k_is); (case kD12 => k_is); (case aD13 => k_is)
    (case lD13 => k_is); (case cD13 => k_is); (case kD13 => k_is); (case aD14 => k_is)
    (case lD14 => k_is); (case cD14 => k_is); (case kD14 => k_is); (case aD15 => k_is)
    (case lD15 => k_is); (case cD15 => k_is); (case kD15 => k_is); (case aD16 => k_is)
    (case lD16 => k_is); (case cD16 => k_is); (case kD16 => k_is); (case aD17 => k_is)
    (case lD17 => k_is); (case cD17 => k_is); (case kD17 => k_is); (case aD18 => k_is)
    (case lD18 => k_is); (case cD18 => k_is); (case kD18 => k_is); (case aD19 => k_is)
    (case lD19 => k_is); (case cD19 => k_is); (case kD19 => k_is); (case aD20 => k_is)
    (case lD20 => k_is); (case cD20 => k_is); (case kD20 => k_is); (case aD21 => k_is)
    (case lD21 => k_is); (case cD21 => k_is); (case kD21 => k_is); (case aD22 => k_is)
    (case lD22 => k_is); (case cD22 => k_is); (case kD22 => k_is); (case aD23 => k_is)
    (case lD23 => k_is); (case cD23 => k_is); (case kD23 => k_is); (case aD24 => k_is)
    (case lD24 => k_is); (case cD24 => k_is); (case kD24 => k_is); (case aD25 => k_is)
    (case lD25 => k_is); (case cD25 => k_is); (case kD25 => k_is); (case aD26 => k_is)
    (case lD26 => k_is); (case cD26 => k_is); (case kD26 => k_is); (case aD27 => k_is)
    (case lD27 => k_is); (case cD27 => k_is); (case kD27 => k_is); (case aD28 => k_is)
    (case lD28 => k_is); (case cD28 => k_is); (case kD28 => k_is); (case aD29 => k_is)
    (case lD29 => k_is); (case cD29 => k_is); (case kD29 => k_is); (case aD30 => k_is)
    (case lD30 => k_is); (case cD30 => k_is); (case kD30 => k_is); (case aD31 => k_is)
    (case lD31 => k_is); (case cD31 => k_is); (case kD31 => k_is); (case aD32 => k_is)
    (case lD32 => k_is); (case cD32 => k_is); (case kD32 => k_is); (case aD33 => k_is)
    (case lD33 => k_is); (case cD33 => k_is); (case kD33 => k_is); (case aD34 => k_is)
    (case lD34 => k_is); (case cD34 => k_is); (case kD34 => k_is); (case aD35 => k_is)
    (case lD35 => k_is); (case cD35 => k_is); (case kD35 => k_is); (case aD36 => k_is)
    (case lD36 => k_is); (case cD36 => k_is); (case kD36 => k_is); (case aD37 => k_is)
    (case lD37 => k_is); (case cD37 => k_is); (case kD37 => k_is); (case aD38 => k_is)
    (case lD38 => k_is); (case cD38 => k_is); (case kD38 => k_is); (case aD39 => k_is)
    (case lD39 => k_is); (case cD39 => k_is); (case kD39 => k_is); (case aD40 => k_is)
    (case lD40 => k_is); (case cD40 => k_is); (case kD40 => k_is); (case td9 => k_is)
    (case td10 => k_is); (case aR => k_is); (case aD41 => k_is); (case iD41 => k_is)
    (case lD41 => k_is); (case cD41 => k_is); (case kD41 => k_is); (case aD42 => k_is)
    (case iD42 => k_is); (case lD42 => k_is); (case cD42 => k_is); (case kD42 => k_is)
    (case aD43 => k_is); (case iD43 => k_is); (case lD43 => k_is); (case cD43 => k_is)
    (case kD43 => k_is); (case aD44 => k_is); (case iD44 => k_is); (case lD44 => k_is)
    (case cD44 => k_is); (case kD44 => k_is); (case aD45 => k_is); (case iD45 => k_is)
    (case lD45 => k_is); (case cD45 => k_is); (case kD45 => k_is); (case aD46 => k_is)
    (case iD46 => k_is); (case lD46 => k_is); (case cD46 => k_is); (case kD46 => k_is)
    (case aD47 => k_is); (case iD47 => k_is); (case lD47 => k_is); (case cD47 => k_is)
    (case kD47 => k_is); (case aD48 => k_is); (case iD48 => k_is); (case lD48 => k_is)
    (case cD48 => k_is); (case kD48 => k_is); (case pg => k_is); (case hd => k_is)
    (case po => k_is); (case sa => k_is); (case mk => k_is); (case kc => k_is)
    (case n_key => k_is); (case n_body => k_is); (case n_table => k_is); (case n_sends => k_is)
    (case n_failed => k_is); (case n_reads => k_is); (case n_writes => k_is); (case xa1 => k_is)
    (case xl1 => k_is); (case xs_1 => k_is); (case xx_1 => k_is); (case xt_1 => k_is)
    (case xk_1 => k_is); (case xi_1 => k_is); (case xy_1 => k_is); (case xL1 => k_is)
    (case xC1 => k_is); (case xK1 => k_is); (case xv1 => k_is)
  case tl =>
    intro K G a ns hl ho hS
    exact ⟨a, ns, rfl, hS, hl, fun _ => rfl⟩
  case qu =>
    intro G s e s' z
    exact z
