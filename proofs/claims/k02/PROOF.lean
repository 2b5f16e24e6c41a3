import PyProof.Rows.All
import Wide.All
import OpenK.AllK
import Wide.FinOn
import HandS.ForMost
import HandS.Wide
import PyProof.ReprRoads
import PyProof.EqAt
import PyProof.EqKinds
import PyProof.TupleCall
import PyProof.NeKinds
import PyProof.FactsAll.dict_1
import HandS.IsInst
import HandS.TupMul
import HandS.TupAny
import PyProof.StrBlock2
import HandS.Style
import PySem.Challenge.RW_oncepost_k02_what_is_a_handler
import HandS.Defaults
set_option Elab.async false
set_option linter.all false
set_option maxRecDepth 100000
/-! The pen: a dict of a list, a place and a rest; a draw is some int from 0 to many - 1. -/
namespace Pen
open PySem L2
/-! ### the pen's pairs -/
abbrev kC : Key := Sum.inr ("cells" : Str)
abbrev kA : Key := Sum.inr ("at" : Str)
abbrev kR : Key := Sum.inr ("rest" : Str)
def pk (c : Addr) (a r : Int) : List (Key × V) := [(kC, .ref c), (kA, .int a), (kR, .int r)]
theorem nCA : ¬ (kC = kA) := by decide +kernel
theorem nCR : ¬ (kC = kR) := by decide +kernel
theorem nAR : ¬ (kA = kR) := by decide +kernel
theorem nAC : ¬ (kA = kC) := by decide +kernel
theorem nRC : ¬ (kR = kC) := by decide +kernel
theorem nRA : ¬ (kR = kA) := by decide +kernel
theorem pk_c (c : Addr) (a r : Int) : valV (pk c a r) kC = some (.ref c) := valV_pos rfl
theorem pk_a (c : Addr) (a r : Int) : valV (pk c a r) kA = some (.int a) := (valV_neg nCA).trans (valV_pos rfl)
theorem pk_r (c : Addr) (a r : Int) : valV (pk c a r) kR = some (.int r) := ((valV_neg nCR).trans (valV_neg nAR)).trans (valV_pos rfl)
theorem sCA : ¬ (("cells" : Str) = "at") := by decide +kernel
theorem sCR : ¬ (("cells" : Str) = "rest") := by decide +kernel
theorem sRA : ¬ (("rest" : Str) = "at") := by decide +kernel
theorem sAR : ¬ (("at" : Str) = "rest") := by decide +kernel
theorem pk_putA (c : Addr) (a r x : Int) : putK (pk c a r) kA (.int x) = pk c x r := by
  unfold putK pk
  simp [sCA, sRA]
theorem pk_putR (c : Addr) (a r x : Int) : putK (pk c a r) kR (.int x) = pk c a x := by
  unfold putK pk
  simp [sCR, sAR]
theorem pk_len (c : Addr) (a r : Int) : (pk c a r).length < sizeLine := by show 3 < sizeLine; decide
structure PenAt (H : Hp) (p c : Addr) (ns : List Int) (b : Nat) : Prop where
  ex : ∃ a r : Int, H p = some (.dK (pk c a r)) ∧ 0 ≤ a ∧ a ≤ b ∧ 0 ≤ r
  ce : H c = some (.lst (ns.map V.int))
/-- all but p is as it was -/
def SameX (p : Addr) (H H' : Hp) : Prop := ∀ x o, x ≠ p → H x = some o → H' x = some o
theorem SameX.refl {p : Addr} {H : Hp} : SameX p H H := fun _ _ _ h => h
theorem SameX.trans {p : Addr} {H H1 H2 : Hp} (a : SameX p H H1) (b : SameX p H1 H2) : SameX p H H2 := fun x o n h => b x o n (a x o n h)
theorem Same.X {p : Addr} {H H' : Hp} (a : Same H H') : SameX p H H' := fun x o _ h => a x o h
theorem SameX.upd {p : Addr} {H H' : Hp} {o : HO} (a : SameX p H H') : SameX p H (upd H' p o) := fun x u n h => by
  rw [upd_ne n]
  exact a x u n h
theorem same_new {H : Hp} {l : Addr} {o : HO} (h : H l = none) : Same H (L2.upd H l o) := fun x u e => by
  rw [upd_ne (ne_of_none e h)]
  exact e
theorem PenAt.same {H H' : Hp} {p c : Addr} {ns : List Int} {b : Nat} (P : PenAt H p c ns b) (s : Same H H') : PenAt H' p c ns b := by
  obtain ⟨⟨a, r, h, q⟩, ce⟩ := P
  exact ⟨⟨a, r, s _ _ h, q⟩, s _ _ ce⟩
theorem PenAt.mono {H : Hp} {p c : Addr} {ns : List Int} {b b' : Nat} (P : PenAt H p c ns b) (h : b ≤ b') : PenAt H p c ns b' := by
  obtain ⟨⟨a, r, h0, h1, h2, h3⟩, ce⟩ := P
  exact ⟨⟨a, r, h0, h1, by omega, h3⟩, ce⟩
theorem PenAt.ne {H : Hp} {p c : Addr} {ns : List Int} {b : Nat} (P : PenAt H p c ns b) : p ≠ c := by
  obtain ⟨⟨a, r, h0, _⟩, ce⟩ := P
  exact ne_of h0 ce (by intro z; cases z)
/-! ### promises -/
def spPen (K : PySem.W.Frag) : Sp := fun vs H Q _ => ∃ (a : Addr) (ns : List Int), vs = [.ref a] ∧ SqL K H a (ns.map V.int) ∧ ns.length ≤ 63 ∧
  ∀ (p c : Addr) (H' : Hp), H p = none → PenAt H' p c ns 0 → Same H H' → Q (.ref p) H'
def spDraw : Sp := fun vs H Q _ => ∃ (p c : Addr) (ns : List Int) (b : Nat) (m : Int), vs = [.ref p, .int m] ∧ PenAt H p c ns b ∧ ns.length ≤ 63 ∧ b < 2 ^ 40 ∧ 0 < m ∧ m < 2 ^ 30 ∧
  ∀ (r : Int) (H' : Hp), 0 ≤ r → r < m → PenAt H' p c ns (b + 1) → SameX p H H' → Q (.int r) H'
def spPick (K : PySem.W.Frag) : Sp := fun vs H Q _ => ∃ (p c : Addr) (ns : List Int) (b : Nat) (l : Addr) (xs : List V), vs = [.ref p, .ref l] ∧ PenAt H p c ns b ∧ ns.length ≤ 63 ∧ b < 2 ^ 40 ∧
  H l = some (.lst xs) ∧ 0 < xs.length ∧ xs.length ≤ 1000 ∧
  ∀ (v : V) (H' : Hp), v ∈ xs → PenAt H' p c ns (b + 1) → SameX p H H' → Q v H'
/-! ### numbers -/
theorem fmod_lo {i m : Int} (h : 0 < m) : 0 ≤ i.fmod m := by rw [Int.fmod_eq_emod_of_nonneg i (by omega)]; exact Int.emod_nonneg _ (by omega)
theorem fmod_hi {i m : Int} (h : 0 < m) : i.fmod m < m := by rw [Int.fmod_eq_emod_of_nonneg i (by omega)]; exact Int.emod_lt_of_pos _ h
theorem fdiv_lo {i m : Int} (h : 0 < m) (hi : 0 ≤ i) : 0 ≤ i / m := Int.ediv_nonneg hi (by omega)
theorem div_ok {i m : Int} (h : 0 < m) (h2 : m < 2 ^ 30) : CDivW i m := wide_div h (b := 30) (by omega) (by decide) (by decide)
theorem atI_mod {ns : List Int} {a : Int} (h : ns ≠ []) : ∃ z, atI (ns.map V.int) (a.fmod (ns.length : Int)) = some (.int z) := by
  have hl : 0 < ns.length := List.length_pos_iff.mpr h
  have h1 := fmod_lo (i := a) (m := (ns.length : Int)) (by omega)
  have h2 := fmod_hi (i := a) (m := (ns.length : Int)) (by omega)
  have h3 : (a.fmod (ns.length : Int)).toNat < ns.length := by omega
  refine ⟨ns[(a.fmod (ns.length : Int)).toNat], ?_⟩
  have e : a.fmod (ns.length : Int) = ((a.fmod (ns.length : Int)).toNat : Int) := by omega
  refine at_of e ?_
  rw [List.getElem?_map, List.getElem?_eq_getElem h3]
  rfl
theorem at_mem {xs : List V} {r : Int} (h0 : 0 ≤ r) (h : r < (xs.length : Int)) : ∃ v, v ∈ xs ∧ atI xs r = some v := by
  have h3 : r.toNat < xs.length := by omega
  refine ⟨xs[r.toNat], List.getElem_mem _, ?_⟩
  have e : r = ((r.toNat : Nat) : Int) := by omega
  exact at_of e (List.getElem?_eq_getElem h3)
/-- the names that the pen's defs read -/
structure TxtP (mg : Str → Option Value) : Prop where
  int : mg "int" = none
  len : mg "len" = none
  abs : mg "abs" = none
  list : mg "list" = none
end Pen
namespace Pen
open PySem L2
/-! ### the pen read and written -/
theorem getC {H : Hp} {p c : Addr} {a r : Int} (h : H p = some (.dK (pk c a r))) : DGet H p (.str "cells") (some (.ref c)) := by
  have q := DGet.k (k := kC) h
  rw [pk_c] at q
  exact q
theorem getA {H : Hp} {p c : Addr} {a r : Int} (h : H p = some (.dK (pk c a r))) : DGet H p (.str "at") (some (.int a)) := by
  have q := DGet.k (k := kA) h
  rw [pk_a] at q
  exact q
theorem getR {H : Hp} {p c : Addr} {a r : Int} (h : H p = some (.dK (pk c a r))) : DGet H p (.str "rest") (some (.int r)) := by
  have q := DGet.k (k := kR) h
  rw [pk_r] at q
  exact q
theorem putA {H : Hp} {p c : Addr} {a r x : Int} (h : H p = some (.dK (pk c a r))) : DPut H p (.str "at") (.int x) (upd H p (.dK (pk c x r))) := by
  have q := DPut.k (k := kA) (v := .int x) h (pk_len c a r)
  rw [pk_putA] at q
  exact q
theorem putR {H : Hp} {p c : Addr} {a r x : Int} (h : H p = some (.dK (pk c a r))) : DPut H p (.str "rest") (.int x) (upd H p (.dK (pk c a x))) := by
  have q := DPut.k (k := kR) (v := .int x) h (pk_len c a r)
  rw [pk_putR] at q
  exact q
theorem dps {K : PySem.W.Frag} {H : Hp} : ∀ ns : List Int, DpAll K H (ns.map V.int) (ns.map PyData.int)
  | [] => .nil
  | _ :: ns => .cons (.int _) (dps ns)
theorem dp_ints {K : PySem.W.Frag} {H : Hp} {c : Addr} {ns : List Int} (h : H c = some (.lst (ns.map V.int))) : Dp K H (.ref c) (.list (ns.map PyData.int)) := .lst (SqL.of h) (dps ns)
end Pen
namespace Pen
open PySem L2
theorem cut63 {ns : List Int} (h : ns.length ≤ 63) : cutV (ns.map V.int) none (some 63) = ns.map V.int := by
  unfold cutV
  rw [HT.sIx_none, show (some (63 : Int)) = some (((63 : Nat) : Int)) from rfl, HT.sIx_nat]
  rw [List.drop_zero, List.length_map, Nat.min_eq_right h, Nat.sub_zero]
  exact List.take_of_length_le (by rw [List.length_map]; exact Nat.le_refl _)
theorem merge_pk (c : Addr) : mergeK [] [(kC, .ref c), (kA, .int 0), (kR, .int 0)] = pk c 0 0 := by
  have e1 : putK [] kC (V.ref c) = [(kC, V.ref c)] := putK_new _ rfl
  have e2 : putK [(kC, V.ref c)] kA (V.int 0) = [(kC, V.ref c), (kA, V.int 0)] := putK_new _ (valV_neg nCA)
  have e3 : putK [(kC, V.ref c), (kA, V.int 0)] kR (V.int 0) = [(kC, V.ref c), (kA, V.int 0), (kR, V.int 0)] := putK_new _ ((valV_neg nCR).trans (valV_neg nAR))
  show putK (putK (putK [] kC (V.ref c)) kA (V.int 0)) kR (V.int 0) = _
  rw [e1, e2, e3]
  rfl
theorem canLay_ints : ∀ ns : List Int, PyData.canLay0 (.list (ns.map PyData.int)) = true := by
  intro ns
  induction ns with
  | nil => rfl
  | cons n ns ih =>
    simp only [List.map_cons, PyData.canLay0, PyData.canLayAll0] at ih ⊢
    first | exact ih | simpa using ih
theorem depth_ints : ∀ ns : List Int, PyData.depth (.list (ns.map PyData.int)) ≤ 64 := by
  have h : ∀ ns : List Int, PyData.depthAll (ns.map PyData.int) ≤ 1 := by
    intro ns
    induction ns with
    | nil => simp [PyData.depthAll]
    | cons n ns ih => simp only [List.map_cons, PyData.depthAll, PyData.depth]; omega
  intro ns
  have := h ns
  simp only [PyData.depth]
  omega
theorem shaped_ints (ns : List Int) : SeqAt.shaped (.list (ns.map PyData.int)) = true := by
  unfold SeqAt.shaped
  rw [canLay_ints, decide_eq_true (depth_ints ns)]
  rfl
end Pen

set_option Elab.async false
set_option linter.all false
set_option maxRecDepth 100000
/-! Promises of defs where no repr runs around (A.guards = some []); repr of data; the law's end by such a promise. -/
namespace RG
open PySem PySem.Spec PyProof.Rows L2
/-- a def's promise, to be used where nothing of repr runs around -/
structure FnG (P : Program) (w : World) (K : PySem.W.Frag) (mg : Str → Option Value) (base : Heap) (CX : CXT) (n : Nat) (fn : Addr) (data : FuncData) (pars : List Str) (sp : Sp) : Prop where
  count : ∀ ys G Want Err, sp ys G Want Err → ys.length = pars.length
  go : ∀ (B : Around) (up : List Env) (st : Shared) (G : Hp) (given : Args) (ws : List Value) (ys : List V) (Want : VK) (Err : XK),
    B.guards = some [] → Room n B → Env0 P w K mg base B up st G → BindsTo st data given (pars.zip ws) → Vals ys ws → sp ys G Want Err →
      codeAny (model P w) B (.call (.ref fn) given) (CR CX up P w G st Want Err) st
section
variable {P : Program} {w : World} {K : PySem.W.Frag} {mg : Str → Option Value} {base : Heap} {CX : CXT} {n m : Nat} {fn : Addr} {data : FuncData} {pars : List Str} {sp : Sp}
theorem FnG.of (F : FnOk P w K mg base CX n fn data pars sp) : FnG P w K mg base CX n fn data pars sp :=
  ⟨F.len, fun B up st G given ws ys Want Err _ => F.run B up st G given ws ys Want Err⟩
theorem FnG.mono (F : FnG P w K mg base CX n fn data pars sp) (h : n ≤ m) : FnG P w K mg base CX m fn data pars sp :=
  ⟨F.count, fun B up st G given ws ys Want Err hg hr => F.go B up st G given ws ys Want Err hg (hr.mono h)⟩
/-- the rule for a def of the text: its body, run where nothing of repr is around -/
theorem okG {x qual : Str} {text : Stmt} {N : List Str} (F : Fun K x qual text fn data) (S : FnScope N pars (defScope text)) (count : ∀ ys G Want Err, sp ys G Want Err → ys.length = pars.length)
    (body : ∀ (cd : Value) (B : Around) (up : List Env) (st : Shared) (G : Hp) (ys : List V) (Want : VK) (Err : XK),
      (B.deeper (envOfC qual (defScope text) st.heap.objs.size fn cd)).guards = some [] → Room n (B.deeper (envOfC qual (defScope text) st.heap.objs.size fn cd)) → sp ys G Want Err →
      ∃ t, PSs (cxOf CX P w K mg base N qual (defScope text) fn cd B up st G Err).nox (defBody text) t ∧ t { nx := fun _ G' => Want .non G', rt := Want } (start N ys) G) :
    FnG P w K mg base CX (n + 1) fn data pars sp := by
  obtain ⟨oc, od, kV, doc, pm, an, cd, ct, osl, rfl, at_, hcd⟩ := F.ex
  constructor
  · exact count
  intro B up st G given ws ys Want Err hg hr e0 hb rel told
  have inK : K.In st.heap := e0.mod.kin.keeps (fun b o e => And.left (e0.bs b o e))
  have lim : st.heap.NoLimit := e0.mod.nolimit.keeps (fun b o e => And.left (e0.bs b o e))
  have kinds : ∀ y ∈ pars.zip ws, (defScope text).names.lookup y.1 = some .local ∨ ((defScope text).names.lookup y.1 = some .cell ∧ ((cellsFrom (st.heap.objs.size + 1) (defScope text).names []).lookup y.1).isSome = true) := by
    intro ⟨name, val⟩ hy
    refine (S.par name (List.of_mem_zip hy).1).imp id fun q => ?_
    exact ⟨q, PySem.W.cellsFrom_some _ _ _ (.inl q)⟩
  apply codeAny_call_function hr.depth (inK _ _ at_) rfl S.co S.gen rfl (PySem.W.codeRec_of inK hcd)
  apply hb
  refine wpAny_newFunctionEnv_cells S.kind kinds fun env same s1 inside => ?_
  cases same
  refine ⟨lim.keeps inside.toInCall.keep, codeAny_func ?_⟩
  obtain ⟨t, derived, reading⟩ := body cd B up st G ys Want Err hg (hr.deeper _) told
  have I0 := inv_start (CX := CX) (E := Err) (w := w) (P := P) S hr.hd e0 (count _ _ _ _ told) rel inside
  have back : ∀ {σ1 : L2.St} {G1 : Hp} {y : V} {u : Value} {st1 : Shared}, Inv (cxOf CX P w K mg base N qual (defScope text) fn cd B up st G Err) [] σ1 G1 st1 → RelV y u → Want y G1 → CE up P w G st Want u st1 := by
    intro σ1 G1 y u st1 J ry q
    exact ⟨y, G1, J.os, J.bare, J.base, J.hok, ry, q⟩
  refine wpAny_mono (derived.nox.run [] s1 (start N ys) G _ I0 reading) (fun flow st1 told1 => ?_) (fun _ _ z => z)
  match flow, told1 with
  | .ret u, ⟨y, σ1, G1, J, ry, q⟩ => exact back J ry q
  | .next, ⟨σ1, G1, J, q⟩ => exact back (y := V.non) (u := Value.none) J rfl q
  | .brk, ⟨_, _, _, q⟩ => exact q.elim
  | .cont, ⟨_, _, _, q⟩ => exact q.elim
end
section
variable {X : Cx} {CX : CXT} {n : Nat} {fn : Addr} {data : FuncData} {pars : List Str} {sp : Sp} {dvs : List V} {ds : List Value} {Err : XK}
theorem runG {pins : List (Addr × Obj)} {σ : L2.St} {G : Hp} {st : Shared} {Want : VK} {ws : List Value} {ys : List V} (F : FnG X.prog X.w X.K X.mg X.base CX n fn data pars sp) (hg : X.A.guards = some []) (hr : Room n X.A) (hb : Binds X.K data pars ds) (hd : Vals dvs ds)
    (hx : Passes CX X Err) (I : Inv X pins σ G st) (rel : Vals ys ws) (told : sp (ys ++ dvs) G Want Err) : wpAny (model X.prog X.w) X.A (call (.ref fn) ws) (EP X pins σ Want) X.xe st := by
  have both : Vals (ys ++ dvs) (ws ++ ds) := rel.append hd
  have size : (ws ++ ds).length = pars.length := (Vals.length both).symm.trans (F.count _ _ _ _ told)
  apply wpAny_call
  apply codeAny_mono (F.go X.A X.stack st G ⟨ws, []⟩ (ws ++ ds) (ys ++ dvs) Want Err hg hr I.env0 (hb st ws I.kIn size) both told)
  intro res st1 hq
  match res, hq with
  | .ok (.ret u), hq => exact I.after hq
  | .error e, hq => exact hx pins σ G st e st1 I hq
  | .ok .next, hq => exact hq.elim
  | .ok .brk, hq => exact hq.elim
  | .ok .cont, hq => exact hq.elim
/-- f(..), f by such a promise -/
theorem pe_callg {x : Str} {p pos : Pos} {e : Expr} {es : List Expr} {t : TA} (F : FnG X.prog X.w X.K X.mg X.base CX n fn data pars sp) (gd : X.A.guards = some []) (hr : Room n X.A) (hg : Gl X x) (hm : X.mg x = some (.ref fn)) (hk : PySem.W.keepIn X.K (.ref fn) = true)
    (hb : Binds X.K data pars ds) (hd : Vals dvs ds) (hx : Passes CX X Err) (ha : PA X (e :: es) t) (hdb : (x == ("__debug__" : Str)) = false := by decide)
    (he : starEach (e :: es) X.env = (false, eval e X.env) :: starEach es X.env := by rfl) (hpl : (backTo pos (starEach es X.env)).any (·.1) = false := by rfl) :
    PE X (.Call (.Name x p) (e :: es) [] pos) (tCall sp dvs Err t) := by
  constructor
  intro pins st σ G Want I told
  refine wpAny_Call_Name_kw (ld_glob I hg hm (PySem.W.callWith_K (h₀ := X.base) I.ok.mod.kin hk ?_ he hpl) hdb)
  refine thn (ha.run pos pins st σ G _ I told) fun ws st1 behind => ?_
  obtain ⟨ys, G1, I1, rel, q⟩ := behind
  exact ⟨I1.kIn, runG F gd hr hb hd hx I1 rel q⟩
end
end RG
namespace RG
open PySem PySem.Spec PyProof.Rows L2
section
variable {P : Program} {w : World} {K : PySem.W.Frag} {mg mb : Str → Option Value} {CX : CXT} {n : Nat} {fn script : Addr} {data : FuncData} {x : Str} {sp : Sp} {st : Shared} {items : List Value} {ns : List Int}
/-- only the script is tracked -/
def scriptAt (a : Addr) (items : List Value) (ns : List Int) : Hp := fun b => if b = a then some (.frz { cls := .type "list", data := .seq items.toArray } (.lst (ns.map V.int))) else none
theorem scriptAt_same {a : Addr} {items : List Value} {ns : List Int} : scriptAt a items ns a = some (.frz { cls := .type "list", data := .seq items.toArray } (.lst (ns.map V.int))) := if_pos rfl
theorem scriptAt_ne {a b : Addr} {items : List Value} {ns : List Int} (h : b ≠ a) : scriptAt a items ns b = none := if_neg h
/-- the law's call, from a heap in which nothing but the script may be tracked -/
theorem lawG_at (G : Hp) (inK : K.In st.heap) (glob : st.heap.Ns mainGlobals mg) (blt : st.heap.Ns builtinsNs mb) (are : ∀ y : Str, y ≠ "__name__" → mb y = bootBuiltins y) (lim : st.heap.NoLimit) (nogen : st.gens = #[])
    (there : st.heap.get? script = some { cls := .type "list", data := .seq items.toArray }) (room : Room n callerA)
    (F : ∀ base : Heap, K.In base → base.Ns mainGlobals mg → FnG P w K mg base CX n fn data [x] sp) (binds : ∀ (s : Shared) (u : Value), BindsTo s data ⟨[u], []⟩ [(x, u)])
    (told : sp [.ref script] G (fun v _ => v = .bl true) fun _ _ _ => False) (quiet : ∀ e s', CX [] G st (fun _ _ _ => False) e s' → False)
    (only : Only G) (held : HOk P w G st.heap) (one : ∀ b, G b ≠ none → b = script) (apart : G script ≠ none → K.lookup script = none) :
    codeAny (model P w) callerA (.call (.ref fn) ⟨[.ref script], []⟩) (fun r s' => r = .ok (.ret (.bool true)) ∧ OldK st.heap s'.heap ∧ s'.os = st.os ∧ AllBare s'.gens) st := by
  have free_of : ∀ {b : Addr}, b ≠ script → G b = none := by
    intro b hb
    apply Classical.byContradiction
    intro q
    exact hb (one b q)
  have dict_free : ∀ {b : Addr} {o : Obj} {es : Array DictEntry} {ep : Nat}, st.heap.get? b = some o → o.data = .dict es ep → G b = none := by
    intro b o es ep e d
    apply free_of
    intro z
    subst z
    rw [there] at e
    injection e with e
    subst e
    exact nomatch d
  have ns_in : ∀ {b : Addr} {m : Str → Option Value}, st.heap.Ns b m → (hidT st.heap G).Ns b m := by
    intro b m h
    obtain ⟨o, es, ep, e, d, more⟩ := h
    exact ⟨o, es, ep, hidT_get e (dict_free e d), d, more⟩
  have inB : K.In (hidT st.heap G) := by
    intro b o e
    refine hidT_get (inK b o e) ?_
    by_cases hb : b = script
    · subst hb
      apply Classical.byContradiction
      intro q
      rw [apart q] at e
      exact nomatch e
    · exact free_of hb
  have ground : Mod K mg (hidT st.heap G) := by
    obtain ⟨mc, l1, l2⟩ := lim
    exact ⟨inB, ns_in glob, ⟨mb, ns_in blt, are⟩, ⟨mc, ns_in l1, l2⟩⟩
  have e0 : Env0 P w K mg (hidT st.heap G) callerA [] st G :=
    ⟨rfl, ground, fun b o => of_hidT, Nat.le_of_eq (hidT_size _ _), True.intro, fun b z => (List.not_mem_nil z).elim, held, .of_eq nogen⟩
  apply codeAny_mono ((F _ inB (ns_in glob)).go callerA [] st G ⟨[.ref script], []⟩ [.ref script] [.ref script] _ _ rfl room e0 (binds st (.ref script)) (.cons rfl .nil) told)
  intro r s' h
  match r, h with
  | .error e, h => exact (quiet e s' h).elim
  | .ok .next, h => exact h.elim
  | .ok .brk, h => exact h.elim
  | .ok .cont, h => exact h.elim
  | .ok (.ret u), ⟨v, G', sameOs, bare, un, held', rv, yes⟩ =>
    subst yes
    cases (show u = Value.bool true from rv)
    refine ⟨rfl, OldK.of_keep ?_, sameOs, bare⟩
    intro b o e
    rcases only b with q | ⟨ob, xs, q⟩
    · exact un.keep b o e q List.not_mem_nil List.not_mem_nil
    · have h1 := (held b _ q).1
      have h2 := (held' b _ (un.frzs b ob _ q)).1
      rw [h2]
      exact h1.symm.trans e
theorem lawG (inK : K.In st.heap) (glob : st.heap.Ns mainGlobals mg) (blt : st.heap.Ns builtinsNs mb) (are : ∀ y : Str, y ≠ "__name__" → mb y = bootBuiltins y) (lim : st.heap.NoLimit) (nogen : st.gens = #[])
    (there : st.heap.get? script = some { cls := .type "list", data := .seq items.toArray }) (wholes : IntsAre items ns) (line : ns.length ≤ sizeLine) (room : Room n callerA)
    (F : ∀ base : Heap, K.In base → base.Ns mainGlobals mg → FnG P w K mg base CX n fn data [x] sp) (binds : ∀ (s : Shared) (u : Value), BindsTo s data ⟨[u], []⟩ [(x, u)])
    (told : ∀ G : Hp, Only G → SqL K G script (ns.map V.int) → sp [.ref script] G (fun v _ => v = .bl true) fun _ _ _ => False) (quiet : ∀ G e s', CX [] G st (fun _ _ _ => False) e s' → False) :
    codeAny (model P w) callerA (.call (.ref fn) ⟨[.ref script], []⟩) (fun r s' => r = .ok (.ret (.bool true)) ∧ OldK st.heap s'.heap ∧ s'.os = st.os ∧ AllBare s'.gens) st := by
  have rel := vals_ints wholes
  cases own : K.lookup script with
  | none =>
    have only : Only (scriptAt script items ns) := by
      intro b
      by_cases hb : b = script
      · rw [hb]
        exact .inr ⟨_, _, scriptAt_same⟩
      · exact .inl (scriptAt_ne hb)
    refine lawG_at _ inK glob blt are lim nogen there room F binds (told _ only (.inl (.inr ⟨_, scriptAt_same⟩))) (quiet _) only ?_ ?_ (fun _ => own)
    · intro b u z
      by_cases hb : b = script
      · rw [hb, scriptAt_same] at z
        cases z
        rw [hb]
        exact ⟨there, by rw [List.length_map]; exact line, items, _, rel, there⟩
      · exact nomatch (scriptAt_ne hb).symm.trans z
    · intro b z
      apply Classical.byContradiction
      intro hb
      exact z (scriptAt_ne hb)
  | some o =>
    cases (inK script o own).symm.trans there
    have only : Only (fun _ => none) := fun _ => .inl rfl
    refine lawG_at _ inK glob blt are lim nogen there room F binds (told _ only (.inr ?_)) (quiet _) only (fun _ _ z => nomatch z) (fun _ z => (z rfl).elim) (fun z => (z rfl).elim)
    have size := wholes.length
    exact ⟨_, items.toArray, _, own, rfl, rfl, rfl, by rw [List.size_toArray, size]; exact line, by simpa using rel⟩
end
/-- the goal that the head leaves, from the law's promise -/
theorem walkG {l : PySem.W.OpenLaw} {most n : Nat} {q : Program} {loose : List Str} {XP : (Str → Option Value) → Heap → Prop} {YP : World → Heap → Prop} {d : DefRec} {K : Params → PySem.W.Frag} {CX : CXT} {sp : PySem.W.Frag → Sp} {x : Str}
    (hm : l.most = some most) (hl : most ≤ sizeLine) (hdf : d.params.defaults = []) (room : Room n callerA) (hY : ∀ (w : World) (h : Heap), YP w h → (K w.params).In h)
    (F : ∀ (w : World) (mg : Str → Option Value) (fn : Addr) (h : Heap), (K w.params).In h → h.Ns mainGlobals mg → mg d.name = some (.ref fn) →
      ∃ data : FuncData, (∀ (s : Shared) (u : Value), BindsTo s data ⟨[u], []⟩ [(x, u)]) ∧ ∀ base : Heap, (K w.params).In base → base.Ns mainGlobals mg → FnG l.prog w (K w.params) mg base CX n fn data [x] (sp (K w.params)))
    (told : ∀ (K : PySem.W.Frag) (G : Hp) (a : Addr) (ns : List Int), ns.length ≤ most → Only G → SqL K G a (ns.map V.int) → sp K [.ref a] G (fun v _ => v = .bl true) fun _ _ _ => False)
    (quiet : ∀ (G : Hp) (s : Shared) (e : Value) (s' : Shared), CX [] G s (fun _ _ _ => False) e s' → False) : PySem.W.WalkO q loose XP YP l.row.toRowW d [] (fun f vs => PySem.call f vs) := by
  apply Att.attach_call hm hdf
  intro w s₀ st mg mb fn o pm cd doc a items ns ground more _ _ _ named there wholes short nogen
  obtain ⟨data, binds, ok⟩ := F w mg fn _ (hY w _ more) ground.T.g named
  exact lawG (hY w _ more) ground.T.g ground.T.b ground.T.builtins ground.T.nolimit nogen there wholes (Nat.le_trans short hl) room ok binds (fun G => told _ G a ns short) (fun G e s' => quiet G st e s')
end RG
namespace RG
open PySem PySem.Spec PyProof.Rows L2
/-! ### repr of data -/
def keyD : Key → PyData
  | .inl i => .int i
  | .inr x => .str x
mutual
/-- v is data, as repr reads it -/
inductive Rp (K : PySem.W.Frag) (G : Hp) : V → PyData → Prop
  | non : Rp K G .non .none
  | bl (b : Bool) : Rp K G (.bl b) (.bool b)
  | int (i : Int) : Rp K G (.int i) (.int i)
  | str (x : Str) : Rp K G (.str x) (.str x)
  | lst {a : Addr} {xs : List V} {ds : List PyData} : SqL K G a xs → RpAll K G xs ds → a ≠ sysModules → Rp K G (.ref a) (.list ds)
  | tup {a : Addr} {xs : List V} {ds : List PyData} : SqT K G a xs → RpAll K G xs ds → Rp K G (.ref a) (.tuple ds)
  | dic {a : Addr} {kvs : List (Key × V)} {ps : List (PyData × PyData)} : G a = some (.dK kvs) → ps.map (·.1) = kvs.map (fun p => keyD p.1) → RpAll K G (kvs.map (·.2)) (ps.map (·.2)) → Rp K G (.ref a) (.dict ps)
inductive RpAll (K : PySem.W.Frag) (G : Hp) : List V → List PyData → Prop
  | nil : RpAll K G [] []
  | cons {v : V} {vs : List V} {d : PyData} {ds : List PyData} : Rp K G v d → RpAll K G vs ds → RpAll K G (v :: vs) (d :: ds)
end
section
variable {X : Cx} {pins : List (Addr × Obj)} {σ : L2.St} {G : Hp} {st : Shared}
theorem key_reads {h : Heap} {k : Key} {u : Value} (q : keyIs k u = true) : Reads h u (keyD k) [] := by
  rcases keyIs_shape q with ⟨i, t, rfl, rfl⟩ | ⟨x, t, rfl, rfl⟩
  · exact .int i t
  · exact .str x t
theorem keys_read {P : Program} {w : World} {h : Heap} : ∀ {es : List DictEntry} {kvs : List (Key × V)} {vs : List (Key × Value)}, KV kvs vs → Pairs (mixKind P w) es vs → ReadsAll h (es.map (·.key)) (kvs.map fun p => keyD p.1) []
  | [], _, _, r, .nil => by
    cases r
    exact .nil
  | e :: es, _, _, r, .cons hk _ more => by
    cases r with
    | cons r0 r1 =>
      rename_i kv kvs'
      have q := keys_read (h := h) r1 more
      have q0 : Reads h e.key (keyD kv.1) [] := by
        rw [r0.1]
        exact key_reads hk
      exact ReadsAll.cons q0 q
theorem vals_read {P : Program} {w : World} : ∀ {es : List DictEntry} {kvs : List (Key × V)} {vs : List (Key × Value)}, KV kvs vs → Pairs (mixKind P w) es vs → Vals (kvs.map (·.2)) (es.map (·.val))
  | [], _, _, r, .nil => by
    cases r
    exact .nil
  | e :: es, _, _, r, .cons _ hv more => by
    cases r with
    | cons r0 r1 =>
      refine .cons ?_ (vals_read r1 more)
      show L2.RelV _ e.val
      rw [hv]
      exact r0.2
mutual
theorem Rp.reads (I : Inv X pins σ G st) : ∀ (d : PyData) (v : V) (u : Value), Rp X.K G v d → RelV v u → ∃ as, Reads st.heap u d as ∧ sysModules ∉ as
  | .none, _, _, h, r => by
    cases h
    cases r
    exact ⟨_, .none, List.not_mem_nil⟩
  | .bool b, _, _, h, r => by
    cases h
    cases r
    exact ⟨_, .bool b, List.not_mem_nil⟩
  | .int i, _, _, h, r => by
    cases h
    obtain ⟨t, rfl⟩ := r
    exact ⟨_, .int i t, List.not_mem_nil⟩
  | .str x, _, _, h, r => by
    cases h
    obtain ⟨t, rfl⟩ := r
    exact ⟨_, .str x t, List.not_mem_nil⟩
  | .list ds, _, _, h, r => by
    cases h with
    | lst hs ha hn =>
      cases r
      obtain ⟨its, rv, ⟨o, n, ho, hc, _, hd⟩, _⟩ := I.list hs
      obtain ⟨as, q, out⟩ := Rp.readsAll I ds _ its ha rv
      refine ⟨_, .list ho hc hd q, fun m => ?_⟩
      rcases List.mem_cons.mp m with e | m
      · exact hn e.symm
      · exact out m
  | .tuple ds, _, _, h, r => by
    cases h with
    | tup hs ha =>
      cases r
      obtain ⟨its, rv, ⟨o, ho, hc, n, hd⟩, _⟩ := I.tuple hs
      obtain ⟨as, q, out⟩ := Rp.readsAll I ds _ its ha rv
      exact ⟨_, .tuple ho hc hd q, out⟩
  | .dict ps, _, _, h, r => by
    cases h with
    | dic hs hk ha =>
      rename_i a kvs
      cases r
      obtain ⟨_, low, vs, rel, o, es, ep, ho, hc, hd, _, prs, _⟩ := dk_of I.hok hs
      obtain ⟨bs, q, out⟩ := Rp.readsVals I ps _ _ ha (vals_read rel prs)
      have q1 := keys_read (h := st.heap) rel prs
      rw [← hk] at q1
      refine ⟨_, .dict ho hc.1 hd q1 q, fun m => ?_⟩
      have m' : sysModules = a ∨ sysModules ∈ bs := by simpa using m
      rcases m' with e | m'
      · rw [e] at low
        simp at low
      · exact out m'
theorem Rp.readsAll (I : Inv X pins σ G st) : ∀ (ds : List PyData) (vs : List V) (us : List Value), RpAll X.K G vs ds → Vals vs us → ∃ as, ReadsAll st.heap us ds as ∧ sysModules ∉ as
  | [], _, _, h, r => by
    cases h
    cases r
    exact ⟨_, .nil, List.not_mem_nil⟩
  | d :: ds, _, _, h, r => by
    cases h with
    | cons h1 h2 =>
      cases r with
      | cons r1 r2 =>
        obtain ⟨as, q1, o1⟩ := Rp.reads I d _ _ h1 r1
        obtain ⟨bs, q2, o2⟩ := Rp.readsAll I ds _ _ h2 r2
        refine ⟨_, .cons q1 q2, fun m => ?_⟩
        rcases List.mem_append.mp m with m | m
        · exact o1 m
        · exact o2 m
theorem Rp.readsVals (I : Inv X pins σ G st) : ∀ (ps : List (PyData × PyData)) (vs : List V) (us : List Value), RpAll X.K G vs (ps.map (·.2)) → Vals vs us → ∃ as, ReadsAll st.heap us (ps.map (·.2)) as ∧ sysModules ∉ as
  | [], _, _, h, r => by
    cases h
    cases r
    exact ⟨_, .nil, List.not_mem_nil⟩
  | (k, d) :: ps, _, _, h, r => by
    cases h with
    | cons h1 h2 =>
      cases r with
      | cons r1 r2 =>
        obtain ⟨as, q1, o1⟩ := Rp.reads I d _ _ h1 r1
        obtain ⟨bs, q2, o2⟩ := Rp.readsVals I ps _ _ h2 r2
        refine ⟨_, .cons q1 q2, fun m => ?_⟩
        rcases List.mem_append.mp m with m | m
        · exact o1 m
        · exact o2 m
end
end
section
variable {X : Cx} {k : Nat}
/-- repr(x), x data, where nothing of repr runs around -/
theorem call_repr (hg : X.A.guards = some []) (hr : Room k X.A) : CallR X (.builtin "repr") (fun xs G Want => ∃ v d, xs = [v] ∧ Rp X.K G v d ∧ d.showable = true ∧ d.depth ≤ 64 ∧ d.shown.length ≤ sizeLine ∧ Want (.str d.shown) G) := by
  intro pins st σ G ys ws Want I rel told
  obtain ⟨v, d, rfl, hd, sh, dp, sz, q⟩ := told
  obtain ⟨u, rfl, ru⟩ := vals1 rel
  have room := hr.un
  cases hd with
  | non =>
    cases ru
    refine PySem.P.repr_of_none ⟨.str _, G, I.tok _, ⟨_, rfl⟩, ?_⟩
    simpa only [PyData.shown] using q
  | bl b =>
    cases ru
    refine PySem.P.repr_of_bool ⟨.str _, G, I.tok _, ⟨_, rfl⟩, ?_⟩
    simpa only [PyData.shown] using q
  | int i =>
    obtain ⟨t, rfl⟩ := ru
    have small : i.natAbs.log2 < 1920 := by simpa [PyData.showable] using sh
    refine PySem.P.repr_of_int small ⟨.str _, G, I.tok _, ⟨_, rfl⟩, ?_⟩
    simpa only [PyData.shown] using q
  | str x =>
    obtain ⟨t, rfl⟩ := ru
    have short : (reprText x).length ≤ sizeLine := by simpa only [PyData.shown] using sz
    refine PySem.P.repr_of_str ⟨.str _, G, I.tok _, ⟨_, rfl⟩, ?_⟩ short
    simpa only [PyData.shown] using q
  | lst a b c =>
    cases ru
    obtain ⟨as, rd, out⟩ := Rp.reads I _ _ _ (.lst a b c) rfl
    exact repr_of_reads' rd sh (fun _ => out) hg (by omega) (fun _ _ z => z) (fun h' t tk keep => ⟨.str _, G, I.kept keep, ⟨_, rfl⟩, q⟩) sz
  | tup a b =>
    cases ru
    obtain ⟨as, rd, out⟩ := Rp.reads I _ _ _ (.tup a b) rfl
    exact repr_of_reads' rd sh (fun _ => out) hg (by omega) (fun _ _ z => z) (fun h' t tk keep => ⟨.str _, G, I.kept keep, ⟨_, rfl⟩, q⟩) sz
  | dic a b c =>
    cases ru
    obtain ⟨as, rd, out⟩ := Rp.reads I _ _ _ (.dic a b c) rfl
    exact repr_of_reads' rd sh (fun _ => out) hg (by omega) (fun _ _ z => z) (fun h' t tk keep => ⟨.str _, G, I.kept keep, ⟨_, rfl⟩, q⟩) sz
/-- a list that is laid stands behind the modules' dict -/
def tLstB (t : TA) : TE := fun σ G Want => t σ G fun xs G1 => xs.length ≤ sizeLine ∧ ∀ p, G1 p = none → p ≠ sysModules → Want (.ref p) (upd G1 p (.lst xs))
theorem pe_lstB {es : List Expr} {t : TA} {pos : Pos} (h : PA X es t) : PE X (.List es pos) (tLstB t) := by
  constructor
  intro pins st σ G Want I told
  apply wpAny_List_spliced
  refine thn (h.run pos pins st σ G _ I told) fun ws s1 behind => ?_
  obtain ⟨xs, G1, I1, rel, line, q⟩ := behind
  refine ⟨by rw [← rel.length]; exact line, ?_⟩
  have free := I1.hok.fresh (Nat.le_refl s1.heap.objs.size)
  have laid : ObjOk X.prog X.w (upd G1 s1.heap.objs.size (.lst xs)) (s1.heap.push { cls := .type "list", data := .seq ws.toArray }) s1.heap.objs.size (.lst xs) := ⟨line, ws, 0, rel, Heap.get?_push_size _ rfl⟩
  exact ⟨.ref s1.heap.objs.size, _, I1.laid (t' := s1.toks) (fun _ _ z => Heap.get?_push_of_some _ z) (Nat.le_refl _) laid, rfl, q _ free (Nat.ne_of_gt I1.big)⟩
end
end RG

set_option Elab.async false
set_option linter.all false
set_option maxRecDepth 100000
/-! New lists and tuples over a heap that is not written out. -/
namespace Ab
open PySem PySem.Spec L2
/-- (e, ..), [e, ..], a + b: what is laid stands at p, all else as before -/
def tTupA (ta : TA) : TE := fun σ G Want => ta σ G fun xs G1 => xs.length ≤ sizeLine ∧ ∀ p G2, G1 p = none → Same G1 G2 → G2 p = some (.tup xs) → Want (.ref p) G2
def tLstA (ta : TA) : TE := fun σ G Want => ta σ G fun xs G1 => xs.length ≤ sizeLine ∧ ∀ p G2, G1 p = none → p ≠ sysModules → Same G1 G2 → G2 p = some (.lst xs) → Want (.ref p) G2
theorem same_up {G : Hp} {p : Addr} {o : HO} (h : G p = none) : Same G (upd G p o) := fun b u q => by
  rw [upd_ne (ne_of_none q h)]
  exact q
section
variable {X : Cx} {es : List Expr} {ta : TA} {pos : Pos}
theorem pe_tupA {k} (h : PA X es ta) : PE X (.Tuple es k pos) (tTupA ta) := by
  constructor
  intro pins st σ G Want I told
  apply wpAny_Tuple_spliced
  refine thn (h.run pos pins st σ G _ I told) fun ws s1 behind => ?_
  obtain ⟨xs, G1, I1, rel, line, q⟩ := behind
  refine ⟨by rw [← rel.length]; exact line, ?_⟩
  have free := I1.hok.fresh (Nat.le_refl s1.heap.objs.size)
  have laid : ObjOk X.prog X.w (upd G1 s1.heap.objs.size (.tup xs)) (s1.heap.push { cls := .type "tuple", data := .seq ws.toArray }) s1.heap.objs.size (.tup xs) := ⟨line, ws, rel, ⟨_, Heap.get?_push_size _ rfl, rfl, _, rfl⟩⟩
  exact ⟨.ref s1.heap.objs.size, _, I1.laid (t' := s1.toks) (fun _ _ z => Heap.get?_push_of_some _ z) (Nat.le_refl _) laid, rfl, q _ _ free (same_up free) upd_same⟩
theorem pe_lstA (h : PA X es ta) : PE X (.List es pos) (tLstA ta) := by
  constructor
  intro pins st σ G Want I told
  apply wpAny_List_spliced
  refine thn (h.run pos pins st σ G _ I told) fun ws s1 behind => ?_
  obtain ⟨xs, G1, I1, rel, line, q⟩ := behind
  refine ⟨by rw [← rel.length]; exact line, ?_⟩
  have free := I1.hok.fresh (Nat.le_refl s1.heap.objs.size)
  have laid : ObjOk X.prog X.w (upd G1 s1.heap.objs.size (.lst xs)) (s1.heap.push { cls := .type "list", data := .seq ws.toArray }) s1.heap.objs.size (.lst xs) := ⟨line, ws, 0, rel, Heap.get?_push_size _ rfl⟩
  exact ⟨.ref s1.heap.objs.size, _, I1.laid (t' := s1.toks) (fun _ _ z => Heap.get?_push_of_some _ z) (Nat.le_refl _) laid, rfl, q _ _ free (Nat.ne_of_gt I1.big) (same_up free) upd_same⟩
end
/-- {}: abstract -/
def tDicA : TE := fun _ G Want => ∀ p G2, G p = none → Same G G2 → G2 p = some (.dK []) → Want (.ref p) G2
theorem pe_dicA {X : Cx} {pos : Pos} : PE X (.Dict [] [] pos) tDicA := ⟨fun pins st σ G Want I told => (pe_dnewK (X := X) (pos := pos)).run pins st σ G Want I fun p h => told p _ h (same_up h) upd_same⟩
/-- xs + ys, two lists -/
def rCatA : R2 := fun x y G Want => ∃ l b xs zs, x = .ref l ∧ y = .ref b ∧ G l = some (.lst xs) ∧ G b = some (.lst zs) ∧ xs.length + zs.length ≤ sizeLine ∧ ∀ p G2, G p = none → Same G G2 → G2 p = some (.lst (xs ++ zs)) → Want (.ref p) G2
theorem op_catA {X : Cx} : OpR X (binaryOp .Add) rCatA := fun pins st σ G x y v u Want I rx ry ⟨l, b, xs, zs, ex, ey, hl, hb, hz, q⟩ =>
  op_cat pins st σ G x y v u Want I rx ry ⟨l, b, xs, zs, ex, ey, hl, hb, hz, fun p h => q p _ h (same_up h) upd_same⟩
end Ab

set_option Elab.async false
set_option linter.all false
set_option maxRecDepth 100000
/-! Data that stand beside the pen. -/
namespace Dat
open PySem PySem.Spec L2 RG Pen
theorem sz {n : Nat} (h : n ≤ 99) : n ≤ sizeLine := Nat.le_trans h (by decide)
theorem szl {n : Nat} (h : n ≤ 99) : n < sizeLine := Nat.lt_of_le_of_lt h (by decide)
def delp (p : Addr) (G : Hp) : Hp := fun b => if b = p then none else G b
theorem delp_ne {p b : Addr} {G : Hp} (h : b ≠ p) : delp p G b = G b := if_neg h
theorem delp_same {p : Addr} {G G1 : Hp} (s : SameX p G G1) : Same (delp p G) (delp p G1) := fun b o h => by
  by_cases hb : b = p
  · subst hb
    have h' : (if b = b then none else G b) = some o := h
    rw [if_pos rfl] at h'
    cases h'
  · rw [delp_ne hb] at h ⊢
    exact s b o hb h
theorem delp_le {p : Addr} {G : Hp} : Same (delp p G) G := fun b o h => by
  by_cases hb : b = p
  · have h' : (if b = p then none else G b) = some o := h
    rw [if_pos hb] at h'
    cases h'
  · rw [delp_ne hb] at h
    exact h
theorem sqT_same {K : PySem.W.Frag} {G G1 : Hp} {a : Addr} {xs : List V} (s : Same G G1) (h : SqT K G a xs) : SqT K G1 a xs := by
  rcases h with (h | ⟨o, h⟩) | h
  · exact .inl (.inl (s _ _ h))
  · exact .inl (.inr ⟨o, s _ _ h⟩)
  · exact .inr h
mutual
theorem Rp.same {K : PySem.W.Frag} {G G1 : Hp} (s : Same G G1) : ∀ {d : PyData} {v : V}, Rp K G v d → Rp K G1 v d
  | .none, _, .non => .non
  | .bool _, _, .bl b => .bl b
  | .int _, _, .int i => .int i
  | .str _, _, .str x => .str x
  | .list _, _, .lst h r n => .lst (s.seq h) (RpAll.same s r) n
  | .tuple _, _, .tup h r => .tup (sqT_same s h) (RpAll.same s r)
  | .dict ps, _, .dic h k r => .dic (s _ _ h) k (RpAll.sameV s (ps := ps) r)
theorem RpAll.same {K : PySem.W.Frag} {G G1 : Hp} (s : Same G G1) : ∀ {ds : List PyData} {vs : List V}, RpAll K G vs ds → RpAll K G1 vs ds
  | [], _, .nil => .nil
  | _ :: _, _, .cons h r => .cons (Rp.same s h) (RpAll.same s r)
theorem RpAll.sameV {K : PySem.W.Frag} {G G1 : Hp} (s : Same G G1) : ∀ {ps : List (PyData × PyData)} {vs : List V}, RpAll K G vs (ps.map (·.2)) → RpAll K G1 vs (ps.map (·.2))
  | [], _, .nil => .nil
  | (_, _) :: _, _, .cons h r => .cons (Rp.same s h) (RpAll.sameV s r)
end
theorem RpAll.append {K : PySem.W.Frag} {G : Hp} : ∀ {vs ws : List V} {ds es : List PyData}, RpAll K G vs ds → RpAll K G ws es → RpAll K G (vs ++ ws) (ds ++ es)
  | _, _, _, _, .nil, r => r
  | _, _, _, _, .cons h t, r => .cons h (RpAll.append t r)
theorem RpAll.mem {K : PySem.W.Frag} {G : Hp} {v : V} : ∀ {vs : List V} {ds : List PyData}, RpAll K G vs ds → v ∈ vs → ∃ d, d ∈ ds ∧ Rp K G v d
  | _, _, .nil, h => by cases h
  | _, _, .cons h t, m => by
    rcases List.mem_cons.mp m with e | m
    · subst e
      exact ⟨_, List.mem_cons_self .., h⟩
    · obtain ⟨d, hd, r⟩ := RpAll.mem t m
      exact ⟨d, List.mem_cons_of_mem _ hd, r⟩
end Dat

set_option Elab.async false
set_option linter.all false
set_option maxRecDepth 100000
set_option maxHeartbeats 1000000
/-! Any data beside a text: ==, !=, in. -/
namespace KEq
open PySem PySem.Spec L2 RG Pen Dat PySem.SeqAt PySem.MeetsSeq
open AutoSeq1 (wpAny_loadPart')
theorem dict_eq_no (l : Addr) (es : Array DictEntry) (ep : Nat) (dd : Option Addr) (sl : Array (Option Value)) (b : Str) (u : Tok) :
    Meets (Builtin.«dict.__eq__» ⟨[.ref l, .str b u], []⟩) (fun _ R s => s.heap.get? l = some { cls := .type "dict", dict := dd, data := .dict es ep, slots := sl } ∧ R (.ok (.ret .notImplemented)) s) :=
  .of_wp fun prog w A R s h => by
    obtain ⟨hp, g, d, tk, os⟩ := s
    obtain ⟨hl, h⟩ := h
    have f1 := F.sub_str_dict
    wp_walk using wpAny_loadPart' hl, wpAny_load hl
    exact ⟨_, rfl, h⟩
theorem str_eq_dict (b : Str) (u : Tok) (l : Addr) (es : Array DictEntry) (ep : Nat) (dd : Option Addr) (sl : Array (Option Value)) :
    Meets (Builtin.«str.__eq__» ⟨[.str b u, .ref l], []⟩) (fun _ R s => s.heap.get? l = some { cls := .type "dict", dict := dd, data := .dict es ep, slots := sl } ∧ R (.ok (.ret .notImplemented)) s) :=
  .of_wp fun prog w A R s h => by
    obtain ⟨hp, g, d, tk, os⟩ := s
    obtain ⟨hl, h⟩ := h
    wp_walk using wpAny_loadPart' hl, wpAny_load hl
    exact ⟨_, rfl, h⟩
theorem dict_ne_no (l : Addr) (es : Array DictEntry) (ep : Nat) (dd : Option Addr) (sl : Array (Option Value)) (b : Str) (u : Tok) :
    Meets (Builtin.«dict.__ne__» ⟨[.ref l, .str b u], []⟩) (fun _ R s => s.heap.get? l = some { cls := .type "dict", dict := dd, data := .dict es ep, slots := sl } ∧ R (.ok (.ret .notImplemented)) s) :=
  .of_wp fun prog w A R s h => by
    obtain ⟨hp, g, d, tk, os⟩ := s
    obtain ⟨hl, h⟩ := h
    have f1 := F.sub_str_dict
    wp_walk using wpAny_loadPart' hl, wpAny_load hl
    exact ⟨_, rfl, h⟩
theorem str_ne_dict (b : Str) (u : Tok) (l : Addr) (es : Array DictEntry) (ep : Nat) (dd : Option Addr) (sl : Array (Option Value)) :
    Meets (Builtin.«str.__ne__» ⟨[.str b u, .ref l], []⟩) (fun _ R s => s.heap.get? l = some { cls := .type "dict", dict := dd, data := .dict es ep, slots := sl } ∧ R (.ok (.ret .notImplemented)) s) :=
  .of_wp fun prog w A R s h => by
    obtain ⟨hp, g, d, tk, os⟩ := s
    obtain ⟨hl, h⟩ := h
    wp_walk using wpAny_loadPart' hl, wpAny_load hl
    exact ⟨_, rfl, h⟩
section
variable {A : Around} {s : Shared} {l : Addr} {es : Array DictEntry} {ep : Nat} {dd : Option Addr} {sl : Array (Option Value)}
theorem rc_dict_str (b : Str) (u : Tok) (ho : s.heap.get? l = some { cls := .type "dict", dict := dd, data := .dict es ep, slots := sl }) (hu : A.units < cLine) : RcAt A s (.ref l) (.str b u) false := fun prog w E Q h =>
  rc_eq_decline_or (k := false) ⟨_, ho, rfl⟩ (typeIs_str s b u) (by decide) F.sub_str_dict F.slot_dict_eq F.slot_str_eq_refl
    (fun _ hq => call_meets F.slot_dict_eq ⟨_, ho, rfl⟩ F.entry_dict_eq (F.args_dict_eq_2 _ _) (dict_eq_no l es ep dd sl b u) ⟨ho, hq⟩)
    (fun _ hq => call_meets F.slot_str_eq_refl (typeIs_str s b u) F.entry_str_eq (F.args_str_eq_2 _ _) (str_eq_dict b u l es ep dd sl) ⟨ho, hq⟩)
    (fun _ hq => wpAny_of_eq (rfl : isSame (.ref l) (.str b u) = pure false) hq) (.inr hu) h
theorem rc_str_dict (b : Str) (u : Tok) (ho : s.heap.get? l = some { cls := .type "dict", dict := dd, data := .dict es ep, slots := sl }) (hu : A.units < cLine) : RcAt A s (.str b u) (.ref l) false := fun prog w E Q h =>
  rc_eq_decline_or (k := false) (typeIs_str s b u) ⟨_, ho, rfl⟩ (by decide) F.sub_dict_str F.slot_str_eq F.slot_dict_eq_refl
    (fun _ hq => call_meets F.slot_str_eq (typeIs_str s b u) F.entry_str_eq (F.args_str_eq_2 _ _) (str_eq_dict b u l es ep dd sl) ⟨ho, hq⟩)
    (fun _ hq => call_meets F.slot_dict_eq_refl ⟨_, ho, rfl⟩ F.entry_dict_eq (F.args_dict_eq_2 _ _) (dict_eq_no l es ep dd sl b u) ⟨ho, hq⟩)
    (fun _ hq => wpAny_of_eq (rfl : isSame (.str b u) (.ref l) = pure false) hq) (.inr hu) h
theorem at_str_dict (b : Str) (u : Tok) (ho : s.heap.get? l = some { cls := .type "dict", dict := dd, data := .dict es ep, slots := sl }) (hu : A.units < cLine) : EqAt A s (.str b u) (.ref l) false := fun prog w E Q h => by
  unfold eqBool
  refine wpAny_holding ?_
  refine wpAny_ite_split (fun hab => absurd (eq_of_beq hab) nofun) (fun _ => ?_)
  exact wpAny_bind (rc_str_dict b u ho hu prog w E _ (wpAny_truthy_bool h))
theorem ne_dict_str (b : Str) (u : Tok) (ho : s.heap.get? l = some { cls := .type "dict", dict := dd, data := .dict es ep, slots := sl }) (hu : A.units < cLine) : RcNeAt A s (.ref l) (.str b u) true := fun prog w E Q h =>
  rc_ne_decline_or (k := false) ⟨_, ho, rfl⟩ (typeIs_str s b u) (by decide) F.sub_str_dict F.slot_dict_ne F.slot_str_ne_refl
    (fun _ hq => call_meets F.slot_dict_ne ⟨_, ho, rfl⟩ F.entry_dict_ne (F.args_dict_ne_2 _ _) (dict_ne_no l es ep dd sl b u) ⟨ho, hq⟩)
    (fun _ hq => call_meets F.slot_str_ne_refl (typeIs_str s b u) F.entry_str_ne (F.args_str_ne_2 _ _) (str_ne_dict b u l es ep dd sl) ⟨ho, hq⟩)
    (fun _ hq => wpAny_of_eq (rfl : isSame (.ref l) (.str b u) = pure false) hq) (.inr hu) h
end
/-- the text z -/
def isS : PyData → Str → Bool
  | .str x, z => x == z
  | _, _ => false
section
variable {X : Cx} {pins : List (Addr × Obj)} {σ : L2.St} {G : Hp} {st : Shared}
theorem dict_at {a : Addr} {kvs : List (Key × V)} (I : Inv X pins σ G st) (e : G a = some (.dK kvs)) : ∃ dd es ep sl, st.heap.get? a = some { cls := .type "dict", dict := dd, data := .dict es ep, slots := sl } := by
  obtain ⟨_, _, vs, _, o, es, ep, h1, h2, h3, _⟩ := (show ObjOk X.prog X.w G st.heap a (.dK kvs) from I.hok a _ e)
  obtain ⟨oc, od, dt, sl⟩ := o
  have h4 : oc = .type "dict" := h2.1
  have h5 : dt = .dict es ep := h3
  subst h4 h5
  exact ⟨_, _, _, _, h1⟩
theorem rp_rc {A : Around} (hu : A.units < cLine) (I : Inv X pins σ G st) {v : V} {u : Value} {d : PyData} (r : Rp X.K G v d) (ru : RelV v u) (z : Str) (t : Tok) : RcAt A st u (.str z t) (isS d z) := by
  cases r with
  | non =>
    cases ru
    exact RcAt.none_str z t
  | bl b =>
    cases ru
    exact RcAt.bool_str b z t
  | int i =>
    obtain ⟨t2, rfl⟩ := ru
    exact RcAt.int_str i t2 z t
  | str x =>
    obtain ⟨t2, rfl⟩ := ru
    exact RcAt.str_str x t2 z t
  | lst a b c =>
    cases ru
    obtain ⟨its, r, pl, hz⟩ := I.list a
    exact RcAt.list_str z t pl.isList hu
  | tup a b =>
    cases ru
    obtain ⟨its, r, pl, hz⟩ := I.tuple a
    exact RcAt.tuple_str z t pl hu
  | dic a b c =>
    cases ru
    obtain ⟨dd, es, ep, sl, o⟩ := dict_at I a
    exact rc_dict_str z t o hu
theorem rp_ne {A : Around} (hu : A.units < cLine) (I : Inv X pins σ G st) {v : V} {u : Value} {d : PyData} (r : Rp X.K G v d) (ru : RelV v u) (z : Str) (t : Tok) : RcNeAt A st u (.str z t) (!isS d z) := by
  cases r with
  | non =>
    cases ru
    exact RcNeAt.none_str z t
  | bl b =>
    cases ru
    exact RcNeAt.bool_str b z t
  | int i =>
    obtain ⟨t2, rfl⟩ := ru
    exact RcNeAt.int_str i t2 z t
  | str x =>
    obtain ⟨t2, rfl⟩ := ru
    exact RcNeAt.str_str x t2 z t
  | lst a b c =>
    cases ru
    obtain ⟨its, r, pl, hz⟩ := I.list a
    exact RcNeAt.list_str z t pl.isList hu
  | tup a b =>
    cases ru
    obtain ⟨its, r, pl, hz⟩ := I.tuple a
    exact RcNeAt.tuple_str z t pl hu
  | dic a b c =>
    cases ru
    obtain ⟨dd, es, ep, sl, o⟩ := dict_at I a
    exact ne_dict_str z t o hu
theorem beq_swap (x z : Str) : (z == x) = (x == z) := by
  rw [Bool.eq_iff_iff, beq_iff_eq, beq_iff_eq]
  exact eq_comm
theorem rp_at {A : Around} (hu : A.units < cLine) (I : Inv X pins σ G st) {v : V} {u : Value} {d : PyData} (r : Rp X.K G v d) (ru : RelV v u) (z : Str) (t : Tok) : EqAt A st (.str z t) u (isS d z) := by
  cases r with
  | non =>
    cases ru
    exact EqAt.str_none z t
  | bl b =>
    cases ru
    exact EqAt.str_bool z t b
  | int i =>
    obtain ⟨t2, rfl⟩ := ru
    exact EqAt.str_int z t i t2
  | str x =>
    obtain ⟨t2, rfl⟩ := ru
    have := EqAt.str_str (A := A) (s := st) z t x t2
    rw [beq_swap] at this
    exact this
  | lst a b c =>
    cases ru
    obtain ⟨its, r, pl, hz⟩ := I.list a
    exact EqAt.str_list z t pl.isList hu
  | tup a b =>
    cases ru
    obtain ⟨its, r, pl, hz⟩ := I.tuple a
    exact EqAt.str_tuple z t pl hu
  | dic a b c =>
    cases ru
    obtain ⟨dd, es, ep, sl, o⟩ := dict_at I a
    exact at_str_dict z t o hu
end
/-- d == 'z', d != 'z' -/
def rEqS (K : PySem.W.Frag) : R2 := fun x y G Want => ∃ d z, Rp K G x d ∧ y = .str z ∧ Want (.bl (isS d z)) G
def rNeS (K : PySem.W.Frag) : R2 := fun x y G Want => ∃ d z, Rp K G x d ∧ y = .str z ∧ Want (.bl (!isS d z)) G
theorem op_eqS {X : Cx} (hu : X.A.units + 1 < cLine) : OpR X (compareOp .Eq) (rEqS X.K) := by
  intro pins st σ G x y v u Want I rx ry h
  obtain ⟨d, z, r, rfl, q⟩ := h
  obtain ⟨t, rfl⟩ := ry
  exact rp_rc (Nat.lt_of_succ_lt hu) I r rx z t _ _ _ _ ⟨.bl _, G, I, rfl, q⟩
theorem op_neS {X : Cx} (hu : X.A.units + 1 < cLine) : OpR X (compareOp .NotEq) (rNeS X.K) := by
  intro pins st σ G x y v u Want I rx ry h
  obtain ⟨d, z, r, rfl, q⟩ := h
  obtain ⟨t, rfl⟩ := ry
  exact rp_ne (Nat.lt_of_succ_lt hu) I r rx z t _ _ _ _ ⟨.bl _, G, I, rfl, q⟩
/-- d in a tuple of texts -/
def rInS (K : PySem.W.Frag) : R2 := fun x y G Want => ∃ (d : PyData) (p : Addr) (zs : List Str), Rp K G x d ∧ y = .ref p ∧ SqT K G p (zs.map V.str) ∧ Want (.bl (zs.any fun z => isS d z)) G
theorem any_texts {d : PyData} : ∀ {zs : List Str} {us : List Value}, Vals (zs.map V.str) us → (us.any fun u => match u with | .str z _ => isS d z | _ => false) = zs.any fun z => isS d z
  | [], _, .nil => rfl
  | z :: zs, _, .cons r t => by
    obtain ⟨k, rfl⟩ := r
    rw [List.any_cons, List.any_cons, any_texts t]
theorem texts_are : ∀ {zs : List Str} {us : List Value}, Vals (zs.map V.str) us → ∀ u ∈ us, ∃ z t, u = .str z t
  | [], _, .nil => fun u hu => by cases hu
  | z :: zs, _, .cons r t => fun u hu => by
    obtain ⟨k, rfl⟩ := r
    rcases List.mem_cons.mp hu with e | m
    · exact ⟨z, k, e⟩
    · exact texts_are t u m
theorem op_inS {X : Cx} (hu : X.A.units + 1 < cLine) : OpR X (compareOp .In) (rInS X.K) := by
  intro pins st σ G x y v u Want I rx ry h
  obtain ⟨d, p, zs, r, rfl, hq, q⟩ := h
  cases ry
  obtain ⟨its, rl, pl, hz⟩ := I.tuple hq
  refine SeqAt.in_tupleAt (fun u => match u with | .str z _ => isS d z | _ => false) pl (fun w hw => ?_) ⟨.bl _, G, I, rfl, ?_⟩
  · obtain ⟨z, t, rfl⟩ := texts_are rl w (by simpa using hw)
    exact rp_at (A := X.A.in1) (show X.A.units + 1 < cLine from hu) I r rx z t
  · rw [show its.toArray.any (fun u => match u with | .str z _ => isS d z | _ => false) = its.any (fun u => match u with | .str z _ => isS d z | _ => false) by simp, any_texts rl]
    exact q

end KEq

set_option Elab.async false
set_option linter.all false
set_option maxRecDepth 100000
set_option maxHeartbeats 1000000
namespace KEq
open PySem PySem.Spec L2 RG Pen Dat
/-! ### what kind a value is -/
def typeD : PyData → String
  | .none => "NoneType" | .bool _ => "bool" | .int _ => "int" | .str _ => "str" | .list _ => "list" | .tuple _ => "tuple" | .dict _ => "dict"
def isTup : PyData → Bool
  | .tuple _ => true
  | _ => false
def isStr : PyData → Bool
  | .str _ => true
  | _ => false
def isInt : PyData → Bool
  | .int _ => true | .bool _ => true
  | _ => false
def isBool : PyData → Bool
  | .bool _ => true
  | _ => false
theorem kit_tup {K : PySem.W.Frag} : ∀ d, PySem.W.kitOne K (.type (typeD d)) (.type "tuple") = some (isTup d)
  | .none => kit_ty (show kitB "NoneType" "tuple" = some false by decide +kernel)
  | .bool _ => kit_ty (show kitB "bool" "tuple" = some false by decide +kernel)
  | .int _ => kit_ty (show kitB "int" "tuple" = some false by decide +kernel)
  | .str _ => kit_ty (show kitB "str" "tuple" = some false by decide +kernel)
  | .list _ => kit_ty (show kitB "list" "tuple" = some false by decide +kernel)
  | .tuple _ => kit_ty (show kitB "tuple" "tuple" = some true by decide +kernel)
  | .dict _ => kit_ty (show kitB "dict" "tuple" = some false by decide +kernel)
theorem kit_str {K : PySem.W.Frag} : ∀ d, PySem.W.kitOne K (.type (typeD d)) (.type "str") = some (isStr d)
  | .none => kit_ty (show kitB "NoneType" "str" = some false by decide +kernel)
  | .bool _ => kit_ty (show kitB "bool" "str" = some false by decide +kernel)
  | .int _ => kit_ty (show kitB "int" "str" = some false by decide +kernel)
  | .str _ => kit_ty (show kitB "str" "str" = some true by decide +kernel)
  | .list _ => kit_ty (show kitB "list" "str" = some false by decide +kernel)
  | .tuple _ => kit_ty (show kitB "tuple" "str" = some false by decide +kernel)
  | .dict _ => kit_ty (show kitB "dict" "str" = some false by decide +kernel)
theorem kit_int {K : PySem.W.Frag} : ∀ d, PySem.W.kitOne K (.type (typeD d)) (.type "int") = some (isInt d)
  | .none => kit_ty (show kitB "NoneType" "int" = some false by decide +kernel)
  | .bool _ => kit_ty (show kitB "bool" "int" = some true by decide +kernel)
  | .int _ => kit_ty (show kitB "int" "int" = some true by decide +kernel)
  | .str _ => kit_ty (show kitB "str" "int" = some false by decide +kernel)
  | .list _ => kit_ty (show kitB "list" "int" = some false by decide +kernel)
  | .tuple _ => kit_ty (show kitB "tuple" "int" = some false by decide +kernel)
  | .dict _ => kit_ty (show kitB "dict" "int" = some false by decide +kernel)
theorem kit_bool {K : PySem.W.Frag} : ∀ d, PySem.W.kitOne K (.type (typeD d)) (.type "bool") = some (isBool d)
  | .none => kit_ty (show kitB "NoneType" "bool" = some false by decide +kernel)
  | .bool _ => kit_ty (show kitB "bool" "bool" = some true by decide +kernel)
  | .int _ => kit_ty (show kitB "int" "bool" = some false by decide +kernel)
  | .str _ => kit_ty (show kitB "str" "bool" = some false by decide +kernel)
  | .list _ => kit_ty (show kitB "list" "bool" = some false by decide +kernel)
  | .tuple _ => kit_ty (show kitB "tuple" "bool" = some false by decide +kernel)
  | .dict _ => kit_ty (show kitB "dict" "bool" = some false by decide +kernel)
theorem rp_ty {K : PySem.W.Frag} {G : Hp} {v : V} {d : PyData} (r : Rp K G v d) : TyX K G v (.type (typeD d)) := by
  cases r with
  | non => exact .base .non
  | bl b => exact .base (.bl b)
  | int i => exact .base (.int i)
  | str x => exact .base (.str x)
  | lst a b c =>
    rcases a with (a | ⟨o, a⟩) | ⟨o, _, _, a, b, _⟩
    · exact .base (.lst a)
    · exact .base (.frz a)
    · exact .kList a b
  | tup a b =>
    rcases a with (a | ⟨o, a⟩) | ⟨o, _, _, a, b, _⟩
    · exact .base (.tup a)
    · exact .fTuple a
    · exact .kTuple a b
  | dic a b c => exact .base (.dK a)
/-! ### [.. for c in a text] -/
theorem lc_txt {x : Str} {g : TG} {tt : TT} {te : TE} {vs : List Nat} {σ : L2.St} {H1 : Hp} {D : Addr} {Qd : Hp → Prop} (Pv : Nat → Hp → Prop) (h0 : Pv 0 (upd H1 D (.lst [])))
    (hs : ∀ i c H, x.cps[i]? = some c → Pv i H → g (.str ⟨#[c]⟩) (wipe σ vs) H fun σ2 H2 => wipe σ2 vs = wipe σ vs ∧ tt σ2 H2 fun b H3 =>
      if b = true then te σ2 H3 fun y H4 => ∃ acc, H4 D = some (.lst acc) ∧ acc.length < sizeLine ∧ Pv (i + 1) (upd H4 D (.lst (acc ++ [y]))) else Pv (i + 1) H3) (hd : ∀ H, Pv x.cps.size H → Qd H) :
    ∃ W : Nat → Nat → Hp → Prop, (∃ m, W 0 m (upd H1 D (.lst []))) ∧ ∀ i m H, W i m H →
      ((Its x).stop i H ∧ Qd H) ∨ ((Its x).go i H ∧ ∃ Nx : Hp → Prop, (∀ H', Nx H' → ∃ m', m' < m ∧ W (i + 1) m' H') ∧ ∀ y H', (Its x).yld i H y H' → g y (wipe σ vs) H' fun σ2 H2 => wipe σ2 vs = wipe σ vs ∧ tt σ2 H2 fun b H3 =>
        if b = true then te σ2 H3 fun y H4 => ∃ acc, H4 D = some (.lst acc) ∧ acc.length < sizeLine ∧ Nx (upd H4 D (.lst (acc ++ [y]))) else Nx H3) := by
  refine ⟨fun i m H => m = x.cps.size - i ∧ i ≤ x.cps.size ∧ Pv i H, ⟨x.cps.size, by simp, Nat.zero_le _, h0⟩, ?_⟩
  rintro i m H ⟨rfl, hi, p⟩
  by_cases hlt : i < x.cps.size
  · refine .inr ⟨hlt, Pv (i + 1), fun H' p' => ⟨x.cps.size - (i + 1), by omega, rfl, hlt, p'⟩, fun y H' q => ?_⟩
    obtain ⟨e, c, hc, rfl⟩ := q
    subst e
    exact hs i c _ hc p
  · have e : i = x.cps.size := by omega
    subst e
    exact .inl ⟨Nat.le_refl _, hd H p⟩
end KEq

set_option Elab.async false
set_option linter.all false
set_option maxRecDepth 100000
set_option maxHeartbeats 4000000
/-! tuple * 0, tuple * 1; text * int. -/
namespace KRep
open PySem PySem.Spec L2 PyProof.Rows
open AutoSeq1 (wpAny_loadPart')
theorem times_one (l : Addr) (items : Array Value) (n : Nat) (dd : Option Addr) (sl : Array (Option Value)) (u : Tok) :
    Meets (Builtin.«tuple.__mul__» ⟨[.ref l, .int 1 u], []⟩) (fun _ R s => s.heap.get? l = some { cls := .type "tuple", dict := dd, data := .seq items n, slots := sl } ∧ R (.ok (.ret (Value.ref l))) s) :=
  .of_wp fun pr wo Ar Rr st told => by
    obtain ⟨hp, g, d, tk, os⟩ := st
    obtain ⟨hl, told⟩ := told
    have f1 := AutoSeq1.idx_int
    have f2 : (items.isEmpty || (1 : Int) == 1) = true := by simp
    wp_walk using wpAny_loadPart' hl
    exact ⟨_, rfl, told⟩
theorem times_none (l : Addr) (items : Array Value) (n : Nat) (dd : Option Addr) (sl : Array (Option Value)) (u : Tok) (ne : items.isEmpty = false) :
    Meets (Builtin.«tuple.__mul__» ⟨[.ref l, .int 0 u], []⟩) (fun _ R s => s.heap.get? l = some { cls := .type "tuple", dict := dd, data := .seq items n, slots := sl } ∧
      R (.ok (.ret (Value.ref s.heap.objs.size))) { s with heap := s.heap.push { cls := Value.type "tuple", data := Data.seq #[] }, toks := s.toks }) :=
  .of_wp fun pr wo Ar Rr st told => by
    obtain ⟨hp, g, d, tk, os⟩ := st
    obtain ⟨hl, told⟩ := told
    have f1 := AutoSeq1.idx_int
    have f2 : (items.isEmpty || (0 : Int) == 1) = false := by rw [ne]; rfl
    wp_walk using wpAny_loadPart' hl
    exact ⟨_, rfl, told⟩
/-- t * k, k from 0 on -/
def rRepA (K : PySem.W.Frag) : R2 := fun x y G Want => ∃ (l : Addr) (k : Int) (xs : List V), x = .ref l ∧ y = .int k ∧ SqT K G l xs ∧ xs ≠ [] ∧ 0 ≤ k ∧ k ≤ 1000 ∧ xs.length ≤ 1000 ∧ (k = 1 → Want (.ref l) G) ∧
  (k ≠ 1 → ∀ p, G p = none → Want (.ref p) (upd G p (.tup (List.replicate k.toNat xs).flatten)))
theorem op_repA {X : Cx} : OpR X (binaryOp .Mult) (rRepA X.K) := by
  intro pins st σ G x y v u Want I rx ry h
  obtain ⟨l, k, xs, rfl, rfl, hT, hne, k0, k1, hz, q1, q2⟩ := h
  by_cases big : 2 ≤ k
  · exact op_repT pins st σ G _ _ v u Want I rx ry ⟨l, k, xs, rfl, rfl, hT, hne, big, k1, hz, q2 (by omega)⟩
  cases rx
  obtain ⟨t, rfl⟩ := ry
  obtain ⟨its, r, ⟨⟨oc, od, dt, os⟩, there, hc, n, hd⟩, hs⟩ := I.tuple hT
  have hc' : oc = .type "tuple" := hc
  have hd' : dt = .seq its.toArray n := hd
  subst hc' hd'
  have some_ : its.toArray.isEmpty = false := by
    cases its with
    | nil =>
      cases r
      exact absurd rfl hne
    | cons a b => rfl
  by_cases one : k = 1
  · subst one
    exact wpAny_binaryOp_repeat_ref (T := "tuple") (U := "int") (by decide) ⟨_, there, rfl⟩ (fun s' => typeIs_int s' 1 t) noFill_tuple_mul F.fills_int_mul F.slot_int_rmul repeat_tuple F.slot_int_index.lookup
      (call_meets F.slot_int_rmul (typeIs_int st 1 t) F.entry_int_rmul (F.args_int_rmul_2 _ _) (int_rmul_tuple 1 t l its.toArray n od os)
        ⟨there, rfl, ⟨_, there, rfl⟩, call_meets F.slot_tuple_mul ⟨_, there, rfl⟩ F.entry_tuple_mul (F.args_tuple_mul_2 _ _) (times_one l its.toArray n od os t) ⟨there, ⟨.ref l, G, I, rfl, q1 rfl⟩⟩⟩)
  · have zero : k = 0 := by omega
    subst zero
    exact wpAny_binaryOp_repeat_ref (T := "tuple") (U := "int") (by decide) ⟨_, there, rfl⟩ (fun s' => typeIs_int s' 0 t) noFill_tuple_mul F.fills_int_mul F.slot_int_rmul repeat_tuple F.slot_int_index.lookup
      (call_meets F.slot_int_rmul (typeIs_int st 0 t) F.entry_int_rmul (F.args_int_rmul_2 _ _) (int_rmul_tuple 0 t l its.toArray n od os)
        ⟨there, rfl, ⟨_, there, rfl⟩, call_meets F.slot_tuple_mul ⟨_, there, rfl⟩ F.entry_tuple_mul (F.args_tuple_mul_2 _ _) (times_none l its.toArray n od os t some_)
          ⟨there, ⟨.ref st.heap.objs.size, _, I.laid (t' := st.toks) (o := .tup []) (fun b ob e => Heap.get?_push_of_some _ e) (Nat.le_refl _) ⟨by show 0 ≤ sizeLine; decide, [], .nil, IsTup.new _ _⟩, rfl, q2 (by decide) _ (I.hok.fresh (Nat.le_refl _))⟩⟩⟩)
/-- 'a' * k -/
def rMulS : R2 := fun x y G Want => ∃ (z : Str) (k : Int), x = .str z ∧ y = .int k ∧ z.length = 1 ∧ 1 ≤ k ∧ k ≤ 100 ∧ ∀ w : Str, w.length ≤ 100 → Want (.str w) G
theorem fold_size (a : Array Nat) : ∀ (m : Nat) (b : Array Nat), ((List.replicate m a).foldl (· ++ ·) b).size = b.size + m * a.size
  | 0, b => by simp
  | m + 1, b => by
    rw [List.replicate_succ, List.foldl_cons, fold_size a m, Array.size_append, Nat.add_mul, Nat.one_mul]
    omega
theorem op_mulS {X : Cx} : OpR X (binaryOp .Mult) rMulS := by
  intro pins st σ G x y v u Want I rx ry h
  obtain ⟨z, k, rfl, rfl, z1, k1, k2, q⟩ := h
  obtain ⟨t, rfl⟩ := rx
  obtain ⟨t2, rfl⟩ := ry
  have len : (Txt.mul z k).length ≤ 100 := by
    unfold Txt.mul
    rw [if_neg (by omega)]
    split
    · omega
    · show ((List.replicate k.toNat z.cps).foldl (· ++ ·) #[]).size ≤ 100
      rw [fold_size]
      have : z.cps.size = 1 := z1
      rw [this]
      simp
      omega
  refine SB.mul ⟨?_, ?_, ?_⟩ fun t' tk => ⟨.str (Txt.mul z k), G, I.tok tk, ⟨_, rfl⟩, q _ len⟩
  · rw [decide_eq_false (by omega), decide_eq_false (by omega)]
    rfl
  · intro _ _
    rw [z1]
    have : (1 : Int) ≤ (2 ^ 63 - 1) / k := by
      apply Int.le_ediv_of_mul_le (by omega)
      omega
    omega
  · intro _ _
    rw [z1]
    have : k.toNat ≤ 100 := by omega
    show decide (1 * k.toNat > sizeLine) = false
    exact decide_eq_false (by have : 100 ≤ sizeLine := by decide
                              omega)
end KRep

set_option Elab.async false
set_option linter.all false
set_option maxRecDepth 100000
set_option maxHeartbeats 4000000
/-! t[::-1] of a tuple of at most two. -/
namespace KRev
open PySem PySem.Spec L2 PyProof.Rows HT
section
variable {prog : Program} {w : World} {A : Around} {E : Value → Shared → Prop} {s : Shared}
theorem adj_rev : ∀ n : Nat, n ≤ 2 → Builtin.Slice.sliceAdjust none none (-1) (n : Int) = ((n : Int) - 1, -1) := by
  intro n h
  have : n = 0 ∨ n = 1 ∨ n = 2 := by omega
  rcases this with rfl | rfl | rfl <;> decide
theorem plc_rev : ∀ n : Nat, n ≤ 2 → Builtin.Slice.slicePlaces ((n : Int) - 1) (-1) (-1) = n := by
  intro n h
  have : n = 0 ∨ n = 1 ∨ n = 2 := by omega
  rcases this with rfl | rfl | rfl <;> decide
theorem applied_rev {sl : Addr} {vl vu vs : Value} {n : Nat} {Q : Int × Int × Nat → Shared → Prop} (hs : s.heap.IsSliceOf sl vl vu vs) (pl : IsPart vl none) (pu : IsPart vu none) (ps : IsPart vs (some (-1))) (hn : n ≤ 2)
    (told : Q ((n : Int) - 1, -1, n) s) : wpAny (model prog w) A (Builtin.Slice.sliceApplied (.ref sl) (pure (n : Int))) Q E s := by
  obtain ⟨ob, there, oc, od⟩ := id hs
  unfold Builtin.Slice.sliceApplied Builtin.Slice.sliceFields
  refine wpAny_bind (wpAny_bind (wpAny_field there od (x := vl) rfl (wpAny_bind (wpAny_field there od (x := vu) rfl (wpAny_bind (wpAny_field there od (x := vs) rfl (wpAny_pure ?_)))))))
  refine wpAny_bind (slicePart_ ps ?_)
  show wpAny _ _ (if ((-1 : Int) == 0) = true then _ else _) _ _ s
  rw [if_neg (by decide)]
  refine wpAny_bind (slicePart_ pl (wpAny_bind (slicePart_ pu (wpAny_bind (wpAny_pure ?_)))))
  show wpAny _ _ (match Builtin.Slice.sliceAdjust none none (-1) (n : Int) with | (lo, hi) => pure (lo, (-1 : Int), Builtin.Slice.slicePlaces lo hi (-1))) _ _ s
  rw [adj_rev n hn]
  show wpAny _ _ (pure ((n : Int) - 1, (-1 : Int), Builtin.Slice.slicePlaces ((n : Int) - 1) (-1) (-1))) _ _ s
  rw [plc_rev n hn]
  exact wpAny_pure told
theorem pick_rev : ∀ xs : List Value, xs.length ≤ 2 → ((List.range xs.length).filterMap fun (m : Nat) => xs.toArray[(((xs.length : Nat) : Int) - 1 + (m : Int) * (-1)).toNat]?).toArray = xs.reverse.toArray
  | [], _ => rfl
  | [a], _ => rfl
  | [a, b], _ => rfl
  | a :: b :: c :: t, h => by simp at h
theorem get_rev {t sl : Addr} {xs : List Value} {vl vu vs : Value} {Q : Value → Shared → Prop} (ht : IsTup s.heap t xs.toArray) (hs : s.heap.IsSliceOf sl vl vu vs) (pl : IsPart vl none) (pu : IsPart vu none) (ps : IsPart vs (some (-1))) (h2 : xs.length ≤ 2)
    (told : Q (.ref s.heap.objs.size) { s with heap := s.heap.push { cls := .type "tuple", data := .seq xs.reverse.toArray } }) : wpAny (model prog w) A (getItem (.ref t) (.ref sl)) Q E s := by
  have fits : sizeOk (.seq xs.reverse.toArray) := by
    show xs.reverse.toArray.size ≤ sizeLine
    rw [List.size_toArray, List.length_reverse]
    exact Nat.le_trans h2 (by decide)
  obtain ⟨ob, there, oc, od⟩ := id hs
  have isSl : s.TypeIs (.ref sl) "slice" := ⟨ob, there, oc⟩
  unfold getItem
  try with_reducible refine wpAny_holding ?_
  first | refine wpAny_bind (wpAny_pure ?_) | skip
  refine wpAny_bind (wpAny_sequenceKey ht.typeIs (by decide) ?_)
  refine wpAny_bind (wpAny_callSpecial?_slot (name := Str.ofString "__getitem__") ht.typeIs PyProof.Rows.slot_tuple_getitem (wpAny_call_entry PyProof.Rows.slot_tuple_getitem ht.typeIs entry_tuple_getitem ?_ (args_tuple_getitem _ _)))
  show wpAny _ _ (Builtin.Tuple.tupleItemsOf (.ref t) >>= _) _ _ s
  refine wpAny_bind (tupleItemsOf_ ht ?_)
  refine wpAny_bind (wpAny_typeOf isSl ?_)
  rw [if_pos (by decide)]
  refine wpAny_bind (applied_rev (n := xs.length) hs pl pu ps h2 ?_)
  have no : ¬ (((((xs.length : Nat) : Int) - 1 == 0) && (-1 : Int) == 1 && xs.length == xs.toArray.size) = true) := by simp
  show wpAny _ _ (if ((((xs.length : Nat) : Int) - 1 == 0) && (-1 : Int) == 1 && xs.length == xs.toArray.size) = true then _ else _) _ _ s
  rw [if_neg no, pick_rev xs h2]
  first
    | exact wpAny_bind (m := Builtin.Tuple.tupleExact _) (wpAny_newObj_type (wpAny_pure ⟨_, rfl, wpAny_pure told⟩) fits)
    | exact wpAny_bind (m := Builtin.Tuple.tupleExact _) (wpAny_newObj_type (wpAny_bind (wpAny_pure (wpAny_pure ⟨_, rfl, wpAny_pure told⟩))) fits)
    | exact wpAny_bind (wpAny_bind (m := Builtin.Tuple.tupleExact _) (wpAny_newObj_type (wpAny_pure (wpAny_pure ⟨_, rfl, wpAny_pure told⟩)) fits))
    | exact wpAny_bind (wpAny_bind (m := Builtin.Tuple.tupleExact _) (wpAny_newObj_type (wpAny_pure ⟨_, rfl, wpAny_pure told⟩) fits))
end
/-- t[::-1] -/
def tRevT (K : PySem.W.Frag) (te : TE) : TE := fun σ G Want => te σ G fun x G1 => ∃ (a : Addr) (xs : List V), x = .ref a ∧ SqT K G1 a xs ∧ xs.length ≤ 2 ∧ ∀ p, G1 p = none → Want (.ref p) (upd G1 p (.tup xs.reverse))
theorem pe_revT {X : Cx} {e : Expr} {te : TE} {k : Nat} {p1 p2 p3 pos : Pos} (he : PE X e te) : PE X (.Subscript e (.Slice none none (some (.UnaryOp .USub (.Constant (.int 1) k p1) p2)) p3) pos) (tRevT X.K te) := by
  constructor
  intro pins st σ G Want I told
  refine Subscript_ (thn (he.run pins st σ G _ I told) fun v s1 ⟨x, G1, I1, r1, q1⟩ => ?_)
  obtain ⟨a, xs, ex, hx, h2, q⟩ := q1
  subst ex
  cases r1
  have back : PO X (some (.UnaryOp .USub (.Constant (.int 1) k p1) p2)) (tPart (tUn (rU fun i => .int (-i)) (tC (.int 1)))) := po_some (pe_un un_neg pe_int)
  refine wpAny_Slice (thn (po_none.run pins s1 σ G1 (fun o Ga => o = none ∧ Ga = G1) I1 ⟨rfl, rfl⟩) fun vl s2 ⟨l, Ga, Ia, pl, el, ea⟩ => ?_)
  subst el ea
  refine thn (po_none.run pins s2 σ Ga (fun o Gb => o = none ∧ Gb = Ga) Ia ⟨rfl, rfl⟩) fun vu s3 ⟨u, Gb, Ib, pu, eu, eb⟩ => ?_
  subst eu eb
  refine thn (back.run pins s3 σ Gb (fun o Gc => o = some (-1) ∧ Gc = Gb) Ib ⟨1, rfl, -1, rfl, rfl, rfl⟩) fun vs s4 ⟨o, Gc, Ic, ps, eo, ec⟩ => ?_
  subst eo ec
  have Id : Inv X pins σ Gc { s4 with heap := s4.heap.push { cls := .type "slice", data := .fields #[vl, vu, vs] } } := Ic.kept (t' := s4.toks) fun b ob z => Heap.get?_push_of_some _ z
  obtain ⟨its, r, ht, hz⟩ := Id.tuple hx
  have same := r.length
  show wpAny (model X.prog X.w) X.A (subscriptTail e (.Slice none none (some (.UnaryOp .USub (.Constant (.int 1) k p1) p2)) p3) (.ref a) (.ref s4.heap.objs.size)) (EP X pins σ Want) X.xe { s4 with heap := s4.heap.push { cls := .type "slice", data := .fields #[vl, vu, vs] } }
  refine tail_any (ops := [.ref a, .ref s4.heap.objs.size]) ht.typeIs (PyProof.Rows.slot_tuple_getitem.lookup) ?_ (by with_unfolding_all rfl)
  refine get_rev ht (Heap.IsSliceOf.new _ vl vu vs) pl pu ps (by omega) ?_
  refine ⟨.ref _, _, Id.laid (t' := s4.toks) (o := .tup xs.reverse) (fun b ob z => Heap.get?_push_of_some _ z) (Nat.le_refl _) ?_, rfl, q _ (Id.hok.fresh (Nat.le_refl _))⟩
  exact ⟨by rw [List.length_reverse]; exact Nat.le_trans h2 (by decide), _, r.reverse, IsTup.new _ _⟩
end KRev

set_option Elab.async false
set_option linter.all false
set_option maxRecDepth 100000
set_option maxHeartbeats 4000000
/-! t + u, t[a:b], t[::-1] beside the pen at p: what comes is a tuple beside it. -/
namespace KCut
open PySem PySem.Spec L2 PyProof.Rows Pen RG Dat
theorem off_new {G : Hp} {p r : Addr} {o : HO} {xs : List V} {K : PySem.W.Frag} (hp : G p = some o) (f : G r = none) : SqT K (delp p (upd G r (.tup xs))) r xs :=
  SqT.of ((delp_ne (ne_of_none hp f).symm).trans upd_same)
def rCatU (K : PySem.W.Frag) : R2 := fun x y G Want => ∃ (p : Addr) (o : HO) (a b : Addr) (xs ys : List V), G p = some o ∧ x = .ref a ∧ y = .ref b ∧ SqT K (delp p G) a xs ∧ SqT K (delp p G) b ys ∧ xs.length + ys.length ≤ sizeLine ∧
  ∀ r G2, Same G G2 → SqT K (delp p G2) r (xs ++ ys) → Want (.ref r) G2
theorem op_catU {X : Cx} : OpR X (binaryOp .Add) (rCatU X.K) := by
  intro pins st σ G x y v u Want I rx ry h
  obtain ⟨p, o, a, b, xs, ys, hp, rfl, rfl, ha, hb, hz, q⟩ := h
  refine L2.op_catA pins st σ G _ _ v u Want I rx ry ⟨a, b, xs, ys, rfl, rfl, sqT_same delp_le ha, sqT_same delp_le hb, hz, fun e => ?_, fun _ e => ?_, fun _ _ r f => ?_⟩
  · subst e
    exact q b G (.refl _) hb
  · subst e
    exact q a G (.refl _) (by rw [List.append_nil]; exact ha)
  · exact q r _ (Ab.same_up f) (off_new hp f)
def rSlU (K : PySem.W.Frag) : V → Option Int → Option Int → Hp → VK → Prop := fun x lo hi G Want => ∃ (p : Addr) (o : HO) (a : Addr) (xs : List V), G p = some o ∧ x = .ref a ∧ SqT K (delp p G) a xs ∧
  ∀ r G2, Same G G2 → SqT K (delp p G2) r (cutV xs lo hi) → Want (.ref r) G2
theorem sl_tupU {X : Cx} : SlR X (rSlU X.K) := by
  intro pins st σ G x v vl vu lo hi sl Want I rx hs pl pu h
  obtain ⟨p, o, a, xs, hp, rfl, ha, q⟩ := h
  refine L2.sl_tupA pins st σ G _ v vl vu lo hi sl Want I rx hs pl pu ⟨a, xs, rfl, sqT_same delp_le ha, fun e => ?_, fun _ r f => ?_⟩
  · refine q a G (.refl _) ?_
    have : cutV xs lo hi = xs := by
      unfold cutV
      rw [e.1, e.2]
      simp
    rw [this]
    exact ha
  · exact q r _ (Ab.same_up f) (off_new hp f)
/-! ### how long a cut is -/
theorem cut_to {xs : List V} {i : Nat} (h : i ≤ xs.length) : cutV xs none (some (i : Int)) = xs.take i := by
  unfold cutV
  rw [HT.sIx_none, HT.sIx_nat, Nat.min_eq_left h, List.drop_zero, Nat.sub_zero]
theorem cut_from {xs : List V} {i : Nat} : cutV xs (some (i : Int)) none = xs.drop i := by
  unfold cutV
  rw [HT.sIx_none, HT.sIx_nat]
  by_cases h : i ≤ xs.length
  · rw [Nat.min_eq_left h]
    exact List.take_of_length_le (by rw [List.length_drop]; exact Nat.le_refl _)
  · rw [Nat.min_eq_right (by omega), List.drop_length, List.drop_eq_nil_of_le (by omega)]
    exact List.take_nil
theorem cut_two {xs : List V} {i : Nat} (h : i < xs.length) : cutV xs (some (i : Int)) (some (((i + 2 : Nat) : Int))) = (xs.drop i).take 2 := by
  unfold cutV
  rw [HT.sIx_nat, HT.sIx_nat, Nat.min_eq_left (Nat.le_of_lt h)]
  by_cases h2 : i + 2 ≤ xs.length
  · rw [Nat.min_eq_left h2]
    congr 1
    omega
  · rw [Nat.min_eq_right (by omega), List.take_of_length_le (by rw [List.length_drop]; exact Nat.le_refl _), List.take_of_length_le (by rw [List.length_drop]; omega)]
end KCut

set_option Elab.async false
set_option linter.all false
set_option maxRecDepth 100000
set_option maxHeartbeats 2000000
namespace Hd
open PySem L2 Pen RG Dat KEq
def top (i : Nat) : Stmt := PySem.Challenge.pw_oncepost_k02_what_is_a_handler.main.body.getD i (.Pass ⟨0, 0, 0, 0⟩)
abbrev sNum : Stmt := top 4
abbrev sVal : Stmt := top 5
abbrev sWord : Stmt := top 6
abbrev sTof : Stmt := top 7
abbrev sKey : Stmt := top 19
structure DefT (K : PySem.W.Frag) (mg : Str → Option Value) (x : Str) (f : Addr) : Prop where
  mg : mg x = some (.ref f)
  kp : PySem.W.keepIn K (.ref f) = true
def abc : Str := "abcdefghijklmnopqrstuvwxyz"
structure TxtH (mg : Str → Option Value) : Prop where
  isinstance : mg "isinstance" = none
  len : mg "len" = none
  all : mg "all" = none
  int : mg "int" = none
  bool : mg "bool" = none
  str : mg "str" = none
  tuple : mg "tuple" = none
  BOUND : ∃ t, mg "BOUND" = some (.int 99 t)
  LONGEST : ∃ t, mg "LONGEST_WORD" = some (.int 6 t)
  LETTERS : ∃ t, mg "LETTERS" = some (.str abc t)
def isNum : PyData → Bool
  | .int _ => true
  | _ => false
def isVal : PyData → Bool
  | .int i => decide (-99 ≤ i) && decide (i ≤ 99)
  | _ => false
def isWord : PyData → Bool
  | .str x => decide (1 ≤ x.length) && decide (x.length ≤ 6) && x.cps.toList.all fun c => decide (c ∈ abc.cps.toList)
  | _ => false
def isTof (d : PyData) (n : Int) : Bool := match d with
  | .tuple xs => decide ((xs.length : Int) = n)
  | _ => false
def isKey : PyData → Bool
  | .none => true
  | d => isWord d
mutual
/-- no text is long -/
def sm : PyData → Bool
  | .str x => decide (x.length ≤ 1000)
  | .tuple xs => decide (xs.length ≤ 1000) && smAll xs
  | _ => true
def smAll : List PyData → Bool
  | [] => true
  | x :: xs => sm x && smAll xs
end
theorem sm_len {ds : List PyData} (h : sm (.tuple ds) = true) : ds.length ≤ 1000 := by
  have z : (decide (ds.length ≤ 1000) && smAll ds) = true := h
  rw [Bool.and_eq_true, decide_eq_true_eq] at z
  exact z.1
theorem sm_tup {ds : List PyData} (h : sm (.tuple ds) = true) : smAll ds = true := by
  have z : (decide (ds.length ≤ 1000) && smAll ds) = true := h
  rw [Bool.and_eq_true] at z
  exact z.2
def rSign : R2 := fun x y H Q => ∃ (c : Nat) (z : Str), x = .str ⟨#[c]⟩ ∧ y = .str z ∧ Q (.bl (decide (c ∈ z.cps.toList))) H
def spNum (K : PySem.W.Frag) : Sp := fun vs H Q _ => ∃ v d, vs = [v] ∧ Rp K H v d ∧ Q (.bl (isNum d)) H
def spVal (K : PySem.W.Frag) : Sp := fun vs H Q _ => ∃ v d, vs = [v] ∧ Rp K H v d ∧ Q (.bl (isVal d)) H
def spWord (K : PySem.W.Frag) : Sp := fun vs H Q _ => ∃ v d, vs = [v] ∧ Rp K H v d ∧ sm d = true ∧ ∀ H', Same H H' → Q (.bl (isWord d)) H'
def spTof (K : PySem.W.Frag) : Sp := fun vs H Q _ => ∃ v d n, vs = [v, .int n] ∧ Rp K H v d ∧ Q (.bl (isTof d n)) H
def spKey (K : PySem.W.Frag) : Sp := fun vs H Q _ => ∃ v d, vs = [v] ∧ Rp K H v d ∧ sm d = true ∧ ∀ H', Same H H' → Q (.bl (isKey d)) H'
theorem take_more {α : Type} : ∀ {l : List α} {i : Nat} {x : α}, l[i]? = some x → l.take (i + 1) = l.take i ++ [x]
  | [], i, x, h => by simp at h
  | a :: l, 0, x, h => by
    have e : a = x := Option.some.inj h
    subst e
    rfl
  | a :: l, i + 1, x, h => by
    have ih := take_more (l := l) (i := i) (x := x) h
    show a :: l.take (i + 1) = a :: l.take i ++ [x]
    rw [ih]
    rfl
theorem RpAll.len {K : PySem.W.Frag} {G : Hp} : ∀ {vs : List V} {ds : List PyData}, RpAll K G vs ds → vs.length = ds.length
  | _, _, .nil => rfl
  | _, _, .cons _ t => congrArg (· + 1) (RpAll.len t)
section
variable {P : Program} {w : World} {K : PySem.W.Frag} {mg : Str → Option Value} {base : Heap}
theorem scNum : FnScope ["value"] ["value"] (defScope sNum) := ⟨rfl, rfl, rfl, by decide +kernel, rfl, by decide +kernel, by decide +kernel⟩
theorem ok_num {f : Addr} {fd : FuncData} (F : Fun K "is_number" "is_number" sNum f fd) (T : TxtH mg) : FnOk P w K mg base CX0 1 f fd ["value"] (spNum K) := by
  refine F.ok scNum (fun vs H Q E h => ?_) (fun cdv A outer s H vs Q E hr h => ?_)
  · obtain ⟨v, d, rfl, _⟩ := h
    rfl
  · obtain ⟨v, d, rfl, r, k⟩ := h
    refine ⟨_, (pss_one (ps_ret (pe_and (pe_callB call_isi (by rfl) T.isinstance (by decide +kernel) (pa_cons (pv 0) (pa_cons (pe_bltn (v := V.ty "int") (by rfl) T.int (by decide +kernel) rfl) pa_nil))) (pe_one (pe_not (pe_callB call_isi (by rfl) T.isinstance (by decide +kernel) (pa_cons (pv 0) (pa_cons (pe_bltn (v := V.ty "bool") (by rfl) T.bool (by decide +kernel) rfl) pa_nil)))))))), ?_⟩
    refine ⟨_, rfl, v, .ty "int", _, _, _, rfl, .ty _, rp_ty r, kit_int d, _, rfl, ite2 (fun h1 => ?_) (fun h1 => ?_)⟩
    · refine ⟨_, rfl, v, .ty "bool", _, _, _, rfl, .ty _, rp_ty r, kit_bool d, _, rfl, ?_⟩
      have e : (!isBool d) = isNum d := by cases d <;> first | rfl | cases h1
      rw [e]
      exact k
    · have e : isNum d = false := by cases d <;> first | rfl | exact absurd rfl h1
      rw [e] at k
      exact k
theorem scVal : FnScope ["value"] ["value"] (defScope sVal) := ⟨rfl, rfl, rfl, by decide +kernel, rfl, by decide +kernel, by decide +kernel⟩
theorem ok_val {f fN : Addr} {fd fdN : FuncData} (F : Fun K "is_value" "is_value" sVal f fd) (T : TxtH mg) (GNum : FnOk P w K mg base CX0 1 fN fdN ["value"] (spNum K)) (TNum : DefT K mg "is_number" fN) (bNum : Binds K fdN ["value"] []) : FnOk P w K mg base CX0 2 f fd ["value"] (spVal K) := by
  refine F.ok scVal (fun vs H Q E h => ?_) (fun cdv A outer s H vs Q E hr h => ?_)
  · obtain ⟨v, d, rfl, _⟩ := h
    rfl
  · obtain ⟨v, d, rfl, r, k⟩ := h
    refine ⟨_, (pss_one (ps_ret (pe_and (pe_call GNum (hr.mono (by decide)) rfl TNum.mg TNum.kp bNum .nil pass0 (pa_cons (pv 0) pa_nil)) (pe_one (pe_chain op_le op_le (pe_un un_neg (pe_glob (v := V.int 99) (by rfl) T.BOUND.choose_spec ⟨_, rfl⟩)) (pv 0) (pe_glob (v := V.int 99) (by rfl) T.BOUND.choose_spec ⟨_, rfl⟩)))))), ?_⟩
    refine ⟨_, rfl, v, d, rfl, r, _, rfl, ite2 (fun h1 => ?_) (fun h1 => ?_)⟩
    · cases r with
      | int i =>
        refine ⟨_, rfl, _, rfl, _, _, rfl, rfl, _, rfl, ite2 (fun h2 => ?_) (fun h2 => ?_)⟩
        · refine ⟨_, _, rfl, rfl, ?_⟩
          have e : isVal (.int i) = decide (i ≤ 99) := by
            show (decide (-99 ≤ i) && decide (i ≤ 99)) = _
            rw [show decide (-99 ≤ i) = true from h2]
            rfl
          rw [e] at k
          exact k
        · have e : isVal (.int i) = false := by
            show (decide (-99 ≤ i) && decide (i ≤ 99)) = _
            rw [show decide (-99 ≤ i) = false from Bool.eq_false_iff.mpr h2]
            rfl
          rw [e] at k
          exact k
      | _ => cases h1
    · have e : isVal d = false := by cases d <;> first | rfl | exact absurd rfl h1
      rw [e] at k
      exact k
theorem scWord : FnScope ["value", "letter"] ["value"] (defScope sWord) := ⟨rfl, rfl, rfl, by decide +kernel, rfl, by decide +kernel, by decide +kernel⟩
theorem ok_word {f : Addr} {fd : FuncData} (F : Fun K "is_word" "is_word" sWord f fd) (T : TxtH mg) : FnOk P w K mg base CX0 1 f fd ["value"] (spWord K) := by
  refine F.ok scWord (fun vs H Q E h => ?_) (fun cdv A outer s H vs Q E hr h => ?_)
  · obtain ⟨v, d, rfl, _⟩ := h
    rfl
  · obtain ⟨v, d, rfl, r, small, k⟩ := h
    refine ⟨_, (pss_cons (ps_if (PW.pt (pw_or (pt_not (pt_val (pe_callB call_isi (by rfl) T.isinstance (by decide +kernel) (pa_cons (pv 0) (pa_cons (pe_bltn (v := V.ty "str") (by rfl) T.str (by decide +kernel) rfl) pa_nil))))) (pw_or1 (pt_not (pt_chain op_le op_le pe_int (pe_callB call_len_str (by rfl) T.len PySem.boot_len (pa_cons (pv 0) pa_nil)) (pe_glob (v := V.int 6) (by rfl) T.LONGEST.choose_spec ⟨_, rfl⟩)))))) (pss_one (ps_ret pe_bl)) pss_nil)
      (pss_one (ps_ret (pe_callB (cr_all rfl) (by rfl) T.all (by decide +kernel) (pa_cons (pe_lc (own := [("letter", 1)]) (g := gName 1) (tt := tYes) (te := (tOp rSign (tVar 1) (tC (V.str abc)))) rfl scWord.nd (pi_str (pv 0)) (blkOk_by (N := ["value", "letter"]) (sc := defScope sWord) (by decide +kernel)) (fun _ _ _ _ _ => by exact (pg_name (i := 1) scWord.nd rfl (Or.inl rfl))) (fun _ _ _ _ _ => by exact pts_nil) (fun _ _ _ _ _ => by exact (pe_cmpR op_in_sign (pv 1) (pe_glob (v := V.str abc) (by rfl) T.LETTERS.choose_spec ⟨_, rfl⟩) rfl))) pa_nil))))), ?_⟩
    refine ⟨_, rfl, v, .ty "str", _, _, _, rfl, .ty _, rp_ty r, kit_str d, _, rfl, ite2 (fun h1 => ?_) (fun h1 => ?_)⟩
    · have e : isWord d = false := by cases d <;> first | rfl | cases h1
      refine iteT ?_
      have := k _ (.refl _)
      rw [e] at this
      exact this
    · cases r with
      | str x =>
        have hl : x.length ≤ 1000 := of_decide_eq_true small
        have no : ¬ (1 ≤ x.length ∧ x.length ≤ 6) → isWord (.str x) = false := by
          intro z
          show (decide (1 ≤ x.length) && decide (x.length ≤ 6) && _) = false
          rw [show (decide (1 ≤ x.length) && decide (x.length ≤ 6)) = false by rw [← Bool.decide_and]; exact decide_eq_false z]
          rfl
        refine ⟨_, rfl, _, rfl, Nat.le_trans hl (by decide), _, _, rfl, rfl, _, rfl, ite2 (fun h2 => ?_) (fun h2 => ?_)⟩
        · refine ⟨_, _, rfl, rfl, _, rfl, ite2 (fun h3 => ?_) (fun h3 => ?_)⟩
          · have := k _ (.refl _)
            rw [no (fun z => by simp at h3; omega)] at this
            exact this
          · have i1 : 1 ≤ x.length := by have := of_decide_eq_true h2; omega
            have i6 : x.length ≤ 6 := by simp at h3; omega
            refine ⟨_, rfl, x, rfl, fun D hD => lc_txt (fun i H' => H' D = some (.lst ((x.cps.toList.take i).map fun c => V.bl (decide (c ∈ abc.cps.toList)))) ∧ Same H H') ⟨upd_same, Ab.same_up hD⟩ ?_ ?_⟩
            · intro i c H' hc ⟨e, s'⟩
              refine ⟨rfl, ?_⟩
              unfold tYes
              simp only [↓reduceIte]
              refine ⟨_, rfl, c, abc, rfl, rfl, _, e, szl (by simp; have : x.cps.size = x.length := rfl; omega), ?_, ?_⟩
              · rw [upd_same, take_more (show x.cps.toList[i]? = some c by rw [Array.getElem?_toList]; exact hc)]
                simp
              · intro b o q
                rw [upd_ne (ne_of_none q hD)]
                exact s' _ _ q
            · intro H' ⟨e, s'⟩
              rw [List.take_of_length_le (by simp)] at e
              refine ⟨D, x.cps.toList.map (fun c => decide (c ∈ abc.cps.toList)), rfl, SqL.of (by rw [List.map_map]; exact e), ?_⟩
              have := k _ s'
              have e2 : isWord (.str x) = (x.cps.toList.map (fun c => decide (c ∈ abc.cps.toList))).all id := by
                show (decide (1 ≤ x.length) && decide (x.length ≤ 6) && _) = _
                rw [decide_eq_true i1, decide_eq_true i6, List.all_map]
                rfl
              rw [e2] at this
              exact this
        · refine ⟨_, rfl, iteT ?_⟩
          have := k _ (.refl _)
          rw [no (fun z => h2 (decide_eq_true (by have := z.1; omega)))] at this
          exact this
      | _ => exact absurd rfl h1
theorem scTof : FnScope ["value", "length"] ["value", "length"] (defScope sTof) := ⟨rfl, rfl, rfl, by decide +kernel, rfl, by decide +kernel, by decide +kernel⟩
theorem ok_tof {f : Addr} {fd : FuncData} (F : Fun K "is_tuple_of" "is_tuple_of" sTof f fd) (T : TxtH mg) : FnOk P w K mg base CX0 1 f fd ["value", "length"] (spTof K) := by
  refine F.ok scTof (fun vs H Q E h => ?_) (fun cdv A outer s H vs Q E hr h => ?_)
  · obtain ⟨v, d, n, rfl, _⟩ := h
    rfl
  · obtain ⟨v, d, n, rfl, r, k⟩ := h
    refine ⟨_, (pss_one (ps_ret (pe_and (pe_callB call_isi (by rfl) T.isinstance (by decide +kernel) (pa_cons (pv 0) (pa_cons (pe_bltn (v := V.ty "tuple") (by rfl) T.tuple (by decide +kernel) rfl) pa_nil))) (pe_one (pe_cmpR op_eq (pe_callB call_len_seq (by rfl) T.len PySem.boot_len (pa_cons (pv 0) pa_nil)) (pv 1) (nomark _)))))), ?_⟩
    refine ⟨_, rfl, v, .ty "tuple", _, _, _, rfl, .ty _, rp_ty r, kit_tup d, _, rfl, ite2 (fun h1 => ?_) (fun h1 => ?_)⟩
    · cases r with
      | @tup a xs ds q rr =>
        refine ⟨_, rfl, a, xs, rfl, .inr q, _, rfl, rfl, ?_⟩
        have e : isTof (.tuple ds) n = decide (V.int xs.length = V.int n) := by
          show decide ((ds.length : Int) = n) = _
          rw [dec_int, RpAll.len rr]
          by_cases z : (ds.length : Int) = n <;> simp [z]
        rw [e] at k
        exact k
      | _ => cases h1
    · have e : isTof d n = false := by cases d <;> first | rfl | exact absurd rfl h1
      rw [e] at k
      exact k
theorem scKey : FnScope ["value"] ["value"] (defScope sKey) := ⟨rfl, rfl, rfl, by decide +kernel, rfl, by decide +kernel, by decide +kernel⟩
theorem ok_key {f fW : Addr} {fd fdW : FuncData} (F : Fun K "is_key" "is_key" sKey f fd) (GWord : FnOk P w K mg base CX0 1 fW fdW ["value"] (spWord K)) (TWord : DefT K mg "is_word" fW) (bWord : Binds K fdW ["value"] []) : FnOk P w K mg base CX0 2 f fd ["value"] (spKey K) := by
  refine F.ok scKey (fun vs H Q E h => ?_) (fun cdv A outer s H vs Q E hr h => ?_)
  · obtain ⟨v, d, rfl, _⟩ := h
    rfl
  · obtain ⟨v, d, rfl, r, small, k⟩ := h
    refine ⟨_, (pss_one (ps_ret (pe_or (pe_cmpR op_isN (pv 0) pe_non (nomark _)) (pe_one (pe_call GWord (hr.mono (by decide)) rfl TWord.mg TWord.kp bWord .nil pass0 (pa_cons (pv 0) pa_nil)))))), ?_⟩
    refine ⟨_, rfl, rfl, _, rfl, ite2 (fun h1 => ?_) (fun h1 => ?_)⟩
    · have e : v = .non := of_decide_eq_true h1
      subst e
      cases r
      exact k _ (.refl _)
    · refine ⟨_, rfl, v, d, rfl, r, small, fun H' s' => ?_⟩
      have e : isKey d = isWord d := by
        cases r with
        | non => exact absurd rfl h1
        | _ => rfl
      rw [← e]
      exact k _ s'
end
end Hd

set_option Elab.async false
set_option linter.all false
set_option maxRecDepth 100000
set_option maxHeartbeats 4000000
namespace Hd
open PySem L2 Pen RG Dat KEq
abbrev sExp : Stmt := top 10
abbrev sCon : Stmt := top 11
abbrev tV : Str := "value"
abbrev tB' : Str := "body"
abbrev tR : Str := "row"
abbrev ops : List Str := ["+", "-", "*"]
def isE : Nat → PyData → Bool
  | 0, _ => false
  | n + 1, .tuple (h :: tl) =>
    if isS h tV = true then (match tl with | [a] => isVal a | _ => false)
    else if isS h tB' = true then (match tl with | [] => true | _ => false)
    else if isS h tR = true then (match tl with | [a] => isWord a | _ => false)
    else if (ops.any fun z => isS h z) = true then (match tl with | [a, b] => isE n a && isE n b | _ => false)
    else false
  | _ + 1, _ => false
def isC : Nat → PyData → Bool
  | 0, _ => false
  | n + 1, .tuple (h :: tl) =>
    if ((["<", "="] : List Str).any fun z => isS h z) = true then (match tl with | [a, b] => isE 6 a && isE 6 b | _ => false)
    else if isS h "not" = true then (match tl with | [a] => isC n a | _ => false)
    else if ((["and", "or"] : List Str).any fun z => isS h z) = true then (match tl with | [a, b] => isC n a && isC n b | _ => false)
    else false
  | _ + 1, _ => false
theorem e_not {n : Nat} {d : PyData} (h : isTup d = false) : isE (n + 1) d = false := by
  cases d <;> first | rfl | cases h
theorem c_not {n : Nat} {d : PyData} (h : isTup d = false) : isC (n + 1) d = false := by
  cases d <;> first | rfl | cases h
def spExp (K : PySem.W.Frag) (m : Nat) : Sp := fun vs H Q _ => ∃ (v : V) (d : PyData) (n : Nat), vs = [v, .int n] ∧ n < m ∧ Rp K H v d ∧ sm d = true ∧ ∀ H', Same H H' → Q (.bl (isE n d)) H'
def spCon (K : PySem.W.Frag) (m : Nat) : Sp := fun vs H Q _ => ∃ (v : V) (d : PyData) (n : Nat), vs = [v, .int n] ∧ n < m ∧ Rp K H v d ∧ sm d = true ∧ ∀ H', Same H H' → Q (.bl (isC n d)) H'
theorem len_ne {xs : List V} {n : Int} (h : ¬ decide (V.int (xs.length : Int) = V.int n) = true) : (xs.length : Int) ≠ n := fun z => h (by rw [z]; exact decide_eq_true rfl)
theorem len_is {xs : List V} {n : Int} (h : decide (V.int (xs.length : Int) = V.int n) = true) : (xs.length : Int) = n := V.int.inj (of_decide_eq_true h)
theorem sm_cons {x : PyData} {xs : List PyData} (h : smAll (x :: xs) = true) : sm x = true ∧ smAll xs = true := by
  have : (sm x && smAll xs) = true := h
  simpa using this
theorem one_of {K : PySem.W.Frag} {G : Hp} {xs : List V} {ds : List PyData} (r : RpAll K G xs ds) (h : xs.length = 1) : ∃ x d, xs = [x] ∧ ds = [d] ∧ Rp K G x d := by
  cases r with
  | nil => cases h
  | cons a t =>
    cases t with
    | nil => exact ⟨_, _, rfl, rfl, a⟩
    | cons b t => simp at h
theorem two_of {K : PySem.W.Frag} {G : Hp} {xs : List V} {ds : List PyData} (r : RpAll K G xs ds) (h : xs.length = 2) : ∃ x y d e, xs = [x, y] ∧ ds = [d, e] ∧ Rp K G x d ∧ Rp K G y e := by
  cases r with
  | nil => cases h
  | cons a t =>
    obtain ⟨y, e, rfl, rfl, q⟩ := one_of t (by simpa using h)
    exact ⟨_, y, _, e, rfl, rfl, a, q⟩
theorem tl_ne1 {α : Type} {f : PyData → α} {c : α} : ∀ {tl : List PyData}, tl.length ≠ 1 → (match tl with | [a] => f a | _ => c) = c
  | [], _ => rfl
  | [a], h => absurd rfl h
  | a :: b :: t, _ => rfl
theorem tl_ne2 {α : Type} {f : PyData → PyData → α} {c : α} : ∀ {tl : List PyData}, tl.length ≠ 2 → (match tl with | [a, b] => f a b | _ => c) = c
  | [], _ => rfl
  | [a], _ => rfl
  | [a, b], h => absurd rfl h
  | a :: b :: d :: t, _ => rfl
section
variable {P : Program} {w : World} {K : PySem.W.Frag} {mg : Str → Option Value} {base : Heap}
theorem scExp : FnScope ["value", "deep", "head"] ["value", "deep"] (defScope sExp) := ⟨rfl, rfl, rfl, by decide +kernel, rfl, by decide +kernel, by decide +kernel⟩
theorem ok_exp {f fV fW : Addr} {fd fdV fdW : FuncData} (F : FunD K "is_expression" "is_expression" (defArgs sExp) (defBody sExp) (defScope sExp) [V.int 6] [] f fd) (T : TxtH mg) (TExp : DefT K mg "is_expression" f) (bExp : Binds K fd ["value", "deep"] [])
    (GVal : FnOk P w K mg base CX0 2 fV fdV ["value"] (spVal K)) (TVal : DefT K mg "is_value" fV) (bVal : Binds K fdV ["value"] [])
    (GWord : FnOk P w K mg base CX0 1 fW fdW ["value"] (spWord K)) (TWord : DefT K mg "is_word" fW) (bWord : Binds K fdW ["value"] []) : ∀ m, FnOk P w K mg base CX0 (m + 3) f fd ["value", "deep"] (spExp K m)
  | 0 => by
    refine F.ok scExp (fun vs H Q E h => ?_) (fun cdv A outer s H vs Q E hr h => ?_)
    · obtain ⟨v, d, n, rfl, _⟩ := h
      rfl
    · obtain ⟨v, d, n, rfl, lt, _⟩ := h
      exact absurd lt (Nat.not_lt_zero _)
  | m + 1 => by
    have GExp := ok_exp F T TExp bExp GVal TVal bVal GWord TWord bWord m
    refine F.ok scExp (fun vs H Q E h => ?_) (fun cdv A outer s H vs Q E hr h => ?_)
    · obtain ⟨v, d, n, rfl, _⟩ := h
      rfl
    · obtain ⟨v, d, n, rfl, lt, r, small, k⟩ := h
      have hu := hu_of hr
      refine ⟨_, (pss_cons (ps_if (PW.pt (pw_or (pt_cmpR op_eq (pv 1) pe_int (nomark _)) (pw_or (pt_not (pt_val (pe_callB call_isi (by rfl) T.isinstance (by decide +kernel) (pa_cons (pv 0) (pa_cons (pe_bltn (v := V.ty "tuple") (by rfl) T.tuple (by decide +kernel) rfl) pa_nil))))) (pw_or1 (pt_cmpR op_eq (pe_callB call_len_seq (by rfl) T.len PySem.boot_len (pa_cons (pv 0) pa_nil)) pe_int (nomark _)))))) (pss_one (ps_ret pe_bl)) pss_nil)
        (pss_cons (ps_set (i := 2) scExp.nd rfl (Or.inl rfl) (pe_ix ix_tup (pv 0) pe_int (fun _ _ => rfl)))
        (pss_cons (ps_if (pt_cmpR (KEq.op_eqS hu) (pv 2) pe_str (nomark _)) (pss_one (ps_ret (pe_and (pe_cmpR op_eq (pe_callB call_len_seq (by rfl) T.len PySem.boot_len (pa_cons (pv 0) pa_nil)) pe_int (nomark _)) (pe_one (pe_call GVal (hr.mono (by omega)) rfl TVal.mg TVal.kp bVal .nil pass0 (pa_cons (pe_ix ix_tup (pv 0) pe_int (fun _ _ => rfl)) pa_nil)))))) pss_nil)
        (pss_cons (ps_if (pt_cmpR (KEq.op_eqS hu) (pv 2) pe_str (nomark _)) (pss_one (ps_ret (pe_cmpR op_eq (pe_callB call_len_seq (by rfl) T.len PySem.boot_len (pa_cons (pv 0) pa_nil)) pe_int (nomark _)))) pss_nil)
        (pss_cons (ps_if (pt_cmpR (KEq.op_eqS hu) (pv 2) pe_str (nomark _)) (pss_one (ps_ret (pe_and (pe_cmpR op_eq (pe_callB call_len_seq (by rfl) T.len PySem.boot_len (pa_cons (pv 0) pa_nil)) pe_int (nomark _)) (pe_one (pe_call GWord (hr.mono (by omega)) rfl TWord.mg TWord.kp bWord .nil pass0 (pa_cons (pe_ix ix_tup (pv 0) pe_int (fun _ _ => rfl)) pa_nil)))))) pss_nil)
        (pss_cons (ps_if (pt_cmpR (KEq.op_inS hu) (pv 2) (Ab.pe_tupA (pa_cons pe_str (pa_cons pe_str (pa_cons pe_str pa_nil)))) rfl) (pss_one (ps_ret (pe_and (pe_cmpR op_eq (pe_callB call_len_seq (by rfl) T.len PySem.boot_len (pa_cons (pv 0) pa_nil)) pe_int (nomark _)) (pe_and (pe_call GExp (hr.mono (by omega)) rfl TExp.mg TExp.kp bExp .nil pass0 (pa_cons (pe_ix ix_tup (pv 0) pe_int (fun _ _ => rfl)) (pa_cons (pe_op op_sub (pv 1) pe_int) pa_nil))) (pe_one (pe_call GExp (hr.mono (by omega)) rfl TExp.mg TExp.kp bExp .nil pass0 (pa_cons (pe_ix ix_tup (pv 0) pe_int (fun _ _ => rfl)) (pa_cons (pe_op op_sub (pv 1) pe_int) pa_nil)))))))) pss_nil)
        (pss_one (ps_ret pe_bl)))))))), ?_⟩
      refine ⟨_, rfl, rfl, _, rfl, ite2 (fun h1 => ?_) (fun h1 => ?_)⟩
      · have e : n = 0 := by have := V.int.inj (of_decide_eq_true h1); omega
        refine iteT ?_
        have := k _ (.refl _)
        rw [e] at this
        exact this
      obtain ⟨n, rfl⟩ : ∃ j, n = j + 1 := ⟨n - 1, by
        have : n ≠ 0 := fun z => h1 (by rw [z]; rfl)
        omega⟩
      refine ⟨_, rfl, v, .ty "tuple", _, _, _, rfl, .ty _, rp_ty r, kit_tup d, _, rfl, ite2 (fun h2 => ?_) (fun h2 => ?_)⟩
      · refine iteT ?_
        have := k _ (.refl _)
        rw [e_not (by simpa using h2)] at this
        exact this
      cases r with
      | @tup a xs ds q rr =>
        cases rr with
        | nil =>
          refine ⟨_, rfl, a, [], rfl, .inr q, rfl, _, rfl, iteT ?_⟩
          exact k _ (.refl _)
        | @cons hv xv h tl rh rt =>
          obtain ⟨small1, small2⟩ := sm_cons (sm_tup small)
          refine ⟨_, rfl, a, hv :: xv, rfl, .inr q, rfl, _, rfl, ite2 (fun h3 => ?_) (fun _ => ?_)⟩
          · exact absurd (len_is h3) (by simp; omega)
          refine ⟨_, rfl, a, hv :: xv, 0, hv, rfl, rfl, q, atI_nat (j := 0) rfl, ?_⟩
          refine ⟨_, rfl, h, _, rh, rfl, _, rfl, ite2 (fun i1 => ?_) (fun i1 => ?_)⟩
          · refine ⟨_, rfl, a, hv :: xv, rfl, .inr q, rfl, _, rfl, ite2 (fun h4 => ?_) (fun h4 => ?_)⟩
            · have h5 := len_is h4
              obtain ⟨x, d, rfl, rfl, rx⟩ := one_of rt (by simp at h5; omega)
              refine ⟨_, rfl, a, [hv, x], 1, x, rfl, rfl, q, atI_nat (j := 1) rfl, x, d, rfl, rx, ?_⟩
              have := k _ (.refl _)
              unfold isE at this
              rw [if_pos i1] at this
              exact this
            · have h5 := len_ne h4
              have := k _ (.refl _)
              unfold isE at this
              rw [if_pos i1, tl_ne1 (by rw [← RpAll.len rt]; simp at h5; omega)] at this
              exact this
          refine ⟨_, rfl, h, _, rh, rfl, _, rfl, ite2 (fun i2 => ?_) (fun i2 => ?_)⟩
          · refine ⟨_, rfl, a, hv :: xv, rfl, .inr q, rfl, ?_⟩
            have := k _ (.refl _)
            unfold isE at this
            rw [if_neg i1, if_pos i2] at this
            cases rt with
            | nil => exact this
            | @cons b c d e _ rt2 =>
              rw [show decide (V.int ((hv :: b :: c).length : Int) = V.int 1) = false from decide_eq_false (fun z => by have := V.int.inj z; simp at this; omega)]
              exact this
          refine ⟨_, rfl, h, _, rh, rfl, _, rfl, ite2 (fun i3 => ?_) (fun i3 => ?_)⟩
          · refine ⟨_, rfl, a, hv :: xv, rfl, .inr q, rfl, _, rfl, ite2 (fun h4 => ?_) (fun h4 => ?_)⟩
            · have h5 := len_is h4
              obtain ⟨x, d, rfl, rfl, rx⟩ := one_of rt (by simp at h5; omega)
              refine ⟨_, rfl, a, [hv, x], 1, x, rfl, rfl, q, atI_nat (j := 1) rfl, x, d, rfl, rx, (sm_cons small2).1, fun H' s' => ?_⟩
              have := k _ s'
              unfold isE at this
              rw [if_neg i1, if_neg i2, if_pos i3] at this
              exact this
            · have h5 := len_ne h4
              have := k _ (.refl _)
              unfold isE at this
              rw [if_neg i1, if_neg i2, if_pos i3, tl_ne1 (by rw [← RpAll.len rt]; simp at h5; omega)] at this
              exact this
          refine ⟨_, rfl, sz (by simp), fun t Gt ft st et => ?_⟩
          refine ⟨h, t, ops, Rp.same st rh, rfl, SqT.of et, _, rfl, ite2 (fun i4 => ?_) (fun i4 => ?_)⟩
          · have q2 := sqT_same st q
            refine ⟨_, rfl, a, hv :: xv, rfl, .inr q2, rfl, _, rfl, ite2 (fun h4 => ?_) (fun h4 => ?_)⟩
            · have h5 := len_is h4
              obtain ⟨x, y, d, e, rfl, rfl, rx, ry⟩ := two_of rt (by simp at h5; omega)
              have sx := sm_cons small2
              have sy := sm_cons sx.2
              refine ⟨_, rfl, a, [hv, x, y], 1, x, rfl, rfl, q2, atI_nat (j := 1) rfl, _, rfl, _, _, rfl, rfl, x, d, n, by simp, by omega, Rp.same st rx, sx.1, fun H1 s1 => ?_⟩
              refine ⟨_, rfl, ite2 (fun h6 => ?_) (fun h6 => ?_)⟩
              · refine ⟨_, rfl, a, [hv, x, y], 2, y, rfl, rfl, sqT_same s1 q2, atI_nat (j := 2) rfl, _, rfl, _, _, rfl, rfl, y, e, n, by simp, by omega, Rp.same (st.trans s1) ry, sy.1, fun H2 s2 => ?_⟩
                have := k _ ((st.trans s1).trans s2)
                unfold isE at this
                rw [if_neg i1, if_neg i2, if_neg i3, if_pos i4] at this
                rw [show (match ([d, e] : List PyData) with | [a, b] => isE n a && isE n b | _ => false) = isE n e by show (isE n d && isE n e) = _; rw [h6]; rfl] at this
                exact this
              · have := k _ (st.trans s1)
                unfold isE at this
                rw [if_neg i1, if_neg i2, if_neg i3, if_pos i4] at this
                rw [show (match ([d, e] : List PyData) with | [a, b] => isE n a && isE n b | _ => false) = false by show (isE n d && isE n e) = _; rw [Bool.eq_false_iff.mpr h6]; rfl] at this
                exact this
            · have h5 := len_ne h4
              have := k _ st
              unfold isE at this
              rw [if_neg i1, if_neg i2, if_neg i3, if_pos i4, tl_ne2 (by rw [← RpAll.len rt]; simp at h5; omega)] at this
              exact this
          · have := k _ st
            unfold isE at this
            rw [if_neg i1, if_neg i2, if_neg i3, if_neg i4] at this
            exact this
      | _ => exact absurd rfl h2
theorem scCon : FnScope ["value", "deep", "head"] ["value", "deep"] (defScope sCon) := ⟨rfl, rfl, rfl, by decide +kernel, rfl, by decide +kernel, by decide +kernel⟩
theorem ok_con {f fE : Addr} {fd fdE : FuncData} {t6 : Tok} (F : FunD K "is_condition" "is_condition" (defArgs sCon) (defBody sCon) (defScope sCon) [V.int 6] [] f fd) (T : TxtH mg) (TCon : DefT K mg "is_condition" f) (bCon : Binds K fd ["value", "deep"] [])
    (GExp : FnOk P w K mg base CX0 10 fE fdE ["value", "deep"] (spExp K 7)) (TExp : DefT K mg "is_expression" fE) (bExp6 : Binds K fdE ["value", "deep"] [.int 6 t6]) : ∀ m, FnOk P w K mg base CX0 (m + 11) f fd ["value", "deep"] (spCon K m)
  | 0 => by
    refine F.ok scCon (fun vs H Q E h => ?_) (fun cdv A outer s H vs Q E hr h => ?_)
    · obtain ⟨v, d, n, rfl, _⟩ := h
      rfl
    · obtain ⟨v, d, n, rfl, lt, _⟩ := h
      exact absurd lt (Nat.not_lt_zero _)
  | m + 1 => by
    have GCon := ok_con F T TCon bCon GExp TExp bExp6 m
    refine F.ok scCon (fun vs H Q E h => ?_) (fun cdv A outer s H vs Q E hr h => ?_)
    · obtain ⟨v, d, n, rfl, _⟩ := h
      rfl
    · obtain ⟨v, d, n, rfl, lt, r, small, k⟩ := h
      have hu := hu_of hr
      refine ⟨_, (pss_cons (ps_if (PW.pt (pw_or (pt_cmpR op_eq (pv 1) pe_int (nomark _)) (pw_or (pt_not (pt_val (pe_callB call_isi (by rfl) T.isinstance (by decide +kernel) (pa_cons (pv 0) (pa_cons (pe_bltn (v := V.ty "tuple") (by rfl) T.tuple (by decide +kernel) rfl) pa_nil))))) (pw_or1 (pt_cmpR op_eq (pe_callB call_len_seq (by rfl) T.len PySem.boot_len (pa_cons (pv 0) pa_nil)) pe_int (nomark _)))))) (pss_one (ps_ret pe_bl)) pss_nil)
        (pss_cons (ps_set (i := 2) scCon.nd rfl (Or.inl rfl) (pe_ix ix_tup (pv 0) pe_int (fun _ _ => rfl)))
        (pss_cons (ps_if (pt_cmpR (KEq.op_inS hu) (pv 2) (Ab.pe_tupA (pa_cons pe_str (pa_cons pe_str pa_nil))) rfl) (pss_one (ps_ret (pe_and (pe_cmpR op_eq (pe_callB call_len_seq (by rfl) T.len PySem.boot_len (pa_cons (pv 0) pa_nil)) pe_int (nomark _)) (pe_and (pe_call GExp (hr.mono (by omega)) rfl TExp.mg TExp.kp bExp6 (.cons (show L2.RelV (V.int 6) (Value.int 6 t6) from ⟨_, rfl⟩) .nil) pass0 (pa_cons (pe_ix ix_tup (pv 0) pe_int (fun _ _ => rfl)) pa_nil)) (pe_one (pe_call GExp (hr.mono (by omega)) rfl TExp.mg TExp.kp bExp6 (.cons (show L2.RelV (V.int 6) (Value.int 6 t6) from ⟨_, rfl⟩) .nil) pass0 (pa_cons (pe_ix ix_tup (pv 0) pe_int (fun _ _ => rfl)) pa_nil))))))) pss_nil)
        (pss_cons (ps_if (pt_cmpR (KEq.op_eqS hu) (pv 2) pe_str (nomark _)) (pss_one (ps_ret (pe_and (pe_cmpR op_eq (pe_callB call_len_seq (by rfl) T.len PySem.boot_len (pa_cons (pv 0) pa_nil)) pe_int (nomark _)) (pe_one (pe_call GCon (hr.mono (by omega)) rfl TCon.mg TCon.kp bCon .nil pass0 (pa_cons (pe_ix ix_tup (pv 0) pe_int (fun _ _ => rfl)) (pa_cons (pe_op op_sub (pv 1) pe_int) pa_nil))))))) pss_nil)
        (pss_cons (ps_if (pt_cmpR (KEq.op_inS hu) (pv 2) (Ab.pe_tupA (pa_cons pe_str (pa_cons pe_str pa_nil))) rfl) (pss_one (ps_ret (pe_and (pe_cmpR op_eq (pe_callB call_len_seq (by rfl) T.len PySem.boot_len (pa_cons (pv 0) pa_nil)) pe_int (nomark _)) (pe_and (pe_call GCon (hr.mono (by omega)) rfl TCon.mg TCon.kp bCon .nil pass0 (pa_cons (pe_ix ix_tup (pv 0) pe_int (fun _ _ => rfl)) (pa_cons (pe_op op_sub (pv 1) pe_int) pa_nil))) (pe_one (pe_call GCon (hr.mono (by omega)) rfl TCon.mg TCon.kp bCon .nil pass0 (pa_cons (pe_ix ix_tup (pv 0) pe_int (fun _ _ => rfl)) (pa_cons (pe_op op_sub (pv 1) pe_int) pa_nil)))))))) pss_nil)
        (pss_one (ps_ret pe_bl))))))), ?_⟩
      refine ⟨_, rfl, rfl, _, rfl, ite2 (fun h1 => ?_) (fun h1 => ?_)⟩
      · have e : n = 0 := by have := V.int.inj (of_decide_eq_true h1); omega
        refine iteT ?_
        have := k _ (.refl _)
        rw [e] at this
        exact this
      obtain ⟨n, rfl⟩ : ∃ j, n = j + 1 := ⟨n - 1, by
        have : n ≠ 0 := fun z => h1 (by rw [z]; rfl)
        omega⟩
      refine ⟨_, rfl, v, .ty "tuple", _, _, _, rfl, .ty _, rp_ty r, kit_tup d, _, rfl, ite2 (fun h2 => ?_) (fun h2 => ?_)⟩
      · refine iteT ?_
        have := k _ (.refl _)
        rw [c_not (by simpa using h2)] at this
        exact this
      cases r with
      | @tup a xs ds q rr =>
        cases rr with
        | nil =>
          refine ⟨_, rfl, a, [], rfl, .inr q, rfl, _, rfl, iteT ?_⟩
          exact k _ (.refl _)
        | @cons hv xv h tl rh rt =>
          obtain ⟨small1, small2⟩ := sm_cons (sm_tup small)
          refine ⟨_, rfl, a, hv :: xv, rfl, .inr q, rfl, _, rfl, ite2 (fun h3 => ?_) (fun _ => ?_)⟩
          · exact absurd (len_is h3) (by simp; omega)
          refine ⟨_, rfl, a, hv :: xv, 0, hv, rfl, rfl, q, atI_nat (j := 0) rfl, ?_⟩
          refine ⟨_, rfl, sz (by simp), fun t Gt ft st et => ?_⟩
          have q2 := sqT_same st q
          refine ⟨h, t, ["<", "="], Rp.same st rh, rfl, SqT.of et, _, rfl, ite2 (fun i1 => ?_) (fun i1 => ?_)⟩
          · refine ⟨_, rfl, a, hv :: xv, rfl, .inr q2, rfl, _, rfl, ite2 (fun h4 => ?_) (fun h4 => ?_)⟩
            · have h5 := len_is h4
              obtain ⟨x, y, d, e, rfl, rfl, rx, ry⟩ := two_of rt (by simp at h5; omega)
              have sx := sm_cons small2
              have sy := sm_cons sx.2
              refine ⟨_, rfl, a, [hv, x, y], 1, x, rfl, rfl, q2, atI_nat (j := 1) rfl, x, d, 6, rfl, by omega, Rp.same st rx, sx.1, fun H1 s1 => ?_⟩
              refine ⟨_, rfl, ite2 (fun h6 => ?_) (fun h6 => ?_)⟩
              · refine ⟨_, rfl, a, [hv, x, y], 2, y, rfl, rfl, sqT_same s1 q2, atI_nat (j := 2) rfl, y, e, 6, rfl, by omega, Rp.same (st.trans s1) ry, sy.1, fun H2 s2 => ?_⟩
                have := k _ ((st.trans s1).trans s2)
                unfold isC at this
                rw [if_pos i1] at this
                rw [show (match ([d, e] : List PyData) with | [a, b] => isE 6 a && isE 6 b | _ => false) = isE 6 e by show (isE 6 d && isE 6 e) = _; rw [h6]; rfl] at this
                exact this
              · have := k _ (st.trans s1)
                unfold isC at this
                rw [if_pos i1] at this
                rw [show (match ([d, e] : List PyData) with | [a, b] => isE 6 a && isE 6 b | _ => false) = false by show (isE 6 d && isE 6 e) = _; rw [Bool.eq_false_iff.mpr h6]; rfl] at this
                exact this
            · have h5 := len_ne h4
              have := k _ st
              unfold isC at this
              rw [if_pos i1, tl_ne2 (by rw [← RpAll.len rt]; simp at h5; omega)] at this
              exact this
          refine ⟨_, rfl, h, _, Rp.same st rh, rfl, _, rfl, ite2 (fun i2 => ?_) (fun i2 => ?_)⟩
          · refine ⟨_, rfl, a, hv :: xv, rfl, .inr q2, rfl, _, rfl, ite2 (fun h4 => ?_) (fun h4 => ?_)⟩
            · have h5 := len_is h4
              obtain ⟨x, d, rfl, rfl, rx⟩ := one_of rt (by simp at h5; omega)
              refine ⟨_, rfl, a, [hv, x], 1, x, rfl, rfl, q2, atI_nat (j := 1) rfl, _, rfl, _, _, rfl, rfl, x, d, n, by simp, by omega, Rp.same st rx, (sm_cons small2).1, fun H1 s1 => ?_⟩
              have := k _ (st.trans s1)
              unfold isC at this
              rw [if_neg i1, if_pos i2] at this
              exact this
            · have h5 := len_ne h4
              have := k _ st
              unfold isC at this
              rw [if_neg i1, if_pos i2, tl_ne1 (by rw [← RpAll.len rt]; simp at h5; omega)] at this
              exact this
          refine ⟨_, rfl, sz (by simp), fun t3 Gt3 ft3 st3 et3 => ?_⟩
          have q3 := sqT_same st3 q2
          have st' := st.trans st3
          refine ⟨h, t3, ["and", "or"], Rp.same st' rh, rfl, SqT.of et3, _, rfl, ite2 (fun i3 => ?_) (fun i3 => ?_)⟩
          · refine ⟨_, rfl, a, hv :: xv, rfl, .inr q3, rfl, _, rfl, ite2 (fun h4 => ?_) (fun h4 => ?_)⟩
            · have h5 := len_is h4
              obtain ⟨x, y, d, e, rfl, rfl, rx, ry⟩ := two_of rt (by simp at h5; omega)
              have sx := sm_cons small2
              have sy := sm_cons sx.2
              refine ⟨_, rfl, a, [hv, x, y], 1, x, rfl, rfl, q3, atI_nat (j := 1) rfl, _, rfl, _, _, rfl, rfl, x, d, n, by simp, by omega, Rp.same st' rx, sx.1, fun H1 s1 => ?_⟩
              refine ⟨_, rfl, ite2 (fun h6 => ?_) (fun h6 => ?_)⟩
              · refine ⟨_, rfl, a, [hv, x, y], 2, y, rfl, rfl, sqT_same s1 q3, atI_nat (j := 2) rfl, _, rfl, _, _, rfl, rfl, y, e, n, by simp, by omega, Rp.same (st'.trans s1) ry, sy.1, fun H2 s2 => ?_⟩
                have := k _ ((st'.trans s1).trans s2)
                unfold isC at this
                rw [if_neg i1, if_neg i2, if_pos i3] at this
                rw [show (match ([d, e] : List PyData) with | [a, b] => isC n a && isC n b | _ => false) = isC n e by show (isC n d && isC n e) = _; rw [h6]; rfl] at this
                exact this
              · have := k _ (st'.trans s1)
                unfold isC at this
                rw [if_neg i1, if_neg i2, if_pos i3] at this
                rw [show (match ([d, e] : List PyData) with | [a, b] => isC n a && isC n b | _ => false) = false by show (isC n d && isC n e) = _; rw [Bool.eq_false_iff.mpr h6]; rfl] at this
                exact this
            · have h5 := len_ne h4
              have := k _ st'
              unfold isC at this
              rw [if_neg i1, if_neg i2, if_pos i3, tl_ne2 (by rw [← RpAll.len rt]; simp at h5; omega)] at this
              exact this
          · have := k _ st'
            unfold isC at this
            rw [if_neg i1, if_neg i2, if_neg i3] at this
            exact this
      | _ => exact absurd rfl h2
end
end Hd

set_option Elab.async false
set_option linter.all false
set_option maxRecDepth 100000
set_option maxHeartbeats 4000000
namespace Hd
open PySem L2 Pen RG Dat KEq
abbrev sHand : Stmt := top 15
abbrev sRoom : Stmt := top 16
abbrev sDeed : Stmt := top 17
abbrev sOne : Stmt := top 18
def isOne : PyData → Bool
  | .tuple (h :: tl) =>
    if isS h "set" = true then (match tl with | [a, b] => isWord a && isE 6 b | _ => false)
    else if isS h "send" = true then (match tl with | [a, b, c] => isWord a && (isKey b && isE 6 c) | _ => false)
    else isS h "fail" && (match tl with | [] => true | _ => false)
  | _ => false
def roomAll (f : PyData → Nat → Option Nat) : List PyData → Nat → Option Nat
  | [], r => some r
  | _ :: _, 0 => none
  | d :: ds, r + 1 => (f d r).bind (roomAll f ds)
def roomR (f : PyData → Nat → Option Nat) : PyData → Nat → Option Nat
  | .tuple ds, r => roomAll f ds r
  | _, _ => none
def deedR : Nat → PyData → Nat → Option Nat
  | 0, d, r => if isOne d = true then some r else none
  | i + 1, d, r => if isOne d = true then some r else
    match d with
    | .tuple [h, c, a, b] => if isS h "if" = true then (if isC 6 c = true then (roomR (deedR i) a r).bind (roomR (deedR i) b) else none) else none
    | _ => none
def hOk (d : PyData) : Bool := (roomR (deedR 3) d 12).isSome
def oV : Option Nat → V
  | none => .non
  | some n => .int n
def spOne (K : PySem.W.Frag) : Sp := fun vs H Q _ => ∃ v d, vs = [v] ∧ Rp K H v d ∧ sm d = true ∧ ∀ H', Same H H' → Q (.bl (isOne d)) H'
def spDeed (K : PySem.W.Frag) (m : Nat) : Sp := fun vs H Q _ => ∃ (v : V) (d : PyData) (r i : Nat), vs = [v, .int r, .int i] ∧ i < m ∧ Rp K H v d ∧ sm d = true ∧ ∀ H', Same H H' → Q (oV (deedR i d r)) H'
def spRoom (K : PySem.W.Frag) (m : Nat) : Sp := fun vs H Q _ => ∃ (v : V) (d : PyData) (r i : Nat), vs = [v, .int r, .int i] ∧ i < m ∧ Rp K H v d ∧ sm d = true ∧ ∀ H', Same H H' → Q (oV (roomR (deedR i) d r)) H'
def spHand (K : PySem.W.Frag) : Sp := fun vs H Q _ => ∃ v d, vs = [v] ∧ Rp K H v d ∧ sm d = true ∧ ∀ H', Same H H' → Q (.bl (hOk d)) H'
structure TxtM (mg : Str → Option Value) : Prop where
  DEEDS : ∃ t, mg "MOST_DEEDS" = some (.int 12 t)
  IFS : ∃ t, mg "MOST_IFS" = some (.int 3 t)
theorem one_cons {h : PyData} {tl : List PyData} : isOne (.tuple (h :: tl)) = if isS h "set" = true then (match tl with | [a, b] => isWord a && isE 6 b | _ => false)
    else if isS h "send" = true then (match tl with | [a, b, c] => isWord a && (isKey b && isE 6 c) | _ => false)
    else isS h "fail" && (match tl with | [] => true | _ => false) := rfl
theorem one_set_ne {h : PyData} {tl : List PyData} (hS : isS h "set" = true) (hl : tl.length ≠ 2) : isOne (.tuple (h :: tl)) = false := by
  rw [one_cons, if_pos hS]
  rcases tl with _ | ⟨a, _ | ⟨b, _ | ⟨c, t⟩⟩⟩ <;> first | rfl | exact absurd rfl hl
theorem one_send_ne {h : PyData} {tl : List PyData} (h1 : ¬ isS h "set" = true) (hS : isS h "send" = true) (hl : tl.length ≠ 3) : isOne (.tuple (h :: tl)) = false := by
  rw [one_cons, if_neg h1, if_pos hS]
  rcases tl with _ | ⟨a, _ | ⟨b, _ | ⟨c, _ | ⟨e, t⟩⟩⟩⟩ <;> first | rfl | exact absurd rfl hl
theorem one_not {d : PyData} (h : isTup d = false) : isOne d = false := by
  cases d <;> first | rfl | cases h
theorem three_of {K : PySem.W.Frag} {G : Hp} {xs : List V} {ds : List PyData} (r : RpAll K G xs ds) (h : xs.length = 3) : ∃ x y z d e f, xs = [x, y, z] ∧ ds = [d, e, f] ∧ Rp K G x d ∧ Rp K G y e ∧ Rp K G z f := by
  cases r with
  | nil => cases h
  | cons a t =>
    obtain ⟨y, z, e, f, rfl, rfl, q, q2⟩ := two_of t (by simpa using h)
    exact ⟨_, y, z, _, e, f, rfl, rfl, a, q, q2⟩
theorem tl_ne3 {α : Type} {f : PyData → PyData → PyData → α} {c : α} : ∀ {tl : List PyData}, tl.length ≠ 3 → (match tl with | [a, b, d] => f a b d | _ => c) = c
  | [], _ => rfl
  | [a], _ => rfl
  | [a, b], _ => rfl
  | [a, b, d], h => absurd rfl h
  | a :: b :: d :: e :: t, _ => rfl
section
variable {P : Program} {w : World} {K : PySem.W.Frag} {mg : Str → Option Value} {base : Heap}
theorem scOne : FnScope ["value", "head"] ["value"] (defScope sOne) := ⟨rfl, rfl, rfl, by decide +kernel, rfl, by decide +kernel, by decide +kernel⟩
theorem ok_one {f fE fW fK : Addr} {fd fdE fdW fdK : FuncData} {t6 : Tok} (F : Fun K "is_single_deed" "is_single_deed" sOne f fd) (T : TxtH mg)
    (GExp : FnOk P w K mg base CX0 10 fE fdE ["value", "deep"] (spExp K 7)) (TExp : DefT K mg "is_expression" fE) (bExp : Binds K fdE ["value", "deep"] [.int 6 t6])
    (GWord : FnOk P w K mg base CX0 1 fW fdW ["value"] (spWord K)) (TWord : DefT K mg "is_word" fW) (bWord : Binds K fdW ["value"] [])
    (GKey : FnOk P w K mg base CX0 2 fK fdK ["value"] (spKey K)) (TKey : DefT K mg "is_key" fK) (bKey : Binds K fdK ["value"] []) : FnOk P w K mg base CX0 11 f fd ["value"] (spOne K) := by
  refine F.ok scOne (fun vs H Q E h => ?_) (fun cdv A outer s H vs Q E hr h => ?_)
  · obtain ⟨v, d, rfl, _⟩ := h
    rfl
  · obtain ⟨v, d, rfl, r, small, k⟩ := h
    have hu := hu_of hr
    refine ⟨_, (pss_cons (ps_if (PW.pt (pw_or (pt_not (pt_val (pe_callB call_isi (by rfl) T.isinstance (by decide +kernel) (pa_cons (pv 0) (pa_cons (pe_bltn (v := V.ty "tuple") (by rfl) T.tuple (by decide +kernel) rfl) pa_nil))))) (pw_or1 (pt_cmpR op_eq (pe_callB call_len_seq (by rfl) T.len PySem.boot_len (pa_cons (pv 0) pa_nil)) pe_int (nomark _))))) (pss_one (ps_ret pe_bl)) pss_nil)
      (pss_cons (ps_set (i := 1) scOne.nd rfl (Or.inl rfl) (pe_ix ix_tup (pv 0) pe_int (fun _ _ => rfl)))
      (pss_cons (ps_if (pt_cmpR (KEq.op_eqS hu) (pv 1) pe_str (nomark _)) (pss_one (ps_ret (pe_and (pe_cmpR op_eq (pe_callB call_len_seq (by rfl) T.len PySem.boot_len (pa_cons (pv 0) pa_nil)) pe_int (nomark _)) (pe_and (pe_call GWord (hr.mono (by decide)) rfl TWord.mg TWord.kp bWord .nil pass0 (pa_cons (pe_ix ix_tup (pv 0) pe_int (fun _ _ => rfl)) pa_nil)) (pe_one (pe_call GExp (hr.mono (by decide)) rfl TExp.mg TExp.kp bExp (.cons (show L2.RelV (V.int 6) (Value.int 6 t6) from ⟨_, rfl⟩) .nil) pass0 (pa_cons (pe_ix ix_tup (pv 0) pe_int (fun _ _ => rfl)) pa_nil))))))) pss_nil)
      (pss_cons (ps_if (pt_cmpR (KEq.op_eqS hu) (pv 1) pe_str (nomark _)) (pss_one (ps_ret (pe_and (pe_cmpR op_eq (pe_callB call_len_seq (by rfl) T.len PySem.boot_len (pa_cons (pv 0) pa_nil)) pe_int (nomark _)) (pe_and (pe_call GWord (hr.mono (by decide)) rfl TWord.mg TWord.kp bWord .nil pass0 (pa_cons (pe_ix ix_tup (pv 0) pe_int (fun _ _ => rfl)) pa_nil)) (pe_and (pe_call GKey (hr.mono (by decide)) rfl TKey.mg TKey.kp bKey .nil pass0 (pa_cons (pe_ix ix_tup (pv 0) pe_int (fun _ _ => rfl)) pa_nil)) (pe_one (pe_call GExp (hr.mono (by decide)) rfl TExp.mg TExp.kp bExp (.cons (show L2.RelV (V.int 6) (Value.int 6 t6) from ⟨_, rfl⟩) .nil) pass0 (pa_cons (pe_ix ix_tup (pv 0) pe_int (fun _ _ => rfl)) pa_nil)))))))) pss_nil)
      (pss_one (ps_ret (pe_and (pe_cmpR (KEq.op_eqS hu) (pv 1) pe_str (nomark _)) (pe_one (pe_cmpR op_eq (pe_callB call_len_seq (by rfl) T.len PySem.boot_len (pa_cons (pv 0) pa_nil)) pe_int (nomark _)))))))))), ?_⟩
    refine ⟨_, rfl, v, .ty "tuple", _, _, _, rfl, .ty _, rp_ty r, kit_tup d, _, rfl, ite2 (fun h2 => ?_) (fun h2 => ?_)⟩
    · refine iteT ?_
      have := k _ (.refl _)
      rw [one_not (by simpa using h2)] at this
      exact this
    cases r with
    | @tup a xs ds q rr =>
      cases rr with
      | nil =>
        refine ⟨_, rfl, a, [], rfl, .inr q, rfl, _, rfl, iteT ?_⟩
        exact k _ (.refl _)
      | @cons hv xv h tl rh rt =>
        obtain ⟨small1, small2⟩ := sm_cons (sm_tup small)
        refine ⟨_, rfl, a, hv :: xv, rfl, .inr q, rfl, _, rfl, ite2 (fun h3 => ?_) (fun _ => ?_)⟩
        · exact absurd (len_is h3) (by simp; omega)
        refine ⟨_, rfl, a, hv :: xv, 0, hv, rfl, rfl, q, atI_nat (j := 0) rfl, ?_⟩
        refine ⟨_, rfl, h, _, rh, rfl, _, rfl, ite2 (fun i1 => ?_) (fun i1 => ?_)⟩
        · refine ⟨_, rfl, a, hv :: xv, rfl, .inr q, rfl, _, rfl, ite2 (fun h4 => ?_) (fun h4 => ?_)⟩
          · have h5 := len_is h4
            obtain ⟨x, y, d, e, rfl, rfl, rx, ry⟩ := two_of rt (by simp at h5; omega)
            have sx := sm_cons small2
            have sy := sm_cons sx.2
            refine ⟨_, rfl, a, [hv, x, y], 1, x, rfl, rfl, q, atI_nat (j := 1) rfl, x, d, rfl, rx, sx.1, fun H1 s1 => ?_⟩
            refine ⟨_, rfl, ite2 (fun h6 => ?_) (fun h6 => ?_)⟩
            · refine ⟨_, rfl, a, [hv, x, y], 2, y, rfl, rfl, sqT_same s1 q, atI_nat (j := 2) rfl, y, e, 6, rfl, by omega, Rp.same s1 ry, sy.1, fun H2 s2 => ?_⟩
              have := k _ (s1.trans s2)
              rw [one_cons] at this
              rw [if_pos i1] at this
              rw [show (match ([d, e] : List PyData) with | [a, b] => isWord a && isE 6 b | _ => false) = isE 6 e by show (isWord d && isE 6 e) = _; rw [h6]; rfl] at this
              exact this
            · have := k _ s1
              rw [one_cons] at this
              rw [if_pos i1] at this
              rw [show (match ([d, e] : List PyData) with | [a, b] => isWord a && isE 6 b | _ => false) = false by show (isWord d && isE 6 e) = _; rw [Bool.eq_false_iff.mpr h6]; rfl] at this
              exact this
          · have h5 := len_ne h4
            have := k _ (.refl _)
            rw [one_set_ne i1 (by rw [← RpAll.len rt]; simp at h5; omega)] at this
            exact this
        refine ⟨_, rfl, h, _, rh, rfl, _, rfl, ite2 (fun i2 => ?_) (fun i2 => ?_)⟩
        · refine ⟨_, rfl, a, hv :: xv, rfl, .inr q, rfl, _, rfl, ite2 (fun h4 => ?_) (fun h4 => ?_)⟩
          · have h5 := len_is h4
            obtain ⟨x, y, z, d, e, g, rfl, rfl, rx, ry, rz⟩ := three_of rt (by simp at h5; omega)
            have sx := sm_cons small2
            have sy := sm_cons sx.2
            have sz' := sm_cons sy.2
            refine ⟨_, rfl, a, [hv, x, y, z], 1, x, rfl, rfl, q, atI_nat (j := 1) rfl, x, d, rfl, rx, sx.1, fun H1 s1 => ?_⟩
            refine ⟨_, rfl, ite2 (fun h6 => ?_) (fun h6 => ?_)⟩
            · refine ⟨_, rfl, a, [hv, x, y, z], 2, y, rfl, rfl, sqT_same s1 q, atI_nat (j := 2) rfl, y, e, rfl, Rp.same s1 ry, sy.1, fun H2 s2 => ?_⟩
              refine ⟨_, rfl, ite2 (fun h7 => ?_) (fun h7 => ?_)⟩
              · refine ⟨_, rfl, a, [hv, x, y, z], 3, z, rfl, rfl, sqT_same (s1.trans s2) q, atI_nat (j := 3) rfl, z, g, 6, rfl, by omega, Rp.same (s1.trans s2) rz, sz'.1, fun H3 s3 => ?_⟩
                have := k _ ((s1.trans s2).trans s3)
                rw [one_cons] at this
                rw [if_neg i1, if_pos i2] at this
                rw [show (match ([d, e, g] : List PyData) with | [a, b, c] => isWord a && (isKey b && isE 6 c) | _ => false) = isE 6 g by show (isWord d && (isKey e && isE 6 g)) = _; rw [h6, h7]; rfl] at this
                exact this
              · have := k _ (s1.trans s2)
                rw [one_cons] at this
                rw [if_neg i1, if_pos i2] at this
                rw [show (match ([d, e, g] : List PyData) with | [a, b, c] => isWord a && (isKey b && isE 6 c) | _ => false) = false by show (isWord d && (isKey e && isE 6 g)) = _; rw [h6, Bool.eq_false_iff.mpr h7]; rfl] at this
                exact this
            · have := k _ s1
              rw [one_cons] at this
              rw [if_neg i1, if_pos i2] at this
              rw [show (match ([d, e, g] : List PyData) with | [a, b, c] => isWord a && (isKey b && isE 6 c) | _ => false) = false by show (isWord d && (isKey e && isE 6 g)) = _; rw [Bool.eq_false_iff.mpr h6]; rfl] at this
              exact this
          · have h5 := len_ne h4
            have := k _ (.refl _)
            rw [one_send_ne i1 i2 (by rw [← RpAll.len rt]; simp at h5; omega)] at this
            exact this
        refine ⟨_, rfl, h, _, rh, rfl, _, rfl, ite2 (fun i3 => ?_) (fun i3 => ?_)⟩
        · refine ⟨_, rfl, a, hv :: xv, rfl, .inr q, rfl, ?_⟩
          have := k _ (.refl _)
          rw [one_cons] at this
          rw [if_neg i1, if_neg i2, i3] at this
          cases rt with
          | nil => exact this
          | @cons b c d e _ rt2 =>
            rw [show decide (V.int ((hv :: b :: c).length : Int) = V.int 1) = false from decide_eq_false (fun z => by have := V.int.inj z; simp at this; omega)]
            exact this
        · have := k _ (.refl _)
          rw [one_cons] at this
          rw [if_neg i1, if_neg i2, Bool.eq_false_iff.mpr i3] at this
          exact this
    | _ => exact absurd rfl h2
theorem scRoom : FnScope ["deeds", "room", "ifs", "deed"] ["deeds", "room", "ifs"] (defScope sRoom) := ⟨rfl, rfl, rfl, by decide +kernel, rfl, by decide +kernel, by decide +kernel⟩
theorem scDeed : FnScope ["deed", "room", "ifs"] ["deed", "room", "ifs"] (defScope sDeed) := ⟨rfl, rfl, rfl, by decide +kernel, rfl, by decide +kernel, by decide +kernel⟩
theorem room_not {f : PyData → Nat → Option Nat} {d : PyData} {r : Nat} (h : isTup d = false) : roomR f d r = none := by
  cases d <;> first | rfl | cases h
theorem smAll_get : ∀ {ds : List PyData} {i : Nat} {d : PyData}, smAll ds = true → ds[i]? = some d → sm d = true
  | [], i, d, _, h => by simp at h
  | x :: xs, 0, d, s, h => by
    have e := Option.some.inj h
    subst e
    exact (sm_cons s).1
  | x :: xs, i + 1, d, s, h => smAll_get (ds := xs) (i := i) (sm_cons s).2 h
theorem rp_get {K : PySem.W.Frag} {G : Hp} : ∀ {vs : List V} {ds : List PyData} {i : Nat} {v : V}, RpAll K G vs ds → vs[i]? = some v → ∃ d, ds[i]? = some d ∧ Rp K G v d
  | _, _, i, _, .nil, h => by simp at h
  | _, _, 0, v, .cons q t, h => by
    have e := Option.some.inj h
    subst e
    exact ⟨_, rfl, q⟩
  | _, _, i + 1, v, .cons q t, h => rp_get (i := i) t h
theorem drop_get {α : Type} : ∀ {l : List α} {i : Nat} {x : α}, l[i]? = some x → l.drop i = x :: l.drop (i + 1)
  | [], i, x, h => by simp at h
  | a :: l, 0, x, h => by
    have e : a = x := Option.some.inj h
    subst e
    rfl
  | a :: l, i + 1, x, h => drop_get (l := l) (i := i) h
theorem oV_non {o : Option Nat} : decide (oV o = V.non) = o.isNone := by
  cases o <;> simp [oV]
theorem ok_room {f fD : Addr} {fd fdD : FuncData} (m n : Nat) (F : Fun K "room_after" "room_after" sRoom f fd) (T : TxtH mg)
    (GDeed : FnOk P w K mg base CX0 n fD fdD ["deed", "room", "ifs"] (spDeed K m)) (TDeed : DefT K mg "room_after_deed" fD) (bDeed : Binds K fdD ["deed", "room", "ifs"] []) : FnOk P w K mg base CX0 (n + 1) f fd ["deeds", "room", "ifs"] (spRoom K m) := by
  refine F.ok scRoom (fun vs H Q E h => ?_) (fun cdv A outer s H vs Q E hr h => ?_)
  · obtain ⟨v, d, r, i, rfl, _⟩ := h
    rfl
  · obtain ⟨v, d, r, j, rfl, lt, rp, small, k⟩ := h
    refine ⟨_, (pss_cons (ps_if (pt_not (pt_val (pe_callB call_isi (by rfl) T.isinstance (by decide +kernel) (pa_cons (pv 0) (pa_cons (pe_bltn (v := V.ty "tuple") (by rfl) T.tuple (by decide +kernel) rfl) pa_nil))))) (pss_one (ps_ret pe_non)) pss_nil)
      (pss_cons (ps_for PassesOwn.never rfl (pi_tup (pv 0)) (pg_name (i := 3) scRoom.nd rfl (Or.inl rfl)) (pss_cons (ps_if (pt_cmpR op_eq (pv 1) pe_int (nomark _)) (pss_one (ps_ret pe_non)) pss_nil)
      (pss_cons (ps_set (i := 1) scRoom.nd rfl (Or.inl rfl) (pe_call GDeed (hr.mono (by omega)) rfl TDeed.mg TDeed.kp bDeed .nil pass0 (pa_cons (pv 3) (pa_cons (pe_op op_sub (pv 1) pe_int) (pa_cons (pv 2) pa_nil)))))
      (pss_one (ps_if (pt_cmpR op_isN (pv 1) pe_non (nomark _)) (pss_one (ps_ret pe_non)) pss_nil)))))
      (pss_one (ps_ret (pv 1))))), ?_⟩
    refine ⟨_, rfl, v, .ty "tuple", _, _, _, rfl, .ty _, rp_ty rp, kit_tup d, _, rfl, ite2 (fun h2 => ?_) (fun h2 => ?_)⟩
    · have := k _ (.refl _)
      rw [room_not (by simpa using h2)] at this
      exact this
    cases rp with
    | @tup a xs ds q rr =>
      have sall : smAll ds = true := sm_tup small
      refine ⟨_, rfl, a, rfl, ⟨_, q⟩, for_tup (xs := xs) (fun i σ H' => σ.length = 4 ∧ σ[2]? = some (some (.int j)) ∧ Same H H' ∧ ∃ r' : Nat, σ[1]? = some (some (.int r')) ∧ roomAll (deedR j) ds r = roomAll (deedR j) (ds.drop i) r') ⟨rfl, rfl, .refl _, r, rfl, rfl⟩ ?_ ?_ ?_⟩
      · intro i σ H' _ ⟨_, _, s', _⟩
        exact sqT_same s' q
      · intro i x σ H' hx ⟨l0, v2, s', r', v1, er⟩
        obtain ⟨d, hd, rd⟩ := rp_get rr hx
        rw [drop_get hd] at er
        have z1 : (σ.set 3 (some x))[1]? = some (some (V.int (r' : Int))) := by simp [v1]
        have z2 : (σ.set 3 (some x))[2]? = some (some (V.int (j : Int))) := by simp [v2]
        have z3 : (σ.set 3 (some x))[3]? = some (some x) := by simp [l0]
        refine ⟨_, z1, rfl, _, rfl, ite2 (fun h3 => ?_) (fun h3 => ?_)⟩
        · have e0 : r' = 0 := by have := V.int.inj (of_decide_eq_true h3); omega
          subst e0
          have := k _ s'
          rw [show roomR (deedR j) (.tuple ds) r = none from er] at this
          exact this
        · obtain ⟨r2, rfl⟩ : ∃ t, r' = t + 1 := ⟨r' - 1, by
            have : r' ≠ 0 := fun z => h3 (by rw [z]; rfl)
            omega⟩
          refine ⟨_, z3, _, z1, _, _, rfl, rfl, _, z2, x, d, r2, j, by simp, lt, Rp.same s' rd, smAll_get sall hd, fun H2 s2 => ?_⟩
          have y1 : ((σ.set 3 (some x)).set 1 (some (oV (deedR j d r2))))[1]? = some (some (oV (deedR j d r2))) := by simp [l0]
          refine ⟨_, y1, rfl, _, rfl, ?_⟩
          rw [oV_non]
          have er' : roomAll (deedR j) ds r = (deedR j d r2).bind (roomAll (deedR j) (ds.drop (i + 1))) := er
          cases o : deedR j d r2 with
          | none =>
            refine iteT ?_
            rw [o] at er'
            have := k _ (s'.trans s2)
            rw [show roomR (deedR j) (.tuple ds) r = none from er'] at this
            exact this
          | some r3 =>
            refine iteF ?_
            rw [o] at er' y1
            exact ⟨by simp [l0], by simp [v2], s'.trans s2, r3, y1, er'⟩
      · intro σ H' ⟨l0, v2, s', r', v1, er⟩
        have e : ds.drop xs.length = [] := by rw [RpAll.len rr]; simp
        rw [e] at er
        have := k _ s'
        rw [show roomR (deedR j) (.tuple ds) r = some r' from er] at this
        exact ⟨_, v1, this⟩
    | _ => exact absurd rfl h2
theorem deed_one {i r : Nat} {d : PyData} (h : isOne d = true) : deedR i d r = some r := by
  cases i with
  | zero => unfold deedR; rw [if_pos h]
  | succ i => unfold deedR; rw [if_pos h]
theorem deed_zero {r : Nat} {d : PyData} (h : ¬ isOne d = true) : deedR 0 d r = none := by
  unfold deedR
  rw [if_neg h]
theorem deed_four {i r : Nat} {h c a b : PyData} (n : ¬ isOne (.tuple [h, c, a, b]) = true) : deedR (i + 1) (.tuple [h, c, a, b]) r = if isS h "if" = true then (if isC 6 c = true then (roomR (deedR i) a r).bind (roomR (deedR i) b) else none) else none := by
  rw [deedR, if_neg n]
theorem deed_ne {i r : Nat} {d : PyData} (n : ¬ isOne d = true) (h : isTof d 4 = false) : deedR (i + 1) d r = none := by
  unfold deedR
  rw [if_neg n]
  cases d with
  | tuple ds =>
    rcases ds with _ | ⟨a, _ | ⟨b, _ | ⟨c, _ | ⟨e, _ | ⟨g, t⟩⟩⟩⟩⟩
    · rfl
    · rfl
    · rfl
    · rfl
    · cases h
    · rfl
  | _ => rfl
theorem four_of {K : PySem.W.Frag} {G : Hp} {xs : List V} {ds : List PyData} (r : RpAll K G xs ds) (h : ds.length = 4) : ∃ x y z u d e f g, xs = [x, y, z, u] ∧ ds = [d, e, f, g] ∧ Rp K G x d ∧ Rp K G y e ∧ Rp K G z f ∧ Rp K G u g := by
  cases r with
  | nil => cases h
  | cons a t =>
    obtain ⟨y, z, u, e, f, g, rfl, rfl, q, q2, q3⟩ := three_of t (by rw [RpAll.len t]; simpa using h)
    exact ⟨_, y, z, u, _, e, f, g, rfl, rfl, a, q, q2, q3⟩
theorem ok_deed {f fO fT fC fR : Addr} {fd fdO fdT fdC fdR : FuncData} {t6 : Tok} (m n : Nat) (hn : 18 ≤ n) (F : Fun K "room_after_deed" "room_after_deed" sDeed f fd)
    (GOne : FnOk P w K mg base CX0 11 fO fdO ["value"] (spOne K)) (TOne : DefT K mg "is_single_deed" fO) (bOne : Binds K fdO ["value"] [])
    (GTof : FnOk P w K mg base CX0 1 fT fdT ["value", "length"] (spTof K)) (TTof : DefT K mg "is_tuple_of" fT) (bTof : Binds K fdT ["value", "length"] [])
    (GCon : FnOk P w K mg base CX0 18 fC fdC ["value", "deep"] (spCon K 7)) (TCon : DefT K mg "is_condition" fC) (bCon : Binds K fdC ["value", "deep"] [.int 6 t6])
    (GRoom : FnOk P w K mg base CX0 n fR fdR ["deeds", "room", "ifs"] (spRoom K m)) (TRoom : DefT K mg "room_after" fR) (bRoom : Binds K fdR ["deeds", "room", "ifs"] []) : FnOk P w K mg base CX0 (n + 1) f fd ["deed", "room", "ifs"] (spDeed K (m + 1)) := by
  refine F.ok scDeed (fun vs H Q E h => ?_) (fun cdv A outer s H vs Q E hr h => ?_)
  · obtain ⟨v, d, r, i, rfl, _⟩ := h
    rfl
  · obtain ⟨v, d, r, j, rfl, lt, rp, small, k⟩ := h
    have hu := hu_of hr
    refine ⟨_, (pss_cons (ps_if (pt_val (pe_call GOne (hr.mono (by omega)) rfl TOne.mg TOne.kp bOne .nil pass0 (pa_cons (pv 0) pa_nil))) (pss_one (ps_ret (pv 1))) pss_nil)
      (pss_cons (ps_if (PW.pt (pw_or (pt_cmpR op_eq (pv 2) pe_int (nomark _)) (pw_or (pt_not (pt_val (pe_call GTof (hr.mono (by omega)) rfl TTof.mg TTof.kp bTof .nil pass0 (pa_cons (pv 0) (pa_cons pe_int pa_nil))))) (pw_or (pt_cmpR (KEq.op_neS hu) (pe_ix ix_tup (pv 0) pe_int (fun _ _ => rfl)) pe_str (nomark _)) (pw_or1 (pt_not (pt_val (pe_call GCon (hr.mono (by omega)) rfl TCon.mg TCon.kp bCon (.cons (show L2.RelV (V.int 6) (Value.int 6 t6) from ⟨_, rfl⟩) .nil) pass0 (pa_cons (pe_ix ix_tup (pv 0) pe_int (fun _ _ => rfl)) pa_nil))))))))) (pss_one (ps_ret pe_non)) pss_nil)
      (pss_cons (ps_set (i := 1) scDeed.nd rfl (Or.inl rfl) (pe_call GRoom (hr.mono (by omega)) rfl TRoom.mg TRoom.kp bRoom .nil pass0 (pa_cons (pe_ix ix_tup (pv 0) pe_int (fun _ _ => rfl)) (pa_cons (pv 1) (pa_cons (pe_op op_sub (pv 2) pe_int) pa_nil)))))
      (pss_cons (ps_if (pt_cmpR op_isN (pv 1) pe_non (nomark _)) (pss_one (ps_ret pe_non)) pss_nil)
      (pss_one (ps_ret (pe_call GRoom (hr.mono (by omega)) rfl TRoom.mg TRoom.kp bRoom .nil pass0 (pa_cons (pe_ix ix_tup (pv 0) pe_int (fun _ _ => rfl)) (pa_cons (pv 1) (pa_cons (pe_op op_sub (pv 2) pe_int) pa_nil)))))))))), ?_⟩
    refine ⟨_, rfl, v, d, rfl, rp, small, fun H1 s1 => ⟨_, rfl, ite2 (fun h1 => ?_) (fun h1 => ?_)⟩⟩
    · have := k _ s1
      rw [deed_one h1] at this
      exact ⟨_, rfl, this⟩
    refine ⟨_, rfl, rfl, _, rfl, ite2 (fun h2 => ?_) (fun h2 => ?_)⟩
    · have e : j = 0 := by have := V.int.inj (of_decide_eq_true h2); omega
      subst e
      have := k _ s1
      rw [deed_zero h1] at this
      exact iteT this
    obtain ⟨j, rfl⟩ : ∃ t, j = t + 1 := ⟨j - 1, by
      have : j ≠ 0 := fun z => h2 (by rw [z]; rfl)
      omega⟩
    have rp1 := Rp.same s1 rp
    refine ⟨_, rfl, v, d, 4, rfl, rp1, _, rfl, ite2 (fun h3 => ?_) (fun h3 => ?_)⟩
    · have := k _ s1
      rw [deed_ne h1 (by simpa using h3)] at this
      exact iteT this
    have h3' : isTof d 4 = true := by simpa using h3
    cases rp1 with
    | @tup a xs ds q rr =>
      have h4 : ds.length = 4 := by
        have z : decide ((ds.length : Int) = 4) = true := h3'
        have := of_decide_eq_true z
        omega
      obtain ⟨hv, xc, xa, xb, h, c, da, db, rfl, rfl, rh, rc, ra, rb⟩ := four_of rr h4
      have m1 := sm_cons (sm_tup small)
      have m2 := sm_cons m1.2
      have m3 := sm_cons m2.2
      have m4 := sm_cons m3.2
      have D := deed_four (i := j) (r := r) h1
      refine ⟨_, rfl, a, [hv, xc, xa, xb], 0, hv, rfl, rfl, q, atI_nat (j := 0) rfl, h, _, rh, rfl, _, rfl, ite2 (fun i1 => ?_) (fun i1 => ?_)⟩
      · have := k _ s1
        rw [D, if_neg (by simpa using i1)] at this
        exact iteT this
      refine ⟨_, rfl, a, [hv, xc, xa, xb], 1, xc, rfl, rfl, q, atI_nat (j := 1) rfl, xc, c, 6, rfl, by omega, rc, m2.1, fun H2 s2 => ⟨_, rfl, ite2 (fun i2 => ?_) (fun i2 => ?_)⟩⟩
      · have := k _ (s1.trans s2)
        rw [D, if_pos (by simpa using i1), if_neg (by simpa using i2)] at this
        exact this
      rw [if_pos (by simpa using i1), if_pos (by simpa using i2)] at D
      refine ⟨_, rfl, a, [hv, xc, xa, xb], 2, xa, rfl, rfl, sqT_same s2 q, atI_nat (j := 2) rfl, _, rfl, _, rfl, _, _, rfl, rfl, xa, da, r, j, by simp, by omega, Rp.same s2 ra, m3.1, fun H3 s3 => ?_⟩
      refine ⟨_, rfl, rfl, _, rfl, ?_⟩
      rw [oV_non]
      have s4 := (s1.trans s2).trans s3
      cases o : roomR (deedR j) da r with
      | none =>
        refine iteT ?_
        have := k _ s4
        rw [D, o] at this
        exact this
      | some r2 =>
        refine iteF ?_
        refine ⟨_, rfl, a, [hv, xc, xa, xb], 3, xb, rfl, rfl, sqT_same (s2.trans s3) q, atI_nat (j := 3) rfl, _, rfl, _, rfl, _, _, rfl, rfl, xb, db, r2, j, by simp [oV], by omega, Rp.same (s2.trans s3) rb, m4.1, fun H4 s5 => ?_⟩
        have := k _ (s4.trans s5)
        rw [D, o] at this
        exact this
    | _ => exact absurd rfl h3
theorem ok_rooms {f fD fO fT fC : Addr} {fd fdD fdO fdT fdC : FuncData} {t6 : Tok} (F : Fun K "room_after" "room_after" sRoom f fd) (T : TxtH mg) (FD : Fun K "room_after_deed" "room_after_deed" sDeed fD fdD)
    (TDeed : DefT K mg "room_after_deed" fD) (bDeed : Binds K fdD ["deed", "room", "ifs"] []) (TRoom : DefT K mg "room_after" f) (bRoom : Binds K fd ["deeds", "room", "ifs"] [])
    (GOne : FnOk P w K mg base CX0 11 fO fdO ["value"] (spOne K)) (TOne : DefT K mg "is_single_deed" fO) (bOne : Binds K fdO ["value"] [])
    (GTof : FnOk P w K mg base CX0 1 fT fdT ["value", "length"] (spTof K)) (TTof : DefT K mg "is_tuple_of" fT) (bTof : Binds K fdT ["value", "length"] [])
    (GCon : FnOk P w K mg base CX0 18 fC fdC ["value", "deep"] (spCon K 7)) (TCon : DefT K mg "is_condition" fC) (bCon : Binds K fdC ["value", "deep"] [.int 6 t6]) : ∀ m, FnOk P w K mg base CX0 (2 * m + 18) f fd ["deeds", "room", "ifs"] (spRoom K m)
  | 0 => by
    refine F.ok scRoom (fun vs H Q E h => ?_) (fun cdv A outer s H vs Q E hr h => ?_)
    · obtain ⟨v, d, r, i, rfl, _⟩ := h
      rfl
    · obtain ⟨v, d, r, i, rfl, lt, _⟩ := h
      exact absurd lt (Nat.not_lt_zero _)
  | m + 1 => ok_room (m + 1) (2 * m + 19) F T (ok_deed m (2 * m + 18) (by omega) FD GOne TOne bOne GTof TTof bTof GCon TCon bCon (ok_rooms F T FD TDeed bDeed TRoom bRoom GOne TOne bOne GTof TTof bTof GCon TCon bCon m) TRoom bRoom) TDeed bDeed
theorem scHand : FnScope ["value"] ["value"] (defScope sHand) := ⟨rfl, rfl, rfl, by decide +kernel, rfl, by decide +kernel, by decide +kernel⟩
theorem ok_hand {f fR : Addr} {fd fdR : FuncData} (F : Fun K "is_handler" "is_handler" sHand f fd) (T : TxtM mg) (GRoom : FnOk P w K mg base CX0 26 fR fdR ["deeds", "room", "ifs"] (spRoom K 4)) (TRoom : DefT K mg "room_after" fR) (bRoom : Binds K fdR ["deeds", "room", "ifs"] []) : FnOk P w K mg base CX0 27 f fd ["value"] (spHand K) := by
  refine F.ok scHand (fun vs H Q E h => ?_) (fun cdv A outer s H vs Q E hr h => ?_)
  · obtain ⟨v, d, rfl, _⟩ := h
    rfl
  · obtain ⟨v, d, rfl, r, small, k⟩ := h
    refine ⟨_, (pss_one (ps_ret (pe_cmpR op_notN (pe_call GRoom (hr.mono (by decide)) rfl TRoom.mg TRoom.kp bRoom .nil pass0 (pa_cons (pv 0) (pa_cons (pe_glob (v := V.int 12) (by rfl) T.DEEDS.choose_spec ⟨_, rfl⟩) (pa_cons (pe_glob (v := V.int 3) (by rfl) T.IFS.choose_spec ⟨_, rfl⟩) pa_nil)))) pe_non (nomark _)))), ?_⟩
    refine ⟨_, rfl, v, d, 12, 3, rfl, by omega, r, small, fun H1 s1 => ⟨rfl, ?_⟩⟩
    have := k _ s1
    unfold hOk at this
    rw [oV_non]
    rw [show (!(roomR (deedR 3) d 12).isNone) = (roomR (deedR 3) d 12).isSome by cases roomR (deedR 3) d 12 <;> rfl]
    exact this
end
end Hd

set_option Elab.async false
set_option linter.all false
set_option maxRecDepth 100000
set_option maxHeartbeats 4000000
namespace Hd
open PySem L2 Pen RG Dat KEq
abbrev sLW : Stmt := top 33
abbrev sLN : Stmt := top 34
abbrev sLH : Stmt := top 35
abbrev sLE : Stmt := top 36
abbrev sLC : Stmt := top 37
/-- xs == [] -/
def rEqNil (K : PySem.W.Frag) : R2 := fun x y G Want => ∃ (a b : Addr) (xs : List V), x = .ref a ∧ y = .ref b ∧ SqL K G a xs ∧ SqL K G b [] ∧ Want (.bl xs.isEmpty) G
theorem op_eqNil {X : Cx} (hu : X.A.units + 1 < cLine) : OpR X (compareOp .Eq) (rEqNil X.K) := by
  intro pins st σ G x y v u Want I rx ry h
  obtain ⟨a, b, xs, rfl, rfl, ha, hb, q⟩ := h
  cases rx
  cases ry
  obtain ⟨its, r1, p1, _⟩ := I.list ha
  obtain ⟨jts, r2, p2, _⟩ := I.list hb
  have e2 : jts = [] := by cases r2; rfl
  subst e2
  cases r1 with
  | nil => exact SeqAt.eq_listAt (e := fun _ => true) p1.isList p2.isList rfl (Nat.lt_of_succ_lt hu) (fun j h1 h2 => absurd h1 (Nat.not_lt_zero _)) ⟨.bl true, G, I, rfl, q⟩
  | cons c t => exact SeqAt.eq_list_lengthsAt p1.isList p2.isList (by simp) (Nat.lt_of_succ_lt hu) ⟨.bl false, G, I, rfl, q⟩
/-- d in a list of texts -/
def rInSL (K : PySem.W.Frag) : R2 := fun x y G Want => ∃ (d : PyData) (p : Addr) (zs : List Str), Rp K G x d ∧ y = .ref p ∧ SqL K G p (zs.map V.str) ∧ Want (.bl (zs.any fun z => isS d z)) G
def vS (d : PyData) : Value → Bool
  | .str z _ => isS d z
  | _ => false
theorem any_vS {d : PyData} : ∀ {zs : List Str} {us : List Value}, Vals (zs.map V.str) us → us.any (vS d) = zs.any fun z => isS d z
  | [], _, .nil => rfl
  | z :: zs, _, .cons r t => by
    obtain ⟨k, rfl⟩ := r
    rw [List.any_cons, List.any_cons, any_vS t]
    rfl
theorem op_inSL {X : Cx} (hu : X.A.units + 1 < cLine) : OpR X (compareOp .In) (rInSL X.K) := by
  intro pins st σ G x y v u Want I rx ry h
  obtain ⟨d, p, zs, r, rfl, hq, q⟩ := h
  cases ry
  obtain ⟨its, rl, pl, hz⟩ := I.list hq
  refine SeqAt.in_listAt (vS d) pl.isList (fun w hw => ?_) ⟨.bl _, G, I, rfl, ?_⟩
  · obtain ⟨z, t, rfl⟩ := texts_are rl w (by simpa using hw)
    exact rp_at (A := X.A.in1) (show X.A.units + 1 < cLine from hu) I r rx z t
  · rw [show its.toArray.any (vS d) = its.any (vS d) by simp, any_vS rl]
    exact q
def rNSign : R2 := fun x y H Q => ∃ (c : Nat) (z : Str), x = .str ⟨#[c]⟩ ∧ y = .str z ∧ Q (.bl (!decide (c ∈ z.cps.toList))) H
theorem filt_all {p : Nat → Bool} {f : Nat → V} : ∀ l : List Nat, ((l.filter fun c => !p c).map f).isEmpty = l.all p
  | [] => rfl
  | c :: l => by
    have ih := filt_all (p := p) (f := f) l
    rw [List.filter_cons, List.all_cons]
    cases e : p c with
    | true =>
      rw [if_neg (by simp), ih]
      rfl
    | false =>
      rw [if_pos (by simp)]
      rfl
def hasHead (d : PyData) (zs : List Str) (n : Nat) : Bool := match d with
  | .tuple (h :: tl) => decide (tl.length + 1 = n) && zs.any fun z => isS h z
  | _ => false
def spLH (K : PySem.W.Frag) : Sp := fun vs H Q _ => ∃ (v : V) (d : PyData) (l : Addr) (zs : List Str) (n : Nat), vs = [v, .ref l, .int n] ∧ 1 ≤ n ∧ Rp K H v d ∧ H l = some (.lst (zs.map V.str)) ∧ Q (.bl (hasHead d zs n)) H
theorem isS_inj {h : PyData} {a b : Str} (x : isS h a = true) (y : isS h b = true) : a = b := by
  cases h with
  | str z => exact (eq_of_beq x).symm.trans (eq_of_beq y)
  | _ => cases x
theorem isS_ne {h : PyData} {a b : Str} (x : isS h a = true) (n : a ≠ b) : isS h b = false := by
  cases e : isS h b with
  | false => rfl
  | true => exact absurd (isS_inj x e) n
theorem isS_str {h : PyData} {a : Str} (x : isS h a = true) : isStr h = true := by
  cases h with
  | str z => rfl
  | _ => cases x
theorem no_str {h : PyData} (x : ¬ isStr h = true) (zs : List Str) : (zs.any fun z => isS h z) = false := by
  rw [List.any_eq_false]
  intro z _
  intro y
  exact x (isS_str y)
section
variable {P : Program} {w : World} {K : PySem.W.Frag} {mg : Str → Option Value} {base : Heap}
theorem scLW : FnScope ["_law_thing", "_law_sign"] ["_law_thing"] (defScope sLW) := ⟨rfl, rfl, rfl, by decide +kernel, rfl, by decide +kernel, by decide +kernel⟩
theorem ok_lw {f : Addr} {fd : FuncData} (F : Fun K "_law_is_word" "_law_is_word" sLW f fd) (T : TxtH mg) : FnOk P w K mg base CX0 1 f fd ["_law_thing"] (spWord K) := by
  refine F.ok scLW (fun vs H Q E h => ?_) (fun cdv A outer s H vs Q E hr h => ?_)
  · obtain ⟨v, d, rfl, _⟩ := h
    rfl
  · obtain ⟨v, d, rfl, r, small, k⟩ := h
    have hu := hu_of hr
    refine ⟨_, (pss_cons (ps_if (PW.pt (pw_or (pt_not (pt_val (pe_callB call_isi (by rfl) T.isinstance (by decide +kernel) (pa_cons (pv 0) (pa_cons (pe_bltn (v := V.ty "str") (by rfl) T.str (by decide +kernel) rfl) pa_nil))))) (pw_or1 (pt_not (pt_chain op_lt op_lt pe_int (pe_callB call_len_str (by rfl) T.len PySem.boot_len (pa_cons (pv 0) pa_nil)) pe_int))))) (pss_one (ps_ret pe_bl)) pss_nil)
      (pss_one (ps_ret (pe_cmpR (op_eqNil hu) (pe_lc (own := [("_law_sign", 1)]) (g := gName 1) (tt := tTest (tOp rNSign (tVar 1) (tC (V.str abc)))) (te := (tVar 1)) rfl scLW.nd (pi_str (pv 0)) (blkOk_by (N := ["_law_thing", "_law_sign"]) (sc := defScope sLW) (by decide +kernel)) (fun _ _ _ _ _ => by exact (pg_name (i := 1) scLW.nd rfl (Or.inl rfl))) (fun _ _ _ _ _ => by exact pts_one (pt_cmpR op_notIn_sign (pv 1) pe_str rfl)) (fun _ _ _ _ _ => by exact (pv 1))) (Ab.pe_lstA pa_nil) (nomark _))))), ?_⟩
    refine ⟨_, rfl, v, .ty "str", _, _, _, rfl, .ty _, rp_ty r, kit_str d, _, rfl, ite2 (fun h1 => ?_) (fun h1 => ?_)⟩
    · have e : isWord d = false := by cases d <;> first | rfl | cases h1
      refine iteT ?_
      have := k _ (.refl _)
      rw [e] at this
      exact this
    · cases r with
      | str x =>
        have hl : x.length ≤ 1000 := of_decide_eq_true small
        have no : ¬ (1 ≤ x.length ∧ x.length ≤ 6) → isWord (.str x) = false := by
          intro z
          show (decide (1 ≤ x.length) && decide (x.length ≤ 6) && _) = false
          rw [show (decide (1 ≤ x.length) && decide (x.length ≤ 6)) = false by rw [← Bool.decide_and]; exact decide_eq_false z]
          rfl
        refine ⟨_, rfl, _, rfl, Nat.le_trans hl (by decide), _, _, rfl, rfl, _, rfl, ite2 (fun h2 => ?_) (fun h2 => ?_)⟩
        · refine ⟨_, _, rfl, rfl, _, rfl, ite2 (fun h3 => ?_) (fun h3 => ?_)⟩
          · have := k _ (.refl _)
            rw [no (fun z => by simp at h3; omega)] at this
            exact this
          · have i1 : 1 ≤ x.length := by have := of_decide_eq_true h2; omega
            have i6 : x.length ≤ 6 := by simp at h3; omega
            refine ⟨_, rfl, x, rfl, fun D hD => lc_txt (fun i H' => (∃ cs : List Nat, H' D = some (.lst (cs.map fun c => V.str ⟨#[c]⟩)) ∧ cs.length ≤ i ∧ cs = (x.cps.toList.take i).filter fun c => !decide (c ∈ abc.cps.toList)) ∧ Same H H') ⟨⟨[], upd_same, Nat.le_refl _, rfl⟩, Ab.same_up hD⟩ ?_ ?_⟩
            · intro i c H' hc ⟨⟨cs, e, lc, ec⟩, s'⟩
              have hi : i < x.length := by
                have := (Array.getElem?_eq_some_iff.mp hc).1
                exact this
              have tk := take_more (show x.cps.toList[i]? = some c by rw [Array.getElem?_toList]; exact hc)
              refine ⟨rfl, ?_⟩
              refine ⟨_, rfl, c, abc, rfl, rfl, _, rfl, ite2 (fun h4 => ?_) (fun h4 => ?_)⟩
              · refine ⟨_, rfl, _, e, szl (by simp; omega), ⟨cs ++ [c], by rw [upd_same]; simp, by simp; omega, ?_⟩, ?_⟩
                · rw [tk, List.filter_append, ← ec]
                  congr 1
                  simp only [List.filter_cons, List.filter_nil]
                  rw [if_pos h4]
                · intro b o q
                  rw [upd_ne (ne_of_none q hD)]
                  exact s' _ _ q
              · refine ⟨⟨cs, e, by omega, ?_⟩, s'⟩
                rw [tk, List.filter_append, ← ec]
                simp only [List.filter_cons, List.filter_nil]
                rw [if_neg h4]
                simp
            · intro H' ⟨⟨cs, e, lc, ec⟩, s'⟩
              refine ⟨by show 0 ≤ sizeLine; decide, fun b Hb fb nb sb eb => ?_⟩
              refine ⟨D, b, _, rfl, rfl, SqL.of (sb _ _ e), SqL.of eb, ?_⟩
              have := k _ (s'.trans sb)
              have e2 : isWord (.str x) = (cs.map fun c => V.str ⟨#[c]⟩).isEmpty := by
                rw [List.take_of_length_le (by simp)] at ec
                show (decide (1 ≤ x.length) && decide (x.length ≤ 6) && _) = _
                rw [decide_eq_true i1, decide_eq_true i6, ec, filt_all]
                rfl
              rw [e2] at this
              exact this
        · refine ⟨_, rfl, iteT ?_⟩
          have := k _ (.refl _)
          rw [no (fun z => h2 (decide_eq_true (by have := z.1; omega)))] at this
          exact this
      | _ => exact absurd rfl h1
theorem scLN : FnScope ["_law_thing"] ["_law_thing"] (defScope sLN) := ⟨rfl, rfl, rfl, by decide +kernel, rfl, by decide +kernel, by decide +kernel⟩
theorem ok_ln {f : Addr} {fd : FuncData} (F : Fun K "_law_is_number" "_law_is_number" sLN f fd) (T : TxtH mg) : FnOk P w K mg base CX0 1 f fd ["_law_thing"] (spVal K) := by
  refine F.ok scLN (fun vs H Q E h => ?_) (fun cdv A outer s H vs Q E hr h => ?_)
  · obtain ⟨v, d, rfl, _⟩ := h
    rfl
  · obtain ⟨v, d, rfl, r, k⟩ := h
    refine ⟨_, (pss_one (ps_ret (pe_and (pe_callB call_isi (by rfl) T.isinstance (by decide +kernel) (pa_cons (pv 0) (pa_cons (pe_bltn (v := V.ty "int") (by rfl) T.int (by decide +kernel) rfl) pa_nil))) (pe_and (pe_not (pe_callB call_isi (by rfl) T.isinstance (by decide +kernel) (pa_cons (pv 0) (pa_cons (pe_bltn (v := V.ty "bool") (by rfl) T.bool (by decide +kernel) rfl) pa_nil)))) (pe_one (pe_chain op_le op_le (pe_un un_neg pe_int) (pv 0) pe_int)))))), ?_⟩
    refine ⟨_, rfl, v, .ty "int", _, _, _, rfl, .ty _, rp_ty r, kit_int d, _, rfl, ite2 (fun h1 => ?_) (fun h1 => ?_)⟩
    · refine ⟨_, rfl, v, .ty "bool", _, _, _, rfl, .ty _, rp_ty r, kit_bool d, _, rfl, _, rfl, ite2 (fun h2 => ?_) (fun h2 => ?_)⟩
      · cases r with
        | int i =>
          refine ⟨_, rfl, _, rfl, _, _, rfl, rfl, _, rfl, ite2 (fun h2 => ?_) (fun h2 => ?_)⟩
          · refine ⟨_, _, rfl, rfl, ?_⟩
            have e : isVal (.int i) = decide (i ≤ 99) := by
              show (decide (-99 ≤ i) && decide (i ≤ 99)) = _
              rw [show decide (-99 ≤ i) = true from h2]
              rfl
            rw [e] at k
            exact k
          · have e : isVal (.int i) = false := by
              show (decide (-99 ≤ i) && decide (i ≤ 99)) = _
              rw [show decide (-99 ≤ i) = false from Bool.eq_false_iff.mpr h2]
              rfl
            rw [e] at k
            exact k
        | bl b => cases h2
        | _ => cases h1
      · have e : isVal d = false := by cases d <;> first | rfl | exact absurd rfl h2
        rw [e] at k
        exact k
    · have e : isVal d = false := by cases d <;> first | rfl | exact absurd rfl h1
      rw [e] at k
      exact k
theorem scLH : FnScope ["_law_thing", "_law_heads", "_law_size"] ["_law_thing", "_law_heads", "_law_size"] (defScope sLH) := ⟨rfl, rfl, rfl, by decide +kernel, rfl, by decide +kernel, by decide +kernel⟩
theorem ok_lh {f : Addr} {fd : FuncData} (F : Fun K "_law_has_head" "_law_has_head" sLH f fd) (T : TxtH mg) : FnOk P w K mg base CX0 1 f fd ["_law_thing", "_law_heads", "_law_size"] (spLH K) := by
  refine F.ok scLH (fun vs H Q E h => ?_) (fun cdv A outer s H vs Q E hr h => ?_)
  · obtain ⟨v, d, l, zs, n, rfl, _⟩ := h
    rfl
  · obtain ⟨v, d, l, zs, n, rfl, hn, r, hl, k⟩ := h
    have hu := hu_of hr
    refine ⟨_, (pss_one (ps_ret (pe_and (pe_callB call_isi (by rfl) T.isinstance (by decide +kernel) (pa_cons (pv 0) (pa_cons (pe_bltn (v := V.ty "tuple") (by rfl) T.tuple (by decide +kernel) rfl) pa_nil))) (pe_and (pe_cmpR op_eq (pe_callB call_len_seq (by rfl) T.len PySem.boot_len (pa_cons (pv 0) pa_nil)) (pv 2) (nomark _)) (pe_and (pe_callB call_isi (by rfl) T.isinstance (by decide +kernel) (pa_cons (pe_ix ix_tup (pv 0) pe_int (fun _ _ => rfl)) (pa_cons (pe_bltn (v := V.ty "str") (by rfl) T.str (by decide +kernel) rfl) pa_nil))) (pe_one (pe_cmpR (op_inSL hu) (pe_ix ix_tup (pv 0) pe_int (fun _ _ => rfl)) (pv 1) rfl))))))), ?_⟩
    refine ⟨_, rfl, v, .ty "tuple", _, _, _, rfl, .ty _, rp_ty r, kit_tup d, _, rfl, ite2 (fun h1 => ?_) (fun h1 => ?_)⟩
    · cases r with
      | @tup a xs ds q rr =>
        refine ⟨_, rfl, a, xs, rfl, .inr q, _, rfl, rfl, _, rfl, ite2 (fun h2 => ?_) (fun h2 => ?_)⟩
        · have h3 := len_is h2
          cases rr with
          | nil => simp at h3; omega
          | @cons hv xv h tl rh rt =>
            have e : hasHead (.tuple (h :: tl)) zs n = zs.any fun z => isS h z := by
              show (decide (tl.length + 1 = n) && _) = _
              rw [decide_eq_true (by rw [← RpAll.len rt]; simp at h3; omega)]
              rfl
            rw [e] at k
            refine ⟨_, rfl, a, hv :: xv, 0, hv, rfl, rfl, q, atI_nat (j := 0) rfl, hv, .ty "str", _, _, _, rfl, .ty _, rp_ty rh, kit_str h, _, rfl, ite2 (fun h4 => ?_) (fun h4 => ?_)⟩
            · exact ⟨_, rfl, a, hv :: xv, 0, hv, rfl, rfl, q, atI_nat (j := 0) rfl, _, rfl, h, l, zs, rh, rfl, SqL.of hl, k⟩
            · rw [no_str h4] at k
              exact k
        · have h3 := len_ne h2
          have e : hasHead (.tuple ds) zs n = false := by
            cases rr with
            | nil => rfl
            | @cons hv xv h tl rh rt =>
              show (decide (tl.length + 1 = n) && _) = _
              rw [decide_eq_false (by rw [← RpAll.len rt]; simp at h3; omega)]
              rfl
          rw [e] at k
          exact k
      | _ => cases h1
    · have e : hasHead d zs n = false := by cases d <;> first | rfl | exact absurd rfl h1
      rw [e] at k
      exact k
end
end Hd

set_option Elab.async false
set_option linter.all false
set_option maxRecDepth 100000
set_option maxHeartbeats 4000000
namespace Hd
open PySem L2 Pen RG Dat KEq
theorem hh_len {h : PyData} {tl : List PyData} {zs : List Str} {n : Nat} (x : hasHead (.tuple (h :: tl)) zs n = true) : tl.length + 1 = n ∧ (zs.any fun z => isS h z) = true := by
  have y : (decide (tl.length + 1 = n) && zs.any fun z => isS h z) = true := x
  rw [Bool.and_eq_true, decide_eq_true_eq] at y
  exact y
theorem hh_not {h : PyData} {tl : List PyData} {zs : List Str} {n : Nat} (x : ¬ hasHead (.tuple (h :: tl)) zs n = true) (y : (zs.any fun z => isS h z) = true) : tl.length + 1 ≠ n := by
  intro e
  apply x
  show (decide (tl.length + 1 = n) && zs.any fun z => isS h z) = true
  rw [decide_eq_true e, y]
  rfl
theorem hh_tup {d : PyData} {zs : List Str} {n : Nat} (x : hasHead d zs n = true) : ∃ h tl, d = .tuple (h :: tl) := by
  cases d with
  | tuple ds =>
    cases ds with
    | nil => cases x
    | cons h tl => exact ⟨h, tl, rfl⟩
  | _ => cases x
theorem any1 {h : PyData} {z : Str} : (([z] : List Str).any fun z => isS h z) = isS h z := by simp
theorem ops_any {h : PyData} {b : Str} : ∀ {zs : List Str}, (zs.any fun z => isS h z) = true → (∀ z ∈ zs, z ≠ b) → isS h b = false
  | [], x, _ => by cases x
  | z :: zs, x, n => by
    rw [List.any_cons, Bool.or_eq_true] at x
    rcases x with x | x
    · exact isS_ne x (n z (List.mem_cons_self ..))
    · exact ops_any x fun y hy => n y (List.mem_cons_of_mem _ hy)
theorem e_v {n : Nat} {h a : PyData} (x : isS h tV = true) : isE (n + 1) (.tuple [h, a]) = isVal a := by
  unfold isE
  rw [if_pos x]
theorem e_r {n : Nat} {h a : PyData} (x : isS h tR = true) : isE (n + 1) (.tuple [h, a]) = isWord a := by
  unfold isE
  rw [if_neg (by rw [isS_ne x (by decide)]; decide), if_neg (by rw [isS_ne x (by decide)]; decide), if_pos x]
theorem e_o {n : Nat} {h a b : PyData} (x : (ops.any fun z => isS h z) = true) : isE (n + 1) (.tuple [h, a, b]) = (isE n a && isE n b) := by
  rw [isE]
  rw [if_neg (by rw [ops_any x (by decide)]; decide), if_neg (by rw [ops_any x (by decide)]; decide), if_neg (by rw [ops_any x (by decide)]; decide), if_pos x]
theorem e_b {n : Nat} {h : PyData} {tl : List PyData} (x : ¬ hasHead (.tuple (h :: tl)) [tV] 2 = true) (y : ¬ hasHead (.tuple (h :: tl)) [tR] 2 = true) (z : ¬ hasHead (.tuple (h :: tl)) ops 3 = true) : isE (n + 1) (.tuple (h :: tl)) = hasHead (.tuple (h :: tl)) [tB'] 1 := by
  show _ = (decide (tl.length + 1 = 1) && ([tB'] : List Str).any fun z => isS h z)
  rw [any1]
  unfold isE
  by_cases a1 : isS h tV = true
  · have l := hh_not x (by rw [any1]; exact a1)
    rw [if_pos a1, isS_ne a1 (by decide), Bool.and_false]
    rcases tl with _ | ⟨p, _ | ⟨q, t⟩⟩
    · rfl
    · exact absurd rfl l
    · rfl
  rw [if_neg a1]
  by_cases a2 : isS h tB' = true
  · rw [if_pos a2, a2, Bool.and_true]
    cases tl with
    | nil => rfl
    | cons p t => exact (decide_eq_false (by simp)).symm
  rw [if_neg a2, Bool.eq_false_iff.mpr a2, Bool.and_false]
  by_cases a3 : isS h tR = true
  · have l := hh_not y (by rw [any1]; exact a3)
    rw [if_pos a3]
    rcases tl with _ | ⟨p, _ | ⟨q, t⟩⟩
    · rfl
    · exact absurd rfl l
    · rfl
  rw [if_neg a3]
  by_cases a4 : (ops.any fun z => isS h z) = true
  · have l := hh_not z a4
    rw [if_pos a4]
    rcases tl with _ | ⟨p, _ | ⟨q, _ | ⟨r, t⟩⟩⟩
    · rfl
    · rfl
    · exact absurd rfl l
    · rfl
  · rw [if_neg a4]
theorem c_l {n : Nat} {h a b : PyData} (x : ((["<", "="] : List Str).any fun z => isS h z) = true) : isC (n + 1) (.tuple [h, a, b]) = (isE 6 a && isE 6 b) := by
  rw [isC, if_pos x]
theorem c_a {n : Nat} {h a b : PyData} (x : ((["and", "or"] : List Str).any fun z => isS h z) = true) : isC (n + 1) (.tuple [h, a, b]) = (isC n a && isC n b) := by
  rw [isC]
  rw [if_neg (by simp only [List.any_cons, List.any_nil, ops_any x (b := "<") (by decide), ops_any x (b := "=") (by decide)]; decide), if_neg (by rw [ops_any x (by decide)]; decide), if_pos x]
theorem c_n {n : Nat} {h a : PyData} (x : isS h "not" = true) : isC (n + 1) (.tuple [h, a]) = isC n a := by
  rw [isC]
  rw [if_neg (by simp only [List.any_cons, List.any_nil, isS_ne x (b := "<") (by decide), isS_ne x (b := "=") (by decide)]; decide), if_pos x]
theorem c_o {n : Nat} {d : PyData} (x : ¬ hasHead d ["<", "="] 3 = true) (y : ¬ hasHead d ["and", "or"] 3 = true) (z : ¬ hasHead d ["not"] 2 = true) : isC (n + 1) d = false := by
  cases d with
  | tuple ds =>
    cases ds with
    | nil => rfl
    | cons h tl =>
      unfold isC
      by_cases a1 : ((["<", "="] : List Str).any fun z => isS h z) = true
      · have l := hh_not x a1
        rw [if_pos a1]
        rcases tl with _ | ⟨p, _ | ⟨q, _ | ⟨r, t⟩⟩⟩
        · rfl
        · rfl
        · exact absurd rfl l
        · rfl
      rw [if_neg a1]
      by_cases a2 : isS h "not" = true
      · have l := hh_not z (by rw [any1]; exact a2)
        rw [if_pos a2]
        rcases tl with _ | ⟨p, _ | ⟨q, t⟩⟩
        · rfl
        · exact absurd rfl l
        · rfl
      rw [if_neg a2]
      by_cases a3 : ((["and", "or"] : List Str).any fun z => isS h z) = true
      · have l := hh_not y a3
        rw [if_pos a3]
        rcases tl with _ | ⟨p, _ | ⟨q, _ | ⟨r, t⟩⟩⟩
        · rfl
        · rfl
        · exact absurd rfl l
        · rfl
      · rw [if_neg a3]
  | _ => rfl
section
variable {P : Program} {w : World} {K : PySem.W.Frag} {mg : Str → Option Value} {base : Heap}
theorem scLE : FnScope ["_law_thing", "_law_deep"] ["_law_thing", "_law_deep"] (defScope sLE) := ⟨rfl, rfl, rfl, by decide +kernel, rfl, by decide +kernel, by decide +kernel⟩
theorem ok_le {f fH fN fW : Addr} {fd fdH fdN fdW : FuncData} (F : Fun K "_law_is_e" "_law_is_e" sLE f fd) (T : TxtH mg) (TLE : DefT K mg "_law_is_e" f) (bLE : Binds K fd ["_law_thing", "_law_deep"] [])
    (GLH : FnOk P w K mg base CX0 1 fH fdH ["_law_thing", "_law_heads", "_law_size"] (spLH K)) (TLH : DefT K mg "_law_has_head" fH) (bLH : Binds K fdH ["_law_thing", "_law_heads", "_law_size"] [])
    (GLN : FnOk P w K mg base CX0 1 fN fdN ["_law_thing"] (spVal K)) (TLN : DefT K mg "_law_is_number" fN) (bLN : Binds K fdN ["_law_thing"] [])
    (GLW : FnOk P w K mg base CX0 1 fW fdW ["_law_thing"] (spWord K)) (TLW : DefT K mg "_law_is_word" fW) (bLW : Binds K fdW ["_law_thing"] []) : ∀ m, FnOk P w K mg base CX0 (m + 3) f fd ["_law_thing", "_law_deep"] (spExp K m)
  | 0 => by
    refine F.ok scLE (fun vs H Q E h => ?_) (fun cdv A outer s H vs Q E hr h => ?_)
    · obtain ⟨v, d, n, rfl, _⟩ := h
      rfl
    · obtain ⟨v, d, n, rfl, lt, _⟩ := h
      exact absurd lt (Nat.not_lt_zero _)
  | m + 1 => by
    have GLE := ok_le F T TLE bLE GLH TLH bLH GLN TLN bLN GLW TLW bLW m
    refine F.ok scLE (fun vs H Q E h => ?_) (fun cdv A outer s H vs Q E hr h => ?_)
    · obtain ⟨v, d, n, rfl, _⟩ := h
      rfl
    · obtain ⟨v, d, n, rfl, lt, r, small, k⟩ := h
      have hu := hu_of hr
      refine ⟨_, (pss_cons (ps_if (PW.pt (pw_or (pt_cmpR op_eq (pv 1) pe_int (nomark _)) (pw_or (pt_not (pt_val (pe_callB call_isi (by rfl) T.isinstance (by decide +kernel) (pa_cons (pv 0) (pa_cons (pe_bltn (v := V.ty "tuple") (by rfl) T.tuple (by decide +kernel) rfl) pa_nil))))) (pw_or1 (pt_cmpR op_eq (pe_callB call_len_seq (by rfl) T.len PySem.boot_len (pa_cons (pv 0) pa_nil)) pe_int (nomark _)))))) (pss_one (ps_ret pe_bl)) pss_nil)
        (pss_cons (ps_if (pt_val (pe_call GLH (hr.mono (by omega)) rfl TLH.mg TLH.kp bLH .nil pass0 (pa_cons (pv 0) (pa_cons (Ab.pe_lstA (pa_cons pe_str pa_nil)) (pa_cons pe_int pa_nil))))) (pss_one (ps_ret (pe_call GLN (hr.mono (by omega)) rfl TLN.mg TLN.kp bLN .nil pass0 (pa_cons (pe_ix ix_tup (pv 0) pe_int (fun _ _ => rfl)) pa_nil)))) pss_nil)
        (pss_cons (ps_if (pt_val (pe_call GLH (hr.mono (by omega)) rfl TLH.mg TLH.kp bLH .nil pass0 (pa_cons (pv 0) (pa_cons (Ab.pe_lstA (pa_cons pe_str pa_nil)) (pa_cons pe_int pa_nil))))) (pss_one (ps_ret (pe_call GLW (hr.mono (by omega)) rfl TLW.mg TLW.kp bLW .nil pass0 (pa_cons (pe_ix ix_tup (pv 0) pe_int (fun _ _ => rfl)) pa_nil)))) pss_nil)
        (pss_cons (ps_if (pt_val (pe_call GLH (hr.mono (by omega)) rfl TLH.mg TLH.kp bLH .nil pass0 (pa_cons (pv 0) (pa_cons (Ab.pe_lstA (pa_cons pe_str (pa_cons pe_str (pa_cons pe_str pa_nil)))) (pa_cons pe_int pa_nil))))) (pss_one (ps_ret (pe_and (pe_call GLE (hr.mono (by omega)) rfl TLE.mg TLE.kp bLE .nil pass0 (pa_cons (pe_ix ix_tup (pv 0) pe_int (fun _ _ => rfl)) (pa_cons (pe_op op_sub (pv 1) pe_int) pa_nil))) (pe_one (pe_call GLE (hr.mono (by omega)) rfl TLE.mg TLE.kp bLE .nil pass0 (pa_cons (pe_ix ix_tup (pv 0) pe_int (fun _ _ => rfl)) (pa_cons (pe_op op_sub (pv 1) pe_int) pa_nil))))))) pss_nil)
        (pss_one (ps_ret (pe_call GLH (hr.mono (by omega)) rfl TLH.mg TLH.kp bLH .nil pass0 (pa_cons (pv 0) (pa_cons (Ab.pe_lstA (pa_cons pe_str pa_nil)) (pa_cons pe_int pa_nil)))))))))), ?_⟩
      refine ⟨_, rfl, rfl, _, rfl, ite2 (fun h1 => ?_) (fun h1 => ?_)⟩
      · have e : n = 0 := by have := V.int.inj (of_decide_eq_true h1); omega
        refine iteT ?_
        have := k _ (.refl _)
        rw [e] at this
        exact this
      obtain ⟨n, rfl⟩ : ∃ j, n = j + 1 := ⟨n - 1, by
        have : n ≠ 0 := fun z => h1 (by rw [z]; rfl)
        omega⟩
      refine ⟨_, rfl, v, .ty "tuple", _, _, _, rfl, .ty _, rp_ty r, kit_tup d, _, rfl, ite2 (fun h2 => ?_) (fun h2 => ?_)⟩
      · refine iteT ?_
        have := k _ (.refl _)
        rw [e_not (by simpa using h2)] at this
        exact this
      cases r with
      | @tup a xs ds q rr =>
        cases rr with
        | nil =>
          refine ⟨_, rfl, a, [], rfl, .inr q, rfl, _, rfl, iteT ?_⟩
          exact k _ (.refl _)
        | @cons hv xv h tl rh rt =>
          obtain ⟨small1, small2⟩ := sm_cons (sm_tup small)
          have rp : Rp K H (.ref a) (.tuple (h :: tl)) := .tup q (.cons rh rt)
          refine ⟨_, rfl, a, hv :: xv, rfl, .inr q, rfl, _, rfl, ite2 (fun h3 => ?_) (fun _ => ?_)⟩
          · exact absurd (len_is h3) (by simp; omega)
          refine ⟨_, rfl, sz (by simp), fun l1 G1 f1 n1 s1 e1 => ⟨_, _, l1, [tV], 2, rfl, by decide, Rp.same s1 rp, e1, _, rfl, ite2 (fun i1 => ?_) (fun i1 => ?_)⟩⟩
          · obtain ⟨l, hS⟩ := hh_len i1
            obtain ⟨x, d, rfl, rfl, rx⟩ := one_of rt (by rw [RpAll.len rt]; omega)
            refine ⟨_, rfl, a, [hv, x], 1, x, rfl, rfl, sqT_same s1 q, atI_nat (j := 1) rfl, x, d, rfl, Rp.same s1 rx, ?_⟩
            have := k _ s1
            rw [e_v (by rw [any1] at hS; exact hS)] at this
            exact this
          refine ⟨_, rfl, sz (by simp), fun l2 G2 f2 n2 s2 e2 => ⟨_, _, l2, [tR], 2, rfl, by decide, Rp.same (s1.trans s2) rp, e2, _, rfl, ite2 (fun i2 => ?_) (fun i2 => ?_)⟩⟩
          · obtain ⟨l, hS⟩ := hh_len i2
            obtain ⟨x, d, rfl, rfl, rx⟩ := one_of rt (by rw [RpAll.len rt]; omega)
            refine ⟨_, rfl, a, [hv, x], 1, x, rfl, rfl, sqT_same (s1.trans s2) q, atI_nat (j := 1) rfl, x, d, rfl, Rp.same (s1.trans s2) rx, (sm_cons small2).1, fun H' s' => ?_⟩
            have := k _ ((s1.trans s2).trans s')
            rw [e_r (by rw [any1] at hS; exact hS)] at this
            exact this
          refine ⟨_, rfl, sz (by simp), fun l3 G3 f3 n3 s3 e3 => ⟨_, _, l3, ["+", "-", "*"], 3, rfl, by decide, Rp.same ((s1.trans s2).trans s3) rp, e3, _, rfl, ite2 (fun i3 => ?_) (fun i3 => ?_)⟩⟩
          · obtain ⟨l, hS⟩ := hh_len i3
            have st := (s1.trans s2).trans s3
            obtain ⟨x, y, d, e, rfl, rfl, rx, ry⟩ := two_of rt (by rw [RpAll.len rt]; omega)
            have sx := sm_cons small2
            have sy := sm_cons sx.2
            have E := e_o (n := n) (a := d) (b := e) hS
            refine ⟨_, rfl, a, [hv, x, y], 1, x, rfl, rfl, sqT_same st q, atI_nat (j := 1) rfl, _, rfl, _, _, rfl, rfl, x, d, n, by simp, by omega, Rp.same st rx, sx.1, fun H1 t1 => ?_⟩
            refine ⟨_, rfl, ite2 (fun h6 => ?_) (fun h6 => ?_)⟩
            · refine ⟨_, rfl, a, [hv, x, y], 2, y, rfl, rfl, sqT_same (st.trans t1) q, atI_nat (j := 2) rfl, _, rfl, _, _, rfl, rfl, y, e, n, by simp, by omega, Rp.same (st.trans t1) ry, sy.1, fun H2 t2 => ?_⟩
              have := k _ ((st.trans t1).trans t2)
              rw [E, h6] at this
              exact this
            · have := k _ (st.trans t1)
              rw [E, Bool.eq_false_iff.mpr h6] at this
              exact this
          refine ⟨_, rfl, sz (by simp), fun l4 G4 f4 n4 s4 e4 => ⟨_, _, l4, [tB'], 1, rfl, by decide, Rp.same (((s1.trans s2).trans s3).trans s4) rp, e4, ?_⟩⟩
          have := k _ (((s1.trans s2).trans s3).trans s4)
          rw [e_b i1 i2 i3] at this
          exact this
      | _ => exact absurd rfl h2
theorem scLC : FnScope ["_law_thing", "_law_deep"] ["_law_thing", "_law_deep"] (defScope sLC) := ⟨rfl, rfl, rfl, by decide +kernel, rfl, by decide +kernel, by decide +kernel⟩
theorem ok_lc {f fH fE : Addr} {fd fdH fdE : FuncData} (F : Fun K "_law_is_c" "_law_is_c" sLC f fd) (TLC : DefT K mg "_law_is_c" f) (bLC : Binds K fd ["_law_thing", "_law_deep"] [])
    (GLH : FnOk P w K mg base CX0 1 fH fdH ["_law_thing", "_law_heads", "_law_size"] (spLH K)) (TLH : DefT K mg "_law_has_head" fH) (bLH : Binds K fdH ["_law_thing", "_law_heads", "_law_size"] [])
    (GLE : FnOk P w K mg base CX0 10 fE fdE ["_law_thing", "_law_deep"] (spExp K 7)) (TLE : DefT K mg "_law_is_e" fE) (bLE : Binds K fdE ["_law_thing", "_law_deep"] []) : ∀ m, FnOk P w K mg base CX0 (m + 11) f fd ["_law_thing", "_law_deep"] (spCon K m)
  | 0 => by
    refine F.ok scLC (fun vs H Q E h => ?_) (fun cdv A outer s H vs Q E hr h => ?_)
    · obtain ⟨v, d, n, rfl, _⟩ := h
      rfl
    · obtain ⟨v, d, n, rfl, lt, _⟩ := h
      exact absurd lt (Nat.not_lt_zero _)
  | m + 1 => by
    have GLC := ok_lc F TLC bLC GLH TLH bLH GLE TLE bLE m
    refine F.ok scLC (fun vs H Q E h => ?_) (fun cdv A outer s H vs Q E hr h => ?_)
    · obtain ⟨v, d, n, rfl, _⟩ := h
      rfl
    · obtain ⟨v, d, n, rfl, lt, r, small, k⟩ := h
      have hu := hu_of hr
      refine ⟨_, (pss_cons (ps_if (pt_cmpR op_eq (pv 1) pe_int (nomark _)) (pss_one (ps_ret pe_bl)) pss_nil)
        (pss_cons (ps_if (pt_val (pe_call GLH (hr.mono (by omega)) rfl TLH.mg TLH.kp bLH .nil pass0 (pa_cons (pv 0) (pa_cons (Ab.pe_lstA (pa_cons pe_str (pa_cons pe_str pa_nil))) (pa_cons pe_int pa_nil))))) (pss_one (ps_ret (pe_and (pe_call GLE (hr.mono (by omega)) rfl TLE.mg TLE.kp bLE .nil pass0 (pa_cons (pe_ix ix_tup (pv 0) pe_int (fun _ _ => rfl)) (pa_cons pe_int pa_nil))) (pe_one (pe_call GLE (hr.mono (by omega)) rfl TLE.mg TLE.kp bLE .nil pass0 (pa_cons (pe_ix ix_tup (pv 0) pe_int (fun _ _ => rfl)) (pa_cons pe_int pa_nil))))))) pss_nil)
        (pss_cons (ps_if (pt_val (pe_call GLH (hr.mono (by omega)) rfl TLH.mg TLH.kp bLH .nil pass0 (pa_cons (pv 0) (pa_cons (Ab.pe_lstA (pa_cons pe_str (pa_cons pe_str pa_nil))) (pa_cons pe_int pa_nil))))) (pss_one (ps_ret (pe_and (pe_call GLC (hr.mono (by omega)) rfl TLC.mg TLC.kp bLC .nil pass0 (pa_cons (pe_ix ix_tup (pv 0) pe_int (fun _ _ => rfl)) (pa_cons (pe_op op_sub (pv 1) pe_int) pa_nil))) (pe_one (pe_call GLC (hr.mono (by omega)) rfl TLC.mg TLC.kp bLC .nil pass0 (pa_cons (pe_ix ix_tup (pv 0) pe_int (fun _ _ => rfl)) (pa_cons (pe_op op_sub (pv 1) pe_int) pa_nil))))))) pss_nil)
        (pss_one (ps_ret (pe_and (pe_call GLH (hr.mono (by omega)) rfl TLH.mg TLH.kp bLH .nil pass0 (pa_cons (pv 0) (pa_cons (Ab.pe_lstA (pa_cons pe_str pa_nil)) (pa_cons pe_int pa_nil)))) (pe_one (pe_call GLC (hr.mono (by omega)) rfl TLC.mg TLC.kp bLC .nil pass0 (pa_cons (pe_ix ix_tup (pv 0) pe_int (fun _ _ => rfl)) (pa_cons (pe_op op_sub (pv 1) pe_int) pa_nil)))))))))), ?_⟩
      refine ⟨_, rfl, rfl, _, rfl, ite2 (fun h1 => ?_) (fun h1 => ?_)⟩
      · have e : n = 0 := by have := V.int.inj (of_decide_eq_true h1); omega
        have := k _ (.refl _)
        rw [e] at this
        exact this
      obtain ⟨n, rfl⟩ : ∃ j, n = j + 1 := ⟨n - 1, by
        have : n ≠ 0 := fun z => h1 (by rw [z]; rfl)
        omega⟩
      refine ⟨_, rfl, sz (by simp), fun l1 G1 f1 n1 s1 e1 => ⟨_, _, l1, ["<", "="], 3, rfl, by decide, Rp.same s1 r, e1, _, rfl, ite2 (fun i1 => ?_) (fun i1 => ?_)⟩⟩
      · obtain ⟨h, tl, rfl⟩ := hh_tup i1
        obtain ⟨l, hS⟩ := hh_len i1
        cases r with
        | @tup a xs ds q rr =>
          obtain ⟨hv, x, y, h', d, e, rfl, ed, rh, rx, ry⟩ := three_of rr (by rw [RpAll.len rr]; simp; omega)
          cases ed
          have sx := sm_cons (sm_cons (sm_tup small)).2
          have sy := sm_cons sx.2
          have E := c_l (n := n) (a := d) (b := e) hS
          refine ⟨_, rfl, a, [hv, x, y], 1, x, rfl, rfl, sqT_same s1 q, atI_nat (j := 1) rfl, x, d, 6, rfl, by omega, Rp.same s1 rx, sx.1, fun H1 t1 => ?_⟩
          refine ⟨_, rfl, ite2 (fun h6 => ?_) (fun h6 => ?_)⟩
          · refine ⟨_, rfl, a, [hv, x, y], 2, y, rfl, rfl, sqT_same (s1.trans t1) q, atI_nat (j := 2) rfl, y, e, 6, rfl, by omega, Rp.same (s1.trans t1) ry, sy.1, fun H2 t2 => ?_⟩
            have := k _ ((s1.trans t1).trans t2)
            rw [E, h6] at this
            exact this
          · have := k _ (s1.trans t1)
            rw [E, Bool.eq_false_iff.mpr h6] at this
            exact this
      refine ⟨_, rfl, sz (by simp), fun l2 G2 f2 n2 s2 e2 => ⟨_, _, l2, ["and", "or"], 3, rfl, by decide, Rp.same (s1.trans s2) r, e2, _, rfl, ite2 (fun i2 => ?_) (fun i2 => ?_)⟩⟩
      · obtain ⟨h, tl, rfl⟩ := hh_tup i2
        obtain ⟨l, hS⟩ := hh_len i2
        have st := s1.trans s2
        cases r with
        | @tup a xs ds q rr =>
          obtain ⟨hv, x, y, h', d, e, rfl, ed, rh, rx, ry⟩ := three_of rr (by rw [RpAll.len rr]; simp; omega)
          cases ed
          have sx := sm_cons (sm_cons (sm_tup small)).2
          have sy := sm_cons sx.2
          have E := c_a (n := n) (a := d) (b := e) hS
          refine ⟨_, rfl, a, [hv, x, y], 1, x, rfl, rfl, sqT_same st q, atI_nat (j := 1) rfl, _, rfl, _, _, rfl, rfl, x, d, n, by simp, by omega, Rp.same st rx, sx.1, fun H1 t1 => ?_⟩
          refine ⟨_, rfl, ite2 (fun h6 => ?_) (fun h6 => ?_)⟩
          · refine ⟨_, rfl, a, [hv, x, y], 2, y, rfl, rfl, sqT_same (st.trans t1) q, atI_nat (j := 2) rfl, _, rfl, _, _, rfl, rfl, y, e, n, by simp, by omega, Rp.same (st.trans t1) ry, sy.1, fun H2 t2 => ?_⟩
            have := k _ ((st.trans t1).trans t2)
            rw [E, h6] at this
            exact this
          · have := k _ (st.trans t1)
            rw [E, Bool.eq_false_iff.mpr h6] at this
            exact this
      refine ⟨_, rfl, sz (by simp), fun l3 G3 f3 n3 s3 e3 => ⟨_, _, l3, ["not"], 2, rfl, by decide, Rp.same ((s1.trans s2).trans s3) r, e3, _, rfl, ite2 (fun i3 => ?_) (fun i3 => ?_)⟩⟩
      · obtain ⟨h, tl, rfl⟩ := hh_tup i3
        obtain ⟨l, hS⟩ := hh_len i3
        have st := (s1.trans s2).trans s3
        cases r with
        | @tup a xs ds q rr =>
          obtain ⟨hv, x, h', d, rfl, ed, rh, rx⟩ := two_of rr (by rw [RpAll.len rr]; simp; omega)
          cases ed
          have sx := sm_cons (sm_cons (sm_tup small)).2
          refine ⟨_, rfl, a, [hv, x], 1, x, rfl, rfl, sqT_same st q, atI_nat (j := 1) rfl, _, rfl, _, _, rfl, rfl, x, d, n, by simp, by omega, Rp.same st rx, sx.1, fun H1 t1 => ?_⟩
          have := k _ (st.trans t1)
          rw [c_n (by rw [any1] at hS; exact hS)] at this
          exact this
      · have := k _ ((s1.trans s2).trans s3)
        rw [c_o i1 i2 i3] at this
        exact this
end
end Hd

set_option Elab.async false
set_option linter.all false
set_option maxRecDepth 100000
set_option maxHeartbeats 4000000
namespace Hd
open PySem L2 Pen RG Dat KEq
def areB (f : PyData → Bool) : PyData → Bool
  | .tuple ds => ds.all f
  | _ => false
def deedB : Nat → PyData → Bool
  | 0, d => isOne d
  | i + 1, d => isOne d || (match d with
    | .tuple [h, c, a, b] => isS h "if" && (isC 6 c && (areB (deedB i) a && areB (deedB i) b))
    | _ => false)
def manyAll (f : PyData → Nat) : PyData → Nat
  | .tuple ds => (ds.map f).sum
  | _ => 0
def manyD : Nat → PyData → Nat
  | 0, _ => 1
  | i + 1, .tuple (h :: c :: a :: b :: _) => if isS h "if" = true then 1 + manyAll (manyD i) a + manyAll (manyD i) b else 1
  | _ + 1, _ => 1
theorem one_head {h : PyData} {tl : List PyData} (x : isOne (.tuple (h :: tl)) = true) : isS h "if" = false := by
  rw [one_cons] at x
  by_cases a : isS h "set" = true
  · exact isS_ne a (by decide)
  rw [if_neg a] at x
  by_cases b : isS h "send" = true
  · exact isS_ne b (by decide)
  rw [if_neg b, Bool.and_eq_true] at x
  exact isS_ne x.1 (by decide)
theorem many_pos : ∀ (i : Nat) (d : PyData), 1 ≤ manyD i d
  | 0, _ => Nat.le_refl _
  | i + 1, d => by
    unfold manyD
    split
    · rename_i e
      cases e
    · split
      · omega
      · omega
    · omega
theorem many_one {i : Nat} {d : PyData} (x : isOne d = true) : manyD i d = 1 := by
  cases i with
  | zero => rfl
  | succ i =>
    cases d with
    | tuple ds =>
      rcases ds with _ | ⟨h, _ | ⟨c, _ | ⟨a, _ | ⟨b, t⟩⟩⟩⟩
      · rfl
      · rfl
      · rfl
      · rfl
      · have n := one_head x
        show (if isS h "if" = true then _ else 1) = 1
        rw [n]
        rfl
    | _ => rfl
/-- what a reading f of deeds tells -/
def Tells (f : PyData → Nat → Option Nat) (b : PyData → Bool) (m : PyData → Nat) : Prop := ∀ d r, f d r = if b d = true ∧ m d ≤ r + 1 then some (r + 1 - m d) else none
theorem all_tells {f : PyData → Nat → Option Nat} {b : PyData → Bool} {m : PyData → Nat} (T : Tells f b m) (pos : ∀ d, 1 ≤ m d) : ∀ (ds : List PyData) (r : Nat), roomAll f ds r = if ds.all b = true ∧ (ds.map m).sum ≤ r then some (r - (ds.map m).sum) else none
  | [], r => by simp [roomAll]
  | d :: ds, 0 => by
    have := pos d
    rw [if_neg (by rintro ⟨_, h⟩; simp at h; omega)]
    rfl
  | d :: ds, r + 1 => by
    show (f d r).bind (roomAll f ds) = _
    rw [T d r]
    by_cases c : b d = true ∧ m d ≤ r + 1
    · rw [if_pos c, Option.bind_some, all_tells T pos ds]
      rw [List.all_cons, c.1, Bool.true_and, List.map_cons, List.sum_cons]
      by_cases e : ds.all b = true ∧ (ds.map m).sum ≤ r + 1 - m d
      · rw [if_pos e, if_pos ⟨e.1, by have := e.2; have := c.2; omega⟩]
        congr 1
        omega
      · rw [if_neg e, if_neg (fun z => e ⟨z.1, by have := z.2; omega⟩)]
    · rw [if_neg c, Option.bind_none, if_neg]
      rintro ⟨z, y⟩
      rw [List.all_cons, Bool.and_eq_true] at z
      rw [List.map_cons, List.sum_cons] at y
      exact c ⟨z.1, by omega⟩
theorem room_tells {f : PyData → Nat → Option Nat} {b : PyData → Bool} {m : PyData → Nat} (T : Tells f b m) (pos : ∀ d, 1 ≤ m d) (d : PyData) (r : Nat) : roomR f d r = if areB b d = true ∧ manyAll m d ≤ r then some (r - manyAll m d) else none := by
  cases d with
  | tuple ds => exact all_tells T pos ds r
  | _ => rfl
theorem deed_tells : ∀ i, Tells (deedR i) (deedB i) (manyD i)
  | 0 => fun d r => by
    show (if isOne d = true then some r else none) = if isOne d = true ∧ 1 ≤ r + 1 then some (r + 1 - 1) else none
    by_cases h : isOne d = true
    · rw [if_pos h, if_pos ⟨h, by omega⟩]
      rfl
    · rw [if_neg h, if_neg (fun z => h z.1)]
  | i + 1 => fun d r => by
    by_cases h : isOne d = true
    · rw [deed_one h, many_one h, if_pos]
      · rfl
      · refine ⟨?_, by omega⟩
        unfold deedB
        rw [h]
        rfl
    · by_cases t : isTof d 4 = true
      · cases d with
        | tuple ds =>
          rcases ds with _ | ⟨x, _ | ⟨c, _ | ⟨a, _ | ⟨b, _ | ⟨g, u⟩⟩⟩⟩⟩
          · cases t
          · cases t
          · cases t
          · cases t
          · rw [deed_four h]
            have B : deedB (i + 1) (.tuple [x, c, a, b]) = (isS x "if" && (isC 6 c && (areB (deedB i) a && areB (deedB i) b))) := by
              show (isOne _ || _) = _
              rw [Bool.eq_false_iff.mpr h, Bool.false_or]
            have M : manyD (i + 1) (.tuple [x, c, a, b]) = if isS x "if" = true then 1 + manyAll (manyD i) a + manyAll (manyD i) b else 1 := rfl
            rw [B, M]
            by_cases e1 : isS x "if" = true
            · rw [if_pos e1, if_pos e1, e1, Bool.true_and]
              by_cases e2 : isC 6 c = true
              · rw [if_pos e2, e2, Bool.true_and]
                rw [room_tells (deed_tells i) (many_pos i) a r]
                by_cases e3 : areB (deedB i) a = true ∧ manyAll (manyD i) a ≤ r
                · rw [if_pos e3, Option.bind_some, room_tells (deed_tells i) (many_pos i) b, e3.1, Bool.true_and]
                  by_cases e4 : areB (deedB i) b = true ∧ manyAll (manyD i) b ≤ r - manyAll (manyD i) a
                  · rw [if_pos e4, if_pos ⟨e4.1, by have := e4.2; have := e3.2; omega⟩]
                    congr 1
                    omega
                  · rw [if_neg e4, if_neg (fun z => e4 ⟨z.1, by have := z.2; omega⟩)]
                · rw [if_neg e3, Option.bind_none, if_neg]
                  rintro ⟨z, y⟩
                  rw [Bool.and_eq_true] at z
                  exact e3 ⟨z.1, by omega⟩
              · rw [if_neg e2, Bool.eq_false_iff.mpr e2, Bool.false_and, if_neg]
                rintro ⟨z, _⟩
                cases z
            · rw [if_neg e1, Bool.eq_false_iff.mpr e1, Bool.false_and, if_neg]
              rintro ⟨z, _⟩
              cases z
          · have : decide (((x :: c :: a :: b :: g :: u).length : Int) = 4) = true := t
            have := of_decide_eq_true this
            simp at this
            omega
        | _ => cases t
      · have B : deedB (i + 1) d = false := by
          unfold deedB
          rw [Bool.eq_false_iff.mpr h, Bool.false_or]
          cases d with
          | tuple ds =>
            rcases ds with _ | ⟨x, _ | ⟨c, _ | ⟨a, _ | ⟨b, _ | ⟨g, u⟩⟩⟩⟩⟩
            · rfl
            · rfl
            · rfl
            · rfl
            · exact absurd rfl t
            · rfl
          | _ => rfl
        rw [deed_ne h (Bool.eq_false_iff.mpr t), B, if_neg]
        rintro ⟨z, _⟩
        cases z
/-- both looks tell the same -/
theorem looks_agree (d : PyData) : (areB (deedB 3) d && decide (manyAll (manyD 3) d < 13)) = hOk d := by
  unfold hOk
  rw [room_tells (deed_tells 3) (many_pos 3) d 12]
  by_cases a : areB (deedB 3) d = true
  · by_cases b : manyAll (manyD 3) d ≤ 12
    · rw [if_pos ⟨a, b⟩, a, decide_eq_true (by omega)]
      rfl
    · rw [if_neg (fun z => b z.2), a, decide_eq_false (by omega)]
      rfl
  · rw [if_neg (fun z => a z.1), Bool.eq_false_iff.mpr a]
    rfl
end Hd

set_option Elab.async false
set_option linter.all false
set_option maxRecDepth 100000
set_option maxHeartbeats 4000000
namespace Hd
open PySem L2 Pen RG Dat KEq
abbrev sLD : Stmt := top 38
abbrev sLA : Stmt := top 39
abbrev sLM : Stmt := top 40
abbrev sLI : Stmt := top 41
def spLD (K : PySem.W.Frag) (m : Nat) : Sp := fun vs H Q _ => ∃ (v : V) (d : PyData) (i : Nat), vs = [v, .int i] ∧ i < m ∧ Rp K H v d ∧ sm d = true ∧ ∀ H', Same H H' → Q (.bl (deedB i d)) H'
def spLA (K : PySem.W.Frag) (m : Nat) : Sp := fun vs H Q _ => ∃ (v : V) (d : PyData) (i : Nat), vs = [v, .int i] ∧ i < m ∧ Rp K H v d ∧ sm d = true ∧ ∀ H', Same H H' → Q (.bl (areB (deedB i) d)) H'
def spLM (K : PySem.W.Frag) (m : Nat) : Sp := fun vs H Q _ => ∃ (v : V) (d : PyData) (i : Nat), vs = [v] ∧ i < m ∧ Rp K H v d ∧ sm d = true ∧ areB (deedB i) d = true ∧ ∀ H', Same H H' → Q (.int (manyAll (manyD i) d : Nat)) H'
theorem deed_set {i : Nat} {h a b : PyData} (x : isS h "set" = true) : deedB i (.tuple [h, a, b]) = (isWord a && isE 6 b) := by
  have e : isOne (.tuple [h, a, b]) = (isWord a && isE 6 b) := by rw [one_cons, if_pos x]
  cases i with
  | zero => exact e
  | succ i =>
    show (isOne _ || false) = _
    rw [Bool.or_false]
    exact e
theorem deed_send {i : Nat} {h a b c : PyData} (x : isS h "send" = true) : deedB i (.tuple [h, a, b, c]) = (isWord a && (isKey b && isE 6 c)) := by
  have e : isOne (.tuple [h, a, b, c]) = (isWord a && (isKey b && isE 6 c)) := by rw [one_cons, if_neg (by rw [isS_ne x (by decide)]; decide), if_pos x]
  cases i with
  | zero => exact e
  | succ i =>
    show (isOne _ || (isS h "if" && _)) = _
    rw [isS_ne x (by decide), Bool.false_and, Bool.or_false]
    exact e
theorem deed_if {i : Nat} {h c a b : PyData} (x : isS h "if" = true) : deedB (i + 1) (.tuple [h, c, a, b]) = (isC 6 c && (areB (deedB i) a && areB (deedB i) b)) := by
  show (isOne _ || (isS h "if" && (isC 6 c && (areB (deedB i) a && areB (deedB i) b)))) = _
  have e : isOne (.tuple [h, c, a, b]) = false := by
    rw [one_cons, if_neg (by rw [isS_ne x (by decide)]; decide), if_neg (by rw [isS_ne x (by decide)]; decide), isS_ne x (by decide), Bool.false_and]
  rw [e, x, Bool.false_or, Bool.true_and]
theorem deed_if0 {h c a b : PyData} (x : isS h "if" = true) : deedB 0 (.tuple [h, c, a, b]) = false := by
  show isOne _ = _
  rw [one_cons, if_neg (by rw [isS_ne x (by decide)]; decide), if_neg (by rw [isS_ne x (by decide)]; decide), isS_ne x (by decide), Bool.false_and]
theorem deed_else {i : Nat} {d : PyData} (x : ¬ hasHead d ["set"] 3 = true) (y : ¬ hasHead d ["send"] 4 = true) (z : ¬ hasHead d ["if"] 4 = true) : deedB i d = hasHead d ["fail"] 1 := by
  have two : isOne d = hasHead d ["fail"] 1 := by
    cases d with
    | tuple ds =>
      cases ds with
      | nil => rfl
      | cons h tl =>
        show _ = (decide (tl.length + 1 = 1) && ([Str.ofString "fail"] : List Str).any fun z => isS h z)
        rw [any1]
        by_cases a1 : isS h "set" = true
        · rw [one_set_ne a1 (fun l => hh_not x (by rw [any1]; exact a1) (by omega)), isS_ne a1 (by decide), Bool.and_false]
        by_cases a2 : isS h "send" = true
        · rw [one_send_ne a1 a2 (fun l => hh_not y (by rw [any1]; exact a2) (by omega)), isS_ne a2 (by decide), Bool.and_false]
        rw [one_cons, if_neg a1, if_neg a2]
        cases tl with
        | nil => simp
        | cons p t => simp
    | _ => rfl
  cases i with
  | zero => exact two
  | succ i =>
    rw [← two]
    unfold deedB
    cases d with
    | tuple ds =>
      rcases ds with _ | ⟨h, _ | ⟨c, _ | ⟨a, _ | ⟨b, _ | ⟨g, u⟩⟩⟩⟩⟩
      · exact Bool.or_false _
      · exact Bool.or_false _
      · exact Bool.or_false _
      · exact Bool.or_false _
      · have n : isS h "if" = false := by
          cases e : isS h "if" with
          | false => rfl
          | true =>
            refine absurd ?_ z
            show (decide ([c, a, b].length + 1 = 4) && ([Str.ofString "if"] : List Str).any fun z => isS h z) = true
            rw [any1, e]
            rfl
        show (isOne _ || (isS h "if" && _)) = _
        rw [n, Bool.false_and, Bool.or_false]
      · exact Bool.or_false _
    | _ => exact Bool.or_false _
theorem key_or {d : PyData} (n : ¬ d = .none) : isKey d = isWord d := by
  cases d with
  | none => exact absurd rfl n
  | _ => rfl
section
variable {P : Program} {w : World} {K : PySem.W.Frag} {mg : Str → Option Value} {base : Heap}
theorem scLD : FnScope ["_law_thing", "_law_ifs"] ["_law_thing", "_law_ifs"] (defScope sLD) := ⟨rfl, rfl, rfl, by decide +kernel, rfl, by decide +kernel, by decide +kernel⟩
theorem ok_ld {f fH fE fW fC fA : Addr} {fd fdH fdE fdW fdC fdA : FuncData} (m n : Nat) (hn : 18 ≤ n) (F : Fun K "_law_is_deed" "_law_is_deed" sLD f fd)
    (GLH : FnOk P w K mg base CX0 1 fH fdH ["_law_thing", "_law_heads", "_law_size"] (spLH K)) (TLH : DefT K mg "_law_has_head" fH) (bLH : Binds K fdH ["_law_thing", "_law_heads", "_law_size"] [])
    (GLE : FnOk P w K mg base CX0 10 fE fdE ["_law_thing", "_law_deep"] (spExp K 7)) (TLE : DefT K mg "_law_is_e" fE) (bLE : Binds K fdE ["_law_thing", "_law_deep"] [])
    (GLC : FnOk P w K mg base CX0 18 fC fdC ["_law_thing", "_law_deep"] (spCon K 7)) (TLC : DefT K mg "_law_is_c" fC) (bLC : Binds K fdC ["_law_thing", "_law_deep"] [])
    (GLW : FnOk P w K mg base CX0 1 fW fdW ["_law_thing"] (spWord K)) (TLW : DefT K mg "_law_is_word" fW) (bLW : Binds K fdW ["_law_thing"] [])
    (GLA : FnOk P w K mg base CX0 n fA fdA ["_law_thing", "_law_ifs"] (spLA K m)) (TLA : DefT K mg "_law_are_deeds" fA) (bLA : Binds K fdA ["_law_thing", "_law_ifs"] []) : FnOk P w K mg base CX0 (n + 1) f fd ["_law_thing", "_law_ifs"] (spLD K (m + 1)) := by
  refine F.ok scLD (fun vs H Q E h => ?_) (fun cdv A outer s H vs Q E hr h => ?_)
  · obtain ⟨v, d, i, rfl, _⟩ := h
    rfl
  · obtain ⟨v, d, i, rfl, lt, r, small, k⟩ := h
    refine ⟨_, (pss_cons (ps_if (pt_val (pe_call GLH (hr.mono (by omega)) rfl TLH.mg TLH.kp bLH .nil pass0 (pa_cons (pv 0) (pa_cons (Ab.pe_lstA (pa_cons pe_str pa_nil)) (pa_cons pe_int pa_nil))))) (pss_one (ps_ret (pe_and (pe_call GLW (hr.mono (by omega)) rfl TLW.mg TLW.kp bLW .nil pass0 (pa_cons (pe_ix ix_tup (pv 0) pe_int (fun _ _ => rfl)) pa_nil)) (pe_one (pe_call GLE (hr.mono (by omega)) rfl TLE.mg TLE.kp bLE .nil pass0 (pa_cons (pe_ix ix_tup (pv 0) pe_int (fun _ _ => rfl)) (pa_cons pe_int pa_nil))))))) pss_nil)
      (pss_cons (ps_if (pt_val (pe_call GLH (hr.mono (by omega)) rfl TLH.mg TLH.kp bLH .nil pass0 (pa_cons (pv 0) (pa_cons (Ab.pe_lstA (pa_cons pe_str pa_nil)) (pa_cons pe_int pa_nil))))) (pss_one (ps_ret (pe_and (pe_call GLW (hr.mono (by omega)) rfl TLW.mg TLW.kp bLW .nil pass0 (pa_cons (pe_ix ix_tup (pv 0) pe_int (fun _ _ => rfl)) pa_nil)) (pe_and (pe_or (pe_cmpR op_isN (pe_ix ix_tup (pv 0) pe_int (fun _ _ => rfl)) pe_non (nomark _)) (pe_one (pe_call GLW (hr.mono (by omega)) rfl TLW.mg TLW.kp bLW .nil pass0 (pa_cons (pe_ix ix_tup (pv 0) pe_int (fun _ _ => rfl)) pa_nil)))) (pe_one (pe_call GLE (hr.mono (by omega)) rfl TLE.mg TLE.kp bLE .nil pass0 (pa_cons (pe_ix ix_tup (pv 0) pe_int (fun _ _ => rfl)) (pa_cons pe_int pa_nil)))))))) pss_nil)
      (pss_cons (ps_if (PW.pt (pw_and (pt_val (pe_call GLH (hr.mono (by omega)) rfl TLH.mg TLH.kp bLH .nil pass0 (pa_cons (pv 0) (pa_cons (Ab.pe_lstA (pa_cons pe_str pa_nil)) (pa_cons pe_int pa_nil))))) (pw_and (pt_cmpR op_gt (pv 1) pe_int (nomark _)) (pw_and1 (pt_val (pe_call GLC (hr.mono (by omega)) rfl TLC.mg TLC.kp bLC .nil pass0 (pa_cons (pe_ix ix_tup (pv 0) pe_int (fun _ _ => rfl)) (pa_cons pe_int pa_nil)))))))) (pss_one (ps_ret (pe_and (pe_call GLA (hr.mono (by omega)) rfl TLA.mg TLA.kp bLA .nil pass0 (pa_cons (pe_ix ix_tup (pv 0) pe_int (fun _ _ => rfl)) (pa_cons (pe_op op_sub (pv 1) pe_int) pa_nil))) (pe_one (pe_call GLA (hr.mono (by omega)) rfl TLA.mg TLA.kp bLA .nil pass0 (pa_cons (pe_ix ix_tup (pv 0) pe_int (fun _ _ => rfl)) (pa_cons (pe_op op_sub (pv 1) pe_int) pa_nil))))))) pss_nil)
      (pss_one (ps_ret (pe_call GLH (hr.mono (by omega)) rfl TLH.mg TLH.kp bLH .nil pass0 (pa_cons (pv 0) (pa_cons (Ab.pe_lstA (pa_cons pe_str pa_nil)) (pa_cons pe_int pa_nil))))))))), ?_⟩
    refine ⟨_, rfl, sz (by simp), fun l1 G1 f1 n1 s1 e1 => ⟨_, _, l1, ["set"], 3, rfl, by decide, Rp.same s1 r, e1, _, rfl, ite2 (fun i1 => ?_) (fun i1 => ?_)⟩⟩
    · obtain ⟨h, tl, rfl⟩ := hh_tup i1
      obtain ⟨l, hS⟩ := hh_len i1
      rw [any1] at hS
      cases r with
      | @tup a xs ds q rr =>
        obtain ⟨hv, x, y, h', d, e, rfl, ed, rh, rx, ry⟩ := three_of rr (by rw [RpAll.len rr]; simp; omega)
        cases ed
        have sx := sm_cons (sm_cons (sm_tup small)).2
        have sy := sm_cons sx.2
        have E := deed_set (i := i) (a := d) (b := e) hS
        refine ⟨_, rfl, a, [hv, x, y], 1, x, rfl, rfl, sqT_same s1 q, atI_nat (j := 1) rfl, x, d, rfl, Rp.same s1 rx, sx.1, fun H1 t1 => ?_⟩
        refine ⟨_, rfl, ite2 (fun h6 => ?_) (fun h6 => ?_)⟩
        · refine ⟨_, rfl, a, [hv, x, y], 2, y, rfl, rfl, sqT_same (s1.trans t1) q, atI_nat (j := 2) rfl, y, e, 6, rfl, by omega, Rp.same (s1.trans t1) ry, sy.1, fun H2 t2 => ?_⟩
          have := k _ ((s1.trans t1).trans t2)
          rw [E, h6] at this
          exact this
        · have := k _ (s1.trans t1)
          rw [E, Bool.eq_false_iff.mpr h6] at this
          exact this
    refine ⟨_, rfl, sz (by simp), fun l2 G2 f2 n2 s2 e2 => ⟨_, _, l2, ["send"], 4, rfl, by decide, Rp.same (s1.trans s2) r, e2, _, rfl, ite2 (fun i2 => ?_) (fun i2 => ?_)⟩⟩
    · obtain ⟨h, tl, rfl⟩ := hh_tup i2
      obtain ⟨l, hS⟩ := hh_len i2
      rw [any1] at hS
      have st := s1.trans s2
      cases r with
      | @tup a xs ds q rr =>
        obtain ⟨hv, x, y, z, h', d, e, g, rfl, ed, rh, rx, ry, rz⟩ := four_of rr (by simp; omega)
        cases ed
        have sx := sm_cons (sm_cons (sm_tup small)).2
        have sy := sm_cons sx.2
        have sz' := sm_cons sy.2
        have E := deed_send (i := i) (a := d) (b := e) (c := g) hS
        refine ⟨_, rfl, a, [hv, x, y, z], 1, x, rfl, rfl, sqT_same st q, atI_nat (j := 1) rfl, x, d, rfl, Rp.same st rx, sx.1, fun H1 t1 => ?_⟩
        refine ⟨_, rfl, ite2 (fun h6 => ?_) (fun h6 => ?_)⟩
        · rw [h6, Bool.true_and] at E
          refine ⟨_, rfl, a, [hv, x, y, z], 2, y, rfl, rfl, sqT_same (st.trans t1) q, atI_nat (j := 2) rfl, rfl, _, rfl, ite2 (fun h7 => ?_) (fun h7 => ?_)⟩
          · have e0 : y = .non := of_decide_eq_true h7
            subst e0
            cases ry
            refine ⟨_, rfl, iteT ?_⟩
            refine ⟨_, rfl, a, [hv, x, .non, z], 3, z, rfl, rfl, sqT_same (st.trans t1) q, atI_nat (j := 3) rfl, z, g, 6, rfl, by omega, Rp.same (st.trans t1) rz, sz'.1, fun H3 t3 => ?_⟩
            have := k _ ((st.trans t1).trans t3)
            rw [E] at this
            exact this
          · have e0 : isKey e = isWord e := key_or (fun z => by subst z; cases ry; exact h7 rfl)
            rw [e0] at E
            refine ⟨_, rfl, a, [hv, x, y, z], 2, y, rfl, rfl, sqT_same (st.trans t1) q, atI_nat (j := 2) rfl, y, e, rfl, Rp.same (st.trans t1) ry, sy.1, fun H2 t2 => ?_⟩
            refine ⟨_, rfl, ite2 (fun h8 => ?_) (fun h8 => ?_)⟩
            · rw [h8, Bool.true_and] at E
              refine ⟨_, rfl, a, [hv, x, y, z], 3, z, rfl, rfl, sqT_same ((st.trans t1).trans t2) q, atI_nat (j := 3) rfl, z, g, 6, rfl, by omega, Rp.same ((st.trans t1).trans t2) rz, sz'.1, fun H3 t3 => ?_⟩
              have := k _ (((st.trans t1).trans t2).trans t3)
              rw [E] at this
              exact this
            · rw [Bool.eq_false_iff.mpr h8, Bool.false_and] at E
              have := k _ ((st.trans t1).trans t2)
              rw [E] at this
              exact this
        · have := k _ (st.trans t1)
          rw [E, Bool.eq_false_iff.mpr h6] at this
          exact this
    refine ⟨_, rfl, sz (by simp), fun l3 G3 f3 n3 s3 e3 => ⟨_, _, l3, ["if"], 4, rfl, by decide, Rp.same ((s1.trans s2).trans s3) r, e3, _, rfl, ite2 (fun i3 => ?_) (fun i3 => ?_)⟩⟩
    · obtain ⟨h, tl, rfl⟩ := hh_tup i3
      obtain ⟨l, hS⟩ := hh_len i3
      rw [any1] at hS
      have st := (s1.trans s2).trans s3
      have r0 := r
      cases r with
      | @tup a xs ds q rr =>
        obtain ⟨hv, x, y, z, h', d, e, g, rfl, ed, rh, rx, ry, rz⟩ := four_of rr (by simp; omega)
        cases ed
        have sx := sm_cons (sm_cons (sm_tup small)).2
        have sy := sm_cons sx.2
        have sz' := sm_cons sy.2
        have nf : hasHead (.tuple [h, d, e, g]) ["fail"] 1 = false := rfl
        have last : ∀ H1, Same H H1 → deedB i (.tuple [h, d, e, g]) = false → ∀ l4 G4, H1 l4 = none → Same H1 G4 → G4 l4 = some (.lst [V.str "fail"]) → spLH K [.ref a, .ref l4, .int 1] G4 Q E0 := by
          intro H1 z1 n0 l4 G4 f4 s4 e4
          refine ⟨_, _, l4, ["fail"], 1, rfl, by decide, Rp.same (z1.trans s4) r0, e4, ?_⟩
          have := k _ (z1.trans s4)
          rw [n0] at this
          rw [nf]
          exact this
        refine ⟨_, rfl, _, _, rfl, rfl, _, rfl, ite2 (fun h5 => ?_) (fun h5 => ?_)⟩
        · obtain ⟨j, rfl⟩ : ∃ t, i = t + 1 := ⟨i - 1, by have := of_decide_eq_true h5; omega⟩
          have E := deed_if (i := j) (c := d) (a := e) (b := g) hS
          refine ⟨_, rfl, a, [hv, x, y, z], 1, x, rfl, rfl, sqT_same st q, atI_nat (j := 1) rfl, x, d, 6, rfl, by omega, Rp.same st rx, sx.1, fun H1 t1 => ⟨_, rfl, ite2 (fun h6 => ?_) (fun h6 => ?_)⟩⟩
          · rw [h6, Bool.true_and] at E
            refine ⟨_, rfl, a, [hv, x, y, z], 2, y, rfl, rfl, sqT_same (st.trans t1) q, atI_nat (j := 2) rfl, _, rfl, _, _, rfl, rfl, y, e, j, by simp, by omega, Rp.same (st.trans t1) ry, sy.1, fun H2 t2 => ?_⟩
            refine ⟨_, rfl, ite2 (fun h7 => ?_) (fun h7 => ?_)⟩
            · rw [h7, Bool.true_and] at E
              refine ⟨_, rfl, a, [hv, x, y, z], 3, z, rfl, rfl, sqT_same ((st.trans t1).trans t2) q, atI_nat (j := 3) rfl, _, rfl, _, _, rfl, rfl, z, g, j, by simp, by omega, Rp.same ((st.trans t1).trans t2) rz, sz'.1, fun H3 t3 => ?_⟩
              have := k _ (((st.trans t1).trans t2).trans t3)
              rw [E] at this
              exact this
            · rw [Bool.eq_false_iff.mpr h7, Bool.false_and] at E
              have := k _ ((st.trans t1).trans t2)
              rw [E] at this
              exact this
          · rw [Bool.eq_false_iff.mpr h6, Bool.false_and] at E
            exact ⟨_, rfl, sz (by simp), fun l4 G4 f4 n4 s4 e4 => last H1 (st.trans t1) E l4 G4 f4 s4 e4⟩
        · have e0 : i = 0 := by
            have : ¬ (0 : Int) < i := fun z => h5 (decide_eq_true z)
            omega
          subst e0
          exact ⟨_, rfl, sz (by simp), fun l4 G4 f4 n4 s4 e4 => last _ st (deed_if0 hS) l4 G4 f4 s4 e4⟩
    · have st := (s1.trans s2).trans s3
      refine ⟨_, rfl, sz (by simp), fun l4 G4 f4 n4 s4 e4 => ⟨_, _, l4, ["fail"], 1, rfl, by decide, Rp.same (st.trans s4) r, e4, ?_⟩⟩
      have := k _ (st.trans s4)
      rw [deed_else i1 i2 i3] at this
      exact this
end
end Hd

set_option Elab.async false
set_option linter.all false
set_option maxRecDepth 100000
set_option maxHeartbeats 4000000
namespace Hd
open PySem L2 Pen RG Dat KEq
theorem allB_get : ∀ {ds : List PyData} {f : PyData → Bool} {i : Nat} {d : PyData}, ds.all f = true → ds[i]? = some d → f d = true
  | ds, f, i, d, x, h => List.all_eq_true.mp x d (List.mem_of_getElem? h)
theorem szl' {n : Nat} (h : n ≤ 1000) : n < sizeLine := Nat.lt_of_le_of_lt h (by decide)
theorem sum_cast {f : PyData → Nat} : ∀ ds : List PyData, (ds.map fun d => ((f d : Nat) : Int)).sum = (((ds.map f).sum : Nat) : Int)
  | [] => rfl
  | d :: ds => by
    rw [List.map_cons, List.sum_cons, List.map_cons, List.sum_cons, sum_cast ds]
    omega
theorem if_shape {i : Nat} {h : PyData} {tl : List PyData} (x : deedB i (.tuple (h :: tl)) = true) (y : isS h "if" = true) : ∃ j c a b, i = j + 1 ∧ tl = [c, a, b] ∧ areB (deedB j) a = true ∧ areB (deedB j) b = true := by
  have n : isOne (.tuple (h :: tl)) = false := by
    rw [one_cons, if_neg (by rw [isS_ne y (by decide)]; decide), if_neg (by rw [isS_ne y (by decide)]; decide), isS_ne y (by decide), Bool.false_and]
  cases i with
  | zero => exact absurd (show isOne (.tuple (h :: tl)) = true from x) (by rw [n]; decide)
  | succ j =>
    rcases tl with _ | ⟨c, _ | ⟨a, _ | ⟨b, _ | ⟨g, u⟩⟩⟩⟩
    · exact absurd (show (isOne _ || false) = true from x) (by rw [n]; decide)
    · exact absurd (show (isOne _ || false) = true from x) (by rw [n]; decide)
    · exact absurd (show (isOne _ || false) = true from x) (by rw [n]; decide)
    · rw [deed_if y, Bool.and_eq_true, Bool.and_eq_true] at x
      exact ⟨j, c, a, b, rfl, rfl, x.2.1, x.2.2⟩
    · exact absurd (show (isOne _ || false) = true from x) (by rw [n]; decide)
theorem deed_shape {i : Nat} {d : PyData} (x : deedB i d = true) : ∃ h tl, d = .tuple (h :: tl) := by
  cases d with
  | tuple ds =>
    cases ds with
    | nil =>
      cases i with
      | zero => cases x
      | succ i => cases x
    | cons h tl => exact ⟨h, tl, rfl⟩
  | _ =>
    cases i with
    | zero => cases x
    | succ i => cases x
theorem many_short {i : Nat} {h : PyData} {tl : List PyData} (y : ¬ isS h "if" = true) : manyD i (.tuple (h :: tl)) = 1 := by
  cases i with
  | zero => rfl
  | succ i =>
    rcases tl with _ | ⟨c, _ | ⟨a, _ | ⟨b, u⟩⟩⟩
    · rfl
    · rfl
    · rfl
    · show (if isS h "if" = true then _ else 1) = 1
      rw [if_neg y]
section
variable {P : Program} {w : World} {K : PySem.W.Frag} {mg : Str → Option Value} {base : Heap}
theorem scLA : FnScope ["_law_thing", "_law_ifs", "_law_one"] ["_law_thing", "_law_ifs"] (defScope sLA) := ⟨rfl, rfl, rfl, by decide +kernel, rfl, by decide +kernel, by decide +kernel⟩
theorem ok_la {f fD : Addr} {fd fdD : FuncData} (m n : Nat) (F : Fun K "_law_are_deeds" "_law_are_deeds" sLA f fd) (T : TxtH mg)
    (GLD : FnOk P w K mg base CX0 n fD fdD ["_law_thing", "_law_ifs"] (spLD K m)) (TLD : DefT K mg "_law_is_deed" fD) (bLD : Binds K fdD ["_law_thing", "_law_ifs"] []) : FnOk P w K mg base CX0 (n + 1) f fd ["_law_thing", "_law_ifs"] (spLA K m) := by
  refine F.ok scLA (fun vs H Q E h => ?_) (fun cdv A outer s H vs Q E hr h => ?_)
  · obtain ⟨v, d, i, rfl, _⟩ := h
    rfl
  · obtain ⟨v, d, j, rfl, lt, r, small, k⟩ := h
    have hu := hu_of hr
    refine ⟨_, (pss_one (ps_ret (pe_and (pe_callB call_isi (by rfl) T.isinstance (by decide +kernel) (pa_cons (pv 0) (pa_cons (pe_bltn (v := V.ty "tuple") (by rfl) T.tuple (by decide +kernel) rfl) pa_nil))) (pe_one (pe_cmpR (op_eqNil hu) (pe_lc (own := [("_law_one", 2)]) (g := gName 2) (tt := tNot (tB (tCall (spLD K m) [] E0 (tCons (tVar 2) (tCons (tVar 1) tNil))))) (te := (tVar 2)) rfl scLA.nd (pi_tup (pv 0)) (blkOk_by (N := ["_law_thing", "_law_ifs", "_law_one"]) (sc := defScope sLA) (by decide +kernel)) (fun _ _ _ _ _ => by exact (pg_name (i := 2) scLA.nd rfl (Or.inl rfl))) (fun _ _ _ _ _ => by exact pts_one (pt_not (pt_val (pe_call GLD (hr.mono (by omega)) rfl TLD.mg TLD.kp bLD .nil pass0 (pa_cons (pv 2) (pa_cons (pv 1) pa_nil)))))) (fun _ _ _ _ _ => by exact (pv 2))) (Ab.pe_lstA pa_nil) (nomark _)))))), ?_⟩
    refine ⟨_, rfl, v, .ty "tuple", _, _, _, rfl, .ty _, rp_ty r, kit_tup d, _, rfl, ite2 (fun h2 => ?_) (fun h2 => ?_)⟩
    · cases r with
      | @tup a xs ds q rr =>
        have sall := sm_tup small
        have slen := sm_len small
        refine ⟨_, rfl, a, rfl, ⟨_, q⟩, fun D hD => lc_tup (xs := xs) (fun i H' => (∃ acc : List V, H' D = some (.lst acc) ∧ acc.length ≤ i ∧ acc.isEmpty = (ds.take i).all (deedB j)) ∧ Same H H') ⟨⟨[], upd_same, Nat.le_refl _, rfl⟩, Ab.same_up hD⟩ ?_ ?_ ?_⟩
        · intro i H' _ ⟨_, s'⟩
          exact sqT_same s' q
        · intro i x H' hx ⟨⟨acc, e, lc, ec⟩, s'⟩
          obtain ⟨d, hd, rd⟩ := rp_get rr hx
          have hi : i < ds.length := (List.getElem?_eq_some_iff.mp hd).1
          have tk := take_more hd
          refine ⟨rfl, ?_⟩
          refine ⟨_, rfl, _, rfl, x, d, j, rfl, lt, Rp.same s' rd, smAll_get sall hd, fun H2 s2 => ⟨_, rfl, ite2 (fun h4 => ?_) (fun h4 => ?_)⟩⟩
          · have h5 : deedB j d = false := by simpa using h4
            refine ⟨_, rfl, acc, s2 _ _ e, szl' (by omega), ⟨acc ++ [x], upd_same, by simp; omega, ?_⟩, ?_⟩
            · rw [tk, List.all_append, List.all_cons, h5]
              simp
            · intro b o q'
              rw [upd_ne (ne_of_none q' hD)]
              exact s2 _ _ (s' _ _ q')
          · have h5 : deedB j d = true := by simpa using h4
            refine ⟨⟨acc, s2 _ _ e, by omega, ?_⟩, s'.trans s2⟩
            rw [tk, List.all_append, List.all_cons, h5, ec]
            simp
        · intro H' ⟨⟨acc, e, lc, ec⟩, s'⟩
          refine ⟨by show 0 ≤ sizeLine; decide, fun b Hb fb nb sb eb => ?_⟩
          refine ⟨D, b, _, rfl, rfl, SqL.of (sb _ _ e), SqL.of eb, ?_⟩
          have := k _ (s'.trans sb)
          rw [show areB (deedB j) (.tuple ds) = acc.isEmpty by
            rw [ec, RpAll.len rr, List.take_length]
            rfl] at this
          exact this
      | _ => cases h2
    · have e : areB (deedB j) d = false := by cases d <;> first | rfl | exact absurd rfl h2
      have := k _ (.refl _)
      rw [e] at this
      exact this
theorem ok_las {f fH fE fW fC fD : Addr} {fd fdH fdE fdW fdC fdD : FuncData} (F : Fun K "_law_are_deeds" "_law_are_deeds" sLA f fd) (T : TxtH mg) (FD : Fun K "_law_is_deed" "_law_is_deed" sLD fD fdD)
    (TLD : DefT K mg "_law_is_deed" fD) (bLD : Binds K fdD ["_law_thing", "_law_ifs"] []) (TLA : DefT K mg "_law_are_deeds" f) (bLA : Binds K fd ["_law_thing", "_law_ifs"] [])
    (GLH : FnOk P w K mg base CX0 1 fH fdH ["_law_thing", "_law_heads", "_law_size"] (spLH K)) (TLH : DefT K mg "_law_has_head" fH) (bLH : Binds K fdH ["_law_thing", "_law_heads", "_law_size"] [])
    (GLE : FnOk P w K mg base CX0 10 fE fdE ["_law_thing", "_law_deep"] (spExp K 7)) (TLE : DefT K mg "_law_is_e" fE) (bLE : Binds K fdE ["_law_thing", "_law_deep"] [])
    (GLC : FnOk P w K mg base CX0 18 fC fdC ["_law_thing", "_law_deep"] (spCon K 7)) (TLC : DefT K mg "_law_is_c" fC) (bLC : Binds K fdC ["_law_thing", "_law_deep"] [])
    (GLW : FnOk P w K mg base CX0 1 fW fdW ["_law_thing"] (spWord K)) (TLW : DefT K mg "_law_is_word" fW) (bLW : Binds K fdW ["_law_thing"] []) : ∀ m, FnOk P w K mg base CX0 (2 * m + 18) f fd ["_law_thing", "_law_ifs"] (spLA K m)
  | 0 => by
    refine F.ok scLA (fun vs H Q E h => ?_) (fun cdv A outer s H vs Q E hr h => ?_)
    · obtain ⟨v, d, i, rfl, _⟩ := h
      rfl
    · obtain ⟨v, d, i, rfl, lt, _⟩ := h
      exact absurd lt (Nat.not_lt_zero _)
  | m + 1 => ok_la (m + 1) (2 * m + 19) F T (ok_ld m (2 * m + 18) (by omega) FD GLH TLH bLH GLE TLE bLE GLC TLC bLC GLW TLW bLW (ok_las F T FD TLD bLD TLA bLA GLH TLH bLH GLE TLE bLE GLC TLC bLC GLW TLW bLW m) TLA bLA) TLD bLD
theorem scLM : FnScope ["_law_deeds_here", "_law_one"] ["_law_deeds_here"] (defScope sLM) := ⟨rfl, rfl, rfl, by decide +kernel, rfl, by decide +kernel, by decide +kernel⟩
theorem ok_lm {f : Addr} {fd : FuncData} (F : Fun K "_law_many_deeds" "_law_many_deeds" sLM f fd) (TS : mg "sum" = none) (TLM : DefT K mg "_law_many_deeds" f) (bLM : Binds K fd ["_law_deeds_here"] []) : ∀ m, FnOk P w K mg base CX0 (m + 1) f fd ["_law_deeds_here"] (spLM K m)
  | 0 => by
    refine F.ok scLM (fun vs H Q E h => ?_) (fun cdv A outer s H vs Q E hr h => ?_)
    · obtain ⟨v, d, i, rfl, _⟩ := h
      rfl
    · obtain ⟨v, d, i, rfl, lt, _⟩ := h
      exact absurd lt (Nat.not_lt_zero _)
  | m + 1 => by
    have GLM := ok_lm F TS TLM bLM m
    refine F.ok scLM (fun vs H Q E h => ?_) (fun cdv A outer s H vs Q E hr h => ?_)
    · obtain ⟨v, d, i, rfl, _⟩ := h
      rfl
    · obtain ⟨v, d, j, rfl, lt, r, small, good, k⟩ := h
      have hu := hu_of hr
      refine ⟨_, (pss_one (ps_ret (pe_callB (cr_sum rfl) (by rfl) TS (by decide +kernel) (pa_cons (pe_lc (own := [("_law_one", 1)]) (g := gName 1) (tt := tYes) (te := (tIf (tTest (tOp (rNeS K) (tOp (rIxT K) (tVar 1) (tC (.int 0))) (tC (.str "if")))) (tC (.int 1)) (tOp (rI0 fun i j => .int (i + j)) (tOp (rI0 fun i j => .int (i + j)) (tC (.int 1)) (tCall (spLM K m) [] E0 (tCons (tOp (rIxT K) (tVar 1) (tC (.int 2))) tNil))) (tCall (spLM K m) [] E0 (tCons (tOp (rIxT K) (tVar 1) (tC (.int 3))) tNil))))) rfl scLM.nd (pi_tup (pv 0)) (blkOk_by (N := ["_law_deeds_here", "_law_one"]) (sc := defScope sLM) (by decide +kernel)) (fun _ _ _ _ _ => by exact (pg_name (i := 1) scLM.nd rfl (Or.inl rfl))) (fun _ _ _ _ _ => by exact pts_nil) (fun _ _ _ _ _ => by exact (pe_ifExp (pt_cmpR (KEq.op_neS hu) (pe_ix ix_tup (pv 1) pe_int (fun _ _ => rfl)) pe_str (nomark _)) pe_int (pe_op op_add (pe_op op_add pe_int (pe_call GLM (hr.mono (by omega)) rfl TLM.mg TLM.kp bLM .nil pass0 (pa_cons (pe_ix ix_tup (pv 1) pe_int (fun _ _ => rfl)) pa_nil))) (pe_call GLM (hr.mono (by omega)) rfl TLM.mg TLM.kp bLM .nil pass0 (pa_cons (pe_ix ix_tup (pv 1) pe_int (fun _ _ => rfl)) pa_nil)))))) pa_nil)))), ?_⟩
      cases r with
      | @tup a xs ds q rr =>
        have sall := sm_tup small
        have slen := sm_len small
        have gall : ds.all (deedB j) = true := good
        refine ⟨_, rfl, a, rfl, ⟨_, q⟩, fun D hD => lc_tup (xs := xs) (fun i H' => H' D = some (.lst (((ds.take i).map fun d => ((manyD j d : Nat) : Int)).map V.int)) ∧ Same H H') ⟨upd_same, Ab.same_up hD⟩ ?_ ?_ ?_⟩
        · intro i H' _ ⟨_, s'⟩
          exact sqT_same s' q
        · intro i x H' hx ⟨e, s'⟩
          obtain ⟨d, hd, rd⟩ := rp_get rr hx
          have hi : i < ds.length := (List.getElem?_eq_some_iff.mp hd).1
          have tk := take_more hd
          have gd := allB_get gall hd
          have sd := smAll_get sall hd
          obtain ⟨h, tl, rfl⟩ := deed_shape gd
          replace rd := Rp.same s' rd
          have fin : ∀ (z : Int) (H2 : Hp), z = ((manyD j (.tuple (h :: tl)) : Nat) : Int) → Same H' H2 → ∃ acc, H2 D = some (.lst acc) ∧ acc.length < sizeLine ∧ (upd H2 D (.lst (acc ++ [.int z])) D = some (.lst (((ds.take (i + 1)).map fun d => ((manyD j d : Nat) : Int)).map V.int)) ∧ Same H (upd H2 D (.lst (acc ++ [.int z])))) := by
            intro z H2 ez s2
            refine ⟨_, s2 _ _ e, szl' (by simp; omega), ?_, ?_⟩
            · rw [upd_same, tk, ez]
              simp
            · intro b o q'
              rw [upd_ne (ne_of_none q' hD)]
              exact s2 _ _ (s' _ _ q')
          refine ⟨rfl, ?_⟩
          unfold tYes
          simp only [↓reduceIte]
          cases rd with
          | @tup ax ys es q2 rr2 =>
            cases rr2 with
            | @cons hv yv _ _ rh rt =>
              refine ⟨_, rfl, ax, hv :: yv, 0, hv, rfl, rfl, q2, atI_nat (j := 0) rfl, h, _, rh, rfl, _, rfl, ite2 (fun h4 => ?_) (fun h4 => ?_)⟩
              · exact fin 1 H' (by rw [many_short (by simpa using h4)]; rfl) (.refl _)
              · have y : isS h "if" = true := by simpa using h4
                obtain ⟨j, c, da, db, rfl, rfl, ga, gb⟩ := if_shape gd y
                obtain ⟨xc, xa, xb, c', d', e', rfl, ed, rc, ra, rb⟩ := three_of rt (by rw [RpAll.len rt]; rfl)
                cases ed
                have m1 := sm_cons (sm_tup sd)
                have m2 := sm_cons m1.2
                have m3 := sm_cons m2.2
                have m4 := sm_cons m3.2
                have M : manyD (j + 1) (.tuple [h, c, da, db]) = 1 + manyAll (manyD j) da + manyAll (manyD j) db := by
                  show (if isS h "if" = true then _ else 1) = _
                  rw [if_pos y]
                refine ⟨_, rfl, ax, [hv, xc, xa, xb], 2, xa, rfl, rfl, q2, atI_nat (j := 2) rfl, xa, da, j, rfl, by omega, ra, m3.1, ga, fun H2 t2 => ?_⟩
                refine ⟨_, _, rfl, rfl, ?_⟩
                refine ⟨_, rfl, ax, [hv, xc, xa, xb], 3, xb, rfl, rfl, sqT_same t2 q2, atI_nat (j := 3) rfl, xb, db, j, rfl, by omega, Rp.same t2 rb, m4.1, gb, fun H3 t3 => ?_⟩
                refine ⟨_, _, rfl, rfl, ?_⟩
                exact fin _ H3 (by rw [M]; omega) (t2.trans t3)
        · intro H' ⟨e, s'⟩
          refine ⟨D, _, rfl, SqL.of e, ?_⟩
          have := k _ s'
          rw [show ((ds.take xs.length).map fun d => ((manyD j d : Nat) : Int)).sum = ((manyAll (manyD j) (.tuple ds) : Nat) : Int) by
            rw [RpAll.len rr, List.take_length]
            show _ = (((ds.map (manyD j)).sum : Nat) : Int)
            rw [sum_cast]]
          exact this
      | _ => cases good
theorem scLI : FnScope ["_law_thing"] ["_law_thing"] (defScope sLI) := ⟨rfl, rfl, rfl, by decide +kernel, rfl, by decide +kernel, by decide +kernel⟩
theorem ok_li {f fA fM : Addr} {fd fdA fdM : FuncData} (F : Fun K "_law_is_handler" "_law_is_handler" sLI f fd)
    (GLA : FnOk P w K mg base CX0 26 fA fdA ["_law_thing", "_law_ifs"] (spLA K 4)) (TLA : DefT K mg "_law_are_deeds" fA) (bLA : Binds K fdA ["_law_thing", "_law_ifs"] [])
    (GLM : FnOk P w K mg base CX0 5 fM fdM ["_law_deeds_here"] (spLM K 4)) (TLM : DefT K mg "_law_many_deeds" fM) (bLM : Binds K fdM ["_law_deeds_here"] []) : FnOk P w K mg base CX0 27 f fd ["_law_thing"] (spHand K) := by
  refine F.ok scLI (fun vs H Q E h => ?_) (fun cdv A outer s H vs Q E hr h => ?_)
  · obtain ⟨v, d, rfl, _⟩ := h
    rfl
  · obtain ⟨v, d, rfl, r, small, k⟩ := h
    refine ⟨_, (pss_one (ps_ret (pe_and (pe_call GLA (hr.mono (by decide)) rfl TLA.mg TLA.kp bLA .nil pass0 (pa_cons (pv 0) (pa_cons pe_int pa_nil))) (pe_one (pe_cmpR op_lt (pe_call GLM (hr.mono (by decide)) rfl TLM.mg TLM.kp bLM .nil pass0 (pa_cons (pv 0) pa_nil)) pe_int (nomark _)))))), ?_⟩
    refine ⟨_, rfl, v, d, 3, rfl, by omega, r, small, fun H1 s1 => ⟨_, rfl, ite2 (fun h2 => ?_) (fun h2 => ?_)⟩⟩
    · refine ⟨_, rfl, v, d, 3, rfl, by omega, Rp.same s1 r, small, h2, fun H2 s2 => ⟨_, _, rfl, rfl, ?_⟩⟩
      have := k _ (s1.trans s2)
      rw [← looks_agree, h2, Bool.true_and] at this
      show Q (.bl (decide (((manyAll (manyD 3) d : Nat) : Int) < 13))) H2
      rw [show decide (((manyAll (manyD 3) d : Nat) : Int) < 13) = decide (manyAll (manyD 3) d < 13) by rw [decide_eq_decide]; omega]
      exact this
    · have := k _ s1
      rw [← looks_agree, Bool.eq_false_iff.mpr h2, Bool.false_and] at this
      exact this
end
end Hd

set_option Elab.async false
set_option linter.all false
set_option maxRecDepth 100000
set_option maxHeartbeats 4000000
namespace Hd
open PySem L2 Pen
abbrev sPen : Stmt := top 21
abbrev sDraw : Stmt := top 22
abbrev sPick : Stmt := top 23
section
variable {P : Program} {w : World} {K : PySem.W.Frag} {mg : Str → Option Value} {base : Heap}
theorem scPen : FnScope ["_law_script"] ["_law_script"] (defScope sPen) := ⟨rfl, rfl, rfl, by decide +kernel, rfl, by decide +kernel, by decide +kernel⟩
theorem ok_pen {f : Addr} {fd : FuncData} (F : Fun K "_law_pen" "_law_pen" sPen f fd) (T : TxtP mg) : FnOk P w K mg base CX0 1 f fd ["_law_script"] (spPen K) := by
  refine F.ok scPen (fun vs H Q E h => ?_) (fun cdv A outer s H vs Q E hr h => ?_)
  · obtain ⟨a, ns, rfl, _⟩ := h
    rfl
  · obtain ⟨a, ns, rfl, hS, hl, k⟩ := h
    have hu := hu_of hr
    refine ⟨_, (pss_one (ps_ret (pe_disp (pps_cons pe_str (pe_callTy call_list_of (by rfl) T.list PyProof.Rows.boot_list (pa_cons (pe_slice sl_list (pv 0) po_none (po_some pe_int)) pa_nil)) (pps_cons pe_str pe_int (pps_cons pe_str pe_int pps_nil))) (by decide +kernel) rfl (by simp) (by decide)))), ?_⟩
    intro p hp
    refine ⟨_, rfl, 63, rfl, a, _, rfl, (same_new hp).seq hS, fun l1 h1 => ⟨l1, _, rfl, .inl (SqL.of upd_same), fun l h2 => ?_⟩⟩
    have n1 : l1 ≠ p := fun e => by rw [e, upd_same] at h1; cases h1
    have n2 : l ≠ l1 := fun e => by rw [e, upd_same] at h2; cases h2
    have n3 : l ≠ p := fun e => by rw [e, upd_ne n1.symm, upd_same] at h2; cases h2
    have hp' : (upd (upd (upd H p (.dK [])) l1 (.lst (cutV (ns.map V.int) none (some 63)))) l (.lst (cutV (ns.map V.int) none (some 63)))) p = some (.dK []) := by
      rw [upd_ne n3.symm, upd_ne n1.symm, upd_same]
    refine ⟨hp', [(kC, .ref l), (kA, .int 0), (kR, .int 0)], rfl, (by simp), ?_⟩
    rw [merge_pk, cut63 hl]
    refine k p l _ hp ⟨⟨0, 0, upd_same, by decide, by decide, by decide⟩, by rw [upd_ne n3, upd_same]⟩ fun b o e => ?_
    have b1 : b ≠ p := ne_of_none e hp
    rw [upd_ne b1]
    have e1 : (upd H p (.dK [])) b = some o := by rw [upd_ne b1]; exact e
    have b2 : b ≠ l1 := ne_of_none e1 h1
    have e2 : (upd (upd H p (.dK [])) l1 (.lst (cutV (ns.map V.int) none (some 63)))) b = some o := by rw [upd_ne b2]; exact e1
    have b3 : b ≠ l := ne_of_none e2 h2
    rw [upd_ne b3, upd_ne b2, upd_ne b1]
    exact e
theorem scDraw : FnScope ["_law_pen_here", "_law_many", "_law_digit", "_law_at", "_law_cell", "_law_blend"] ["_law_pen_here", "_law_many"] (defScope sDraw) := ⟨rfl, rfl, rfl, by decide +kernel, rfl, by decide +kernel, by decide +kernel⟩
theorem ok_draw {f : Addr} {fd : FuncData} (F : Fun K "_law_draw" "_law_draw" sDraw f fd) (T : TxtP mg) : FnOk P w K mg base CX0 1 f fd ["_law_pen_here", "_law_many"] spDraw := by
  refine F.ok scDraw (fun vs H Q E h => ?_) (fun cdv A outer s H vs Q E hr h => ?_)
  · obtain ⟨p, c, ns, b, m, rfl, _⟩ := h
    rfl
  · obtain ⟨p, c, ns, b, m, rfl, Pn, hl, hb, hm, hm2, k⟩ := h
    have hu := hu_of hr
    obtain ⟨⟨a, r, hp, ha0, ha, hr0⟩, hc⟩ := id Pn
    have npc : p ≠ c := Pn.ne
    have cp : ∀ o, (upd H p o) c = some (.lst (ns.map V.int)) := fun o => by rw [upd_ne npc.symm]; exact hc
    refine ⟨_, (pss_cons (ps_if (pt_cmpR op_gt (pe_dget hu (pv 0) pe_str (fun _ _ => rfl)) pe_int (nomark _)) (pss_cons (ps_set (i := 2) scDraw.nd rfl (Or.inl rfl) (pe_op op_modN (pe_callTy call_int1 (by rfl) T.int PyProof.Rows.boot_int (pa_cons (pe_dget hu (pv 0) pe_str (fun _ _ => rfl)) pa_nil)) (pv 1)))
      (pss_cons (ps_dput hu (pv 0) pe_str (pe_op op_fdivW (pe_dget hu (pv 0) pe_str (fun _ _ => rfl)) (pv 1)) rfl)
      (pss_one (ps_ret (pv 2))))) pss_nil)
      (pss_cons (ps_set (i := 3) scDraw.nd rfl (Or.inl rfl) (pe_dget hu (pv 0) pe_str (fun _ _ => rfl)))
      (pss_cons (ps_dput hu (pv 0) pe_str (pe_op op_add (pv 3) pe_int) rfl)
      (pss_cons (ps_set (i := 4) scDraw.nd rfl (Or.inl rfl) (pe_op op_add (pe_op op_mul pe_int (pv 3)) pe_int))
      (pss_cons (ps_if (pt_cmpR (op_neD hr.units) (pe_dget hu (pv 0) pe_str (fun _ _ => rfl)) (pe_lst pa_nil) (nomark _)) (pss_one (ps_set (i := 4) scDraw.nd rfl (Or.inl rfl) (pe_ix ix_list (pe_dget hu (pv 0) pe_str (fun _ _ => rfl)) (pe_op op_modN (pe_callTy call_int1 (by rfl) T.int PyProof.Rows.boot_int (pa_cons (pv 3) pa_nil)) (pe_callB call_len_seq (by rfl) T.len PySem.boot_len (pa_cons (pe_dget hu (pv 0) pe_str (fun _ _ => rfl)) pa_nil))) (fun _ _ => rfl)))) pss_nil)
      (pss_cons (ps_if (PW.pt (pw_and (pt_cmpR op_lt (pv 3) (pe_callB call_len_seq (by rfl) T.len PySem.boot_len (pa_cons (pe_dget hu (pv 0) pe_str (fun _ _ => rfl)) pa_nil)) (nomark _)) (pw_and1 (pt_cmpR op_ge (pe_callB call_abs (by rfl) T.abs PyProof.Rows.boot_abs (pa_cons (pv 4) pa_nil)) (pe_op op_pow pe_int pe_int) (nomark _))))) (pss_cons (ps_dput hu (pv 0) pe_str (pe_op op_fdivW (pe_op op_sub (pe_callB call_abs (by rfl) T.abs PyProof.Rows.boot_abs (pa_cons (pv 4) pa_nil)) (pe_op op_pow pe_int pe_int)) (pv 1)) rfl)
      (pss_one (ps_ret (pe_op op_modN (pe_op op_sub (pe_callB call_abs (by rfl) T.abs PyProof.Rows.boot_abs (pa_cons (pv 4) pa_nil)) (pe_op op_pow pe_int pe_int)) (pv 1))))) pss_nil)
      (pss_cons (ps_set (i := 5) scDraw.nd rfl (Or.inl rfl) (pe_op op_mod (pe_callTy call_int1 (by rfl) T.int PyProof.Rows.boot_int (pa_cons (pe_op op_add (pe_op op_add (pe_op op_mul (pe_op op_mod (pe_callTy call_int1 (by rfl) T.int PyProof.Rows.boot_int (pa_cons (pv 4) pa_nil)) pe_int) pe_int) (pe_op op_mul (pe_op op_mul pe_int (pv 3)) (pv 3))) pe_int) pa_nil)) pe_int))
      (pss_cons (ps_set (i := 5) scDraw.nd rfl (Or.inl rfl) (pe_op op_mod (pe_callTy call_int1 (by rfl) T.int PyProof.Rows.boot_int (pa_cons (pe_op op_add (pe_op op_add (pe_op op_add (pe_op op_mul (pv 5) (pv 5)) (pe_op op_mul pe_int (pv 5))) (pe_op op_mul pe_int (pv 3))) pe_int) pa_nil)) pe_int))
      (pss_one (ps_ret (pe_op op_modN (pe_callTy call_int1 (by rfl) T.int PyProof.Rows.boot_int (pa_cons (pe_op op_fdiv (pe_op op_mod (pe_callTy call_int1 (by rfl) T.int PyProof.Rows.boot_int (pa_cons (pe_op op_mul (pv 5) (pe_op op_add (pv 5) pe_int)) pa_nil)) pe_int) pe_int) pa_nil)) (pv 1)))))))))))), ?_⟩
    refine ⟨_, rfl, p, _, rfl, getR hp, _, _, rfl, rfl, _, rfl, ite2 (fun h => ?_) (fun _ => ?_)⟩
    · -- the rest's next digit
      refine ⟨_, rfl, p, _, rfl, getR hp, .inl ⟨_, rfl, _, rfl, _, _, rfl, rfl, (by omega), ?_⟩⟩
      refine ⟨_, rfl, p, _, rfl, getR hp, _, rfl, _, _, rfl, rfl, div_ok hm hm2, _, rfl, p, _, rfl, putR hp, _, rfl, ?_⟩
      exact k _ _ (fmod_lo hm) (fmod_hi hm) ⟨⟨a, _, upd_same, ha0, by omega, fdiv_lo hm hr0⟩, cp _⟩ (SameX.upd SameX.refl)
    · refine ⟨_, rfl, p, _, rfl, getA hp, _, rfl, _, _, rfl, rfl, _, rfl, p, _, rfl, putA hp, ?_⟩
      have c1 := cp (.dK (pk c (a + 1) r))
      have x1 : (upd H p (.dK (pk c (a + 1) r))) p = some (.dK (pk c (a + 1) r)) := upd_same
      refine ⟨_, rfl, _, _, rfl, rfl, .inl ⟨by decide, by decide⟩, _, _, rfl, rfl, ?_⟩
      refine ⟨_, rfl, p, _, rfl, getC x1, (by decide), fun l hl => ?_⟩
      have lp : p ≠ l := ne_of_none x1 hl
      have lc : c ≠ l := ne_of_none c1 hl
      have x2 : (upd (upd H p (.dK (pk c (a + 1) r))) l (.lst [])) p = some (.dK (pk c (a + 1) r)) := by rw [upd_ne lp]; exact x1
      have c2 : (upd (upd H p (.dK (pk c (a + 1) r))) l (.lst [])) c = some (.lst (ns.map V.int)) := by rw [upd_ne lc]; exact c1
      have s2 : SameX p H (upd (upd H p (.dK (pk c (a + 1) r))) l (.lst [])) := (SameX.upd (H' := H) SameX.refl).trans (Same.X (same_new hl))
      have s3 : ∀ x : Int, SameX p H (upd (upd (upd H p (.dK (pk c (a + 1) r))) l (.lst [])) p (.dK (pk c (a + 1) x))) := fun x => SameX.upd s2
      have c3 : ∀ x : Int, (upd (upd (upd H p (.dK (pk c (a + 1) r))) l (.lst [])) p (.dK (pk c (a + 1) x))) c = some (.lst (ns.map V.int)) := fun x => by rw [upd_ne npc.symm]; exact c2
      refine ⟨_, _, dp_ints c2, dp_ints (ns := []) upd_same, shaped_ints ns, shaped_ints [], _, rfl, ?_⟩
      cases ns with
      | nil =>
        refine iteF ?_
        refine ⟨_, rfl, _, rfl, p, _, rfl, getC x2, c, _, rfl, .inl (SqL.of c2), _, _, rfl, rfl, _, rfl, ite2 (fun h1 => ⟨_, rfl, _, rfl, _, _, rfl, rfl, ⟨by decide, by decide, by decide⟩, _, _, rfl, rfl, _, rfl, ite2 (fun h2 => ?b) (fun _ => ?r1)⟩) (fun _ => iteF ?r2)⟩
        case b =>
          refine ⟨_, rfl, _, rfl, _, _, rfl, rfl, ⟨by decide, by decide, by decide⟩, _, _, rfl, rfl, _, rfl, _, _, rfl, rfl, div_ok hm hm2, _, rfl, p, _, rfl, putR x2, _, rfl, _, rfl, _, _, rfl, rfl, ⟨by decide, by decide, by decide⟩, _, _, rfl, rfl, _, rfl, _, _, rfl, rfl, (by omega), ?_⟩
          exact k _ _ (fmod_lo hm) (fmod_hi hm) ⟨⟨a + 1, _, upd_same, by omega, by omega, fdiv_lo hm (by have := of_decide_eq_true h2; omega)⟩, c3 _⟩ (s3 _)
        all_goals
          refine ⟨_, rfl, .inl ⟨_, rfl, _, _, rfl, rfl, (by show (0 : Int) < 4294966927; decide), ?_⟩⟩
          have m1 := fun i : Int => Int.emod_nonneg i (show (4294966927 : Int) ≠ 0 by decide)
          have m2 := fun i : Int => Int.emod_lt_of_pos i (show (0 : Int) < 4294966927 by decide)
          refine ⟨_, _, rfl, rfl, .inl ⟨by have := m1 (61 * a + 23); omega, by have := m2 (61 * a + 23); omega⟩, _, rfl, _, _, rfl, rfl, .inl ⟨by decide, by decide⟩, _, rfl, _, _, rfl, rfl, .inl ⟨by omega, by omega⟩, _, _, rfl, rfl, _, _, rfl, rfl, ?_⟩
          refine .inl ⟨_, rfl, _, _, rfl, rfl, (by show (0 : Int) < 4294966909; decide), ?_⟩
          have w1 := fun i : Int => Int.emod_nonneg i (show (4294966909 : Int) ≠ 0 by decide)
          have w2 := fun i : Int => Int.emod_lt_of_pos i (show (0 : Int) < 4294966909 by decide)
          refine ⟨_, rfl, _, rfl, _, _, rfl, rfl, .inl ⟨Int.lt_of_lt_of_le (by decide) (w1 _), Int.lt_trans (w2 _) (by decide)⟩, _, rfl, _, _, rfl, rfl, .inl ⟨by decide, by decide⟩, _, _, rfl, rfl, _, rfl, _, _, rfl, rfl, .inl ⟨by decide, by decide⟩, _, _, rfl, rfl, _, _, rfl, rfl, ?_⟩
          refine .inl ⟨_, rfl, _, _, rfl, rfl, (by show (0 : Int) < 4294966877; decide), ?_⟩
          have v1 := fun i : Int => Int.emod_nonneg i (show (4294966877 : Int) ≠ 0 by decide)
          have v2 := fun i : Int => Int.emod_lt_of_pos i (show (0 : Int) < 4294966877 by decide)
          refine ⟨_, rfl, _, rfl, _, _, rfl, rfl, _, _, rfl, rfl, .inl ⟨Int.lt_of_lt_of_le (by decide) (v1 _), Int.lt_trans (v2 _) (by decide)⟩, ?_⟩
          refine .inl ⟨_, rfl, _, _, rfl, rfl, (by show (0 : Int) < 4294966813; decide), _, _, rfl, rfl, ⟨by decide, by decide⟩, ?_⟩
          refine .inl ⟨_, rfl, _, rfl, _, _, rfl, rfl, (by omega), ?_⟩
          exact k _ _ (fmod_lo hm) (fmod_hi hm) ⟨⟨a + 1, r, x2, by omega, by omega, hr0⟩, c2⟩ s2
      | cons n0 ns =>
        refine iteT ?_
        obtain ⟨z, hz⟩ := atI_mod (ns := n0 :: ns) (a := a) (by simp)
        refine ⟨_, rfl, p, _, rfl, getC x2, _, rfl, .inl ⟨_, rfl, _, rfl, p, _, rfl, getC x2, c, _, rfl, .inl (SqL.of c2), _, _, rfl, rfl, (by simp; omega), c, _, _, _, rfl, rfl, SqL.of c2, (by rw [List.length_map]; exact hz), ?_⟩⟩
        refine ⟨_, rfl, _, rfl, p, _, rfl, getC x2, c, _, rfl, .inl (SqL.of c2), _, _, rfl, rfl, _, rfl, ite2 (fun h1 => ⟨_, rfl, _, rfl, _, _, rfl, rfl, ⟨by decide, by decide, by decide⟩, _, _, rfl, rfl, _, rfl, ite2 (fun h2 => ?bb) (fun _ => ?rr1)⟩) (fun _ => iteF ?rr2)⟩
        case bb =>
          refine ⟨_, rfl, _, rfl, _, _, rfl, rfl, ⟨by decide, by decide, by decide⟩, _, _, rfl, rfl, _, rfl, _, _, rfl, rfl, div_ok hm hm2, _, rfl, p, _, rfl, putR x2, _, rfl, _, rfl, _, _, rfl, rfl, ⟨by decide, by decide, by decide⟩, _, _, rfl, rfl, _, rfl, _, _, rfl, rfl, (by omega), ?_⟩
          exact k _ _ (fmod_lo hm) (fmod_hi hm) ⟨⟨a + 1, _, upd_same, by omega, by omega, fdiv_lo hm (by have := of_decide_eq_true h2; omega)⟩, c3 _⟩ (s3 _)
        all_goals
          refine ⟨_, rfl, .inl ⟨_, rfl, _, _, rfl, rfl, (by show (0 : Int) < 4294966927; decide), ?_⟩⟩
          have m1 := fun i : Int => Int.emod_nonneg i (show (4294966927 : Int) ≠ 0 by decide)
          have m2 := fun i : Int => Int.emod_lt_of_pos i (show (0 : Int) < 4294966927 by decide)
          refine ⟨_, _, rfl, rfl, .inl ⟨by have := m1 z; omega, by have := m2 z; omega⟩, _, rfl, _, _, rfl, rfl, .inl ⟨by decide, by decide⟩, _, rfl, _, _, rfl, rfl, .inl ⟨by omega, by omega⟩, _, _, rfl, rfl, _, _, rfl, rfl, ?_⟩
          refine .inl ⟨_, rfl, _, _, rfl, rfl, (by show (0 : Int) < 4294966909; decide), ?_⟩
          have w1 := fun i : Int => Int.emod_nonneg i (show (4294966909 : Int) ≠ 0 by decide)
          have w2 := fun i : Int => Int.emod_lt_of_pos i (show (0 : Int) < 4294966909 by decide)
          refine ⟨_, rfl, _, rfl, _, _, rfl, rfl, .inl ⟨Int.lt_of_lt_of_le (by decide) (w1 _), Int.lt_trans (w2 _) (by decide)⟩, _, rfl, _, _, rfl, rfl, .inl ⟨by decide, by decide⟩, _, _, rfl, rfl, _, rfl, _, _, rfl, rfl, .inl ⟨by decide, by decide⟩, _, _, rfl, rfl, _, _, rfl, rfl, ?_⟩
          refine .inl ⟨_, rfl, _, _, rfl, rfl, (by show (0 : Int) < 4294966877; decide), ?_⟩
          have v1 := fun i : Int => Int.emod_nonneg i (show (4294966877 : Int) ≠ 0 by decide)
          have v2 := fun i : Int => Int.emod_lt_of_pos i (show (0 : Int) < 4294966877 by decide)
          refine ⟨_, rfl, _, rfl, _, _, rfl, rfl, _, _, rfl, rfl, .inl ⟨Int.lt_of_lt_of_le (by decide) (v1 _), Int.lt_trans (v2 _) (by decide)⟩, ?_⟩
          refine .inl ⟨_, rfl, _, _, rfl, rfl, (by show (0 : Int) < 4294966813; decide), _, _, rfl, rfl, ⟨by decide, by decide⟩, ?_⟩
          refine .inl ⟨_, rfl, _, rfl, _, _, rfl, rfl, (by omega), ?_⟩
          exact k _ _ (fmod_lo hm) (fmod_hi hm) ⟨⟨a + 1, r, x2, by omega, by omega, hr0⟩, c2⟩ s2
theorem scPick : FnScope ["_law_pen_here", "_law_items"] ["_law_pen_here", "_law_items"] (defScope sPick) := ⟨rfl, rfl, rfl, by decide +kernel, rfl, by decide +kernel, by decide +kernel⟩
theorem ok_pick {f fD : Addr} {fd fdD : FuncData} (F : Fun K "_law_pick" "_law_pick" sPick f fd) (T : TxtP mg) (FD : Fun K "_law_draw" "_law_draw" sDraw fD fdD) (TD : DefT K mg "_law_draw" fD) (bD : Binds K fdD ["_law_pen_here", "_law_many"] []) : FnOk P w K mg base CX0 2 f fd ["_law_pen_here", "_law_items"] (spPick K) := by
  have GD : FnOk P w K mg base CX0 1 fD fdD ["_law_pen_here", "_law_many"] spDraw := ok_draw FD T
  refine F.ok scPick (fun vs H Q E h => ?_) (fun cdv A outer s H vs Q E hr h => ?_)
  · obtain ⟨p, c, ns, b, l, xs, rfl, _⟩ := h
    rfl
  · obtain ⟨p, c, ns, b, l, xs, rfl, Pn, hn, hb, hl, h0, h1, k⟩ := h
    refine ⟨_, (pss_one (ps_ret (pe_ix ix_list (pv 1) (pe_call GD (hr.mono (by decide)) rfl TD.mg TD.kp bD .nil pass0 (pa_cons (pv 0) (pa_cons (pe_callB call_len_seq (by rfl) T.len PySem.boot_len (pa_cons (pv 1) pa_nil)) pa_nil))) (fun _ _ => rfl)))), ?_⟩
    refine ⟨_, rfl, _, rfl, _, rfl, l, xs, rfl, .inl (SqL.of hl), p, c, ns, b, _, rfl, Pn, hn, hb, by omega, by omega, fun r H' r0 r1 P' sx => ?_⟩
    have hp : l ≠ p := by
      obtain ⟨⟨a, r, hp, _⟩, _⟩ := Pn
      exact ne_of hl hp (by intro z; cases z)
    obtain ⟨v, hv, ha⟩ := at_mem r0 r1
    exact ⟨l, xs, r, v, rfl, rfl, SqL.of (sx l _ hp hl), ha, k v H' hv P' sx⟩
end
end Hd

set_option Elab.async false
set_option linter.all false
set_option maxRecDepth 100000
set_option maxHeartbeats 4000000
namespace Hd
open PySem L2 Pen RG Dat
abbrev sOdd : Stmt := top 26
/-- the values of any kind -/
def oddL : List PyData := [PyData.none, PyData.bool true, PyData.bool false, PyData.int 0, PyData.int 1, PyData.int (-1), PyData.int 99, PyData.int 100, PyData.int (-100), PyData.int ((10 : Int) ^ 60 * (10 : Int) ^ 40), PyData.str "", PyData.str "a", PyData.str "A", PyData.str "abcdefg", PyData.str "a b", PyData.str "set", PyData.tuple [], PyData.tuple [PyData.str "a"], PyData.tuple [PyData.str "fail"], PyData.list [], PyData.list [PyData.str "a"], PyData.dict [], PyData.dict [(PyData.str "a", PyData.int 1)], PyData.tuple [PyData.none], PyData.tuple [PyData.tuple []], PyData.tuple [PyData.str "value", PyData.int 1], PyData.tuple [PyData.str "body"], PyData.list [PyData.tuple [PyData.str "fail"]], PyData.str "fail", PyData.tuple [PyData.str "row", PyData.str "a"], PyData.tuple [PyData.str "send", PyData.str "a", PyData.none, PyData.tuple [PyData.str "body"]], PyData.tuple [PyData.str "a", PyData.str "b", PyData.int 1], PyData.tuple [PyData.tuple [PyData.str "fail"]]]
def spOdd (K : PySem.W.Frag) : Sp := fun vs H Q _ => ∃ (p c : Addr) (ns : List Int) (b : Nat), vs = [.ref p] ∧ PenAt H p c ns b ∧ ns.length ≤ 63 ∧ b < 2 ^ 40 ∧
  ∀ (v : V) (d : PyData) (H' : Hp), d ∈ oddL → Rp K (delp p H') v d → PenAt H' p c ns (b + 1) → SameX p H H' → Q v H'
section
variable {P : Program} {w : World} {K : PySem.W.Frag} {mg : Str → Option Value} {base : Heap}
theorem scOdd : FnScope ["_law_pen_here", "_law_some"] ["_law_pen_here"] (defScope sOdd) := ⟨rfl, rfl, rfl, by decide +kernel, rfl, by decide +kernel, by decide +kernel⟩
theorem ok_odd {f fP : Addr} {fd fdP : FuncData} (F : Fun K "_law_odd" "_law_odd" sOdd f fd) (GP : FnOk P w K mg base CX0 2 fP fdP ["_law_pen_here", "_law_items"] (spPick K)) (TP : DefT K mg "_law_pick" fP) (bP : Binds K fdP ["_law_pen_here", "_law_items"] []) : FnOk P w K mg base CX0 3 f fd ["_law_pen_here"] (spOdd K) := by
  refine F.ok scOdd (fun vs H Q E h => ?_) (fun cdv A outer s H vs Q E hr h => ?_)
  · obtain ⟨p, c, ns, b, rfl, _⟩ := h
    rfl
  · obtain ⟨p, c, ns, b, rfl, Pn, hn, hb, k⟩ := h
    obtain ⟨⟨a0, r0, hp, _⟩, _⟩ := id Pn
    refine ⟨_, (pss_cons (ps_set (i := 1) scOdd.nd rfl (Or.inl rfl) (Ab.pe_lstA (pa_cons pe_non (pa_cons pe_bl (pa_cons pe_bl (pa_cons pe_int (pa_cons pe_int (pa_cons (pe_un un_neg pe_int) (pa_cons pe_int (pa_cons pe_int (pa_cons (pe_un un_neg pe_int) (pa_cons (pe_op op_mulW (pe_op op_pow pe_int pe_int) (pe_op op_pow pe_int pe_int)) (pa_cons pe_str (pa_cons pe_str (pa_cons pe_str (pa_cons pe_str (pa_cons pe_str (pa_cons pe_str pa_nil))))))))))))))))))
      (pss_cons (ps_set (i := 1) scOdd.nd rfl (Or.inl rfl) (pe_op Ab.op_catA (pv 1) (Ab.pe_lstA (pa_cons (Ab.pe_tupA pa_nil) (pa_cons (Ab.pe_tupA (pa_cons pe_str pa_nil)) (pa_cons (Ab.pe_tupA (pa_cons pe_str pa_nil)) (pa_cons (Ab.pe_lstA pa_nil) (pa_cons (Ab.pe_lstA (pa_cons pe_str pa_nil)) (pa_cons Ab.pe_dicA (pa_cons (pe_disp (pps_cons pe_str pe_int pps_nil) (by decide +kernel) rfl (by simp) (by decide)) (pa_cons (Ab.pe_tupA (pa_cons pe_non pa_nil)) (pa_cons (Ab.pe_tupA (pa_cons (Ab.pe_tupA pa_nil) pa_nil)) (pa_cons (Ab.pe_tupA (pa_cons pe_str (pa_cons pe_int pa_nil))) (pa_cons (Ab.pe_tupA (pa_cons pe_str pa_nil)) (pa_cons (Ab.pe_lstA (pa_cons (Ab.pe_tupA (pa_cons pe_str pa_nil)) pa_nil)) pa_nil)))))))))))))))
      (pss_cons (ps_expr (pe_bm PySem.F.plainAttrs_list PySem.F.slot_list_append PySem.F.type_list_append mt_append (pv 1) (pa_cons pe_str pa_nil)))
      (pss_one (ps_ret (pe_call GP (hr.mono (by decide)) rfl TP.mg TP.kp bP .nil pass0 (pa_cons (pv 0) (pa_cons (pe_op Ab.op_catA (pv 1) (Ab.pe_lstA (pa_cons (Ab.pe_tupA (pa_cons pe_str (pa_cons pe_str pa_nil))) (pa_cons (Ab.pe_tupA (pa_cons pe_str (pa_cons pe_str (pa_cons pe_non (pa_cons (Ab.pe_tupA (pa_cons pe_str pa_nil)) pa_nil))))) (pa_cons (Ab.pe_tupA (pa_cons pe_str (pa_cons pe_str (pa_cons pe_int pa_nil)))) (pa_cons (Ab.pe_tupA (pa_cons (Ab.pe_tupA (pa_cons pe_str pa_nil)) pa_nil)) pa_nil)))))) pa_nil)))))))), ?_⟩
    refine ⟨_, rfl, ?_⟩
    refine ⟨_, rfl, ?_⟩
    refine ⟨_, _, rfl, rfl, ⟨by decide, by decide, by decide⟩, _, _, rfl, rfl, ⟨by decide, by decide, by decide⟩, _, _, rfl, rfl, wide_mul (a := 400) (b := 400) (by decide +kernel) (by decide +kernel) (by decide) (by decide) (by decide), ?_⟩
    refine ⟨sz (by simp), fun l1 G1 fl1 nl1 sl1 el1 => ?_⟩
    have hpl1 := sl1 _ _ hp
    refine ⟨_, rfl, ?_⟩
    refine ⟨sz (by simp), fun t1 H1 f1 s1 e1 => ?_⟩
    have P1 := ne_of_none hpl1 f1
    have hp1 := s1 _ _ hpl1
    refine ⟨sz (by simp), fun t2 H2 f2 s2 e2 => ?_⟩
    have P2 := ne_of_none hp1 f2
    have hp2 := s2 _ _ hp1
    refine ⟨sz (by simp), fun t3 H3 f3 s3 e3 => ?_⟩
    have P3 := ne_of_none hp2 f3
    have hp3 := s3 _ _ hp2
    refine ⟨sz (by simp), fun t4 H4 f4 n4 s4 e4 => ?_⟩
    have P4 := ne_of_none hp3 f4
    have hp4 := s4 _ _ hp3
    refine ⟨sz (by simp), fun t5 H5 f5 n5 s5 e5 => ?_⟩
    have P5 := ne_of_none hp4 f5
    have hp5 := s5 _ _ hp4
    refine fun t6 H6 f6 s6 e6 => ?_
    have P6 := ne_of_none hp5 f6
    have hp6 := s6 _ _ hp5
    refine fun t7 f7 => ⟨upd_same, [((Sum.inr "a" : Key), V.int 1)], rfl, (by decide), ?_⟩
    have s7 : Same H6 (upd (upd H6 t7 (.dK [])) t7 (.dK (mergeK [] [((Sum.inr "a" : Key), V.int 1)]))) := fun b o q => by rw [upd_ne (ne_of_none q f7), upd_ne (ne_of_none q f7)]; exact q
    have e7 : (upd (upd H6 t7 (.dK [])) t7 (.dK (mergeK [] [((Sum.inr "a" : Key), V.int 1)]))) t7 = some (.dK [((Sum.inr "a" : Key), V.int 1)]) := upd_same
    generalize upd (upd H6 t7 (.dK [])) t7 (.dK (mergeK [] [((Sum.inr "a" : Key), V.int 1)])) = H7 at s7 e7 ⊢
    have P7 := ne_of_none hp6 f7
    have hp7 := s7 _ _ hp6
    refine ⟨sz (by simp), fun t8 H8 f8 s8 e8 => ?_⟩
    have P8 := ne_of_none hp7 f8
    have hp8 := s8 _ _ hp7
    refine ⟨sz (by simp), fun t9 H9 f9 s9 e9 => ?_⟩
    have P9 := ne_of_none hp8 f9
    have hp9 := s9 _ _ hp8
    refine ⟨sz (by simp), fun t10 H10 f10 s10 e10 => ?_⟩
    have P10 := ne_of_none hp9 f10
    have hp10 := s10 _ _ hp9
    refine ⟨sz (by simp), fun t11 H11 f11 s11 e11 => ?_⟩
    have P11 := ne_of_none hp10 f11
    have hp11 := s11 _ _ hp10
    refine ⟨sz (by simp), fun t12 H12 f12 s12 e12 => ?_⟩
    have P12 := ne_of_none hp11 f12
    have hp12 := s12 _ _ hp11
    refine ⟨sz (by simp), fun t13 H13 f13 s13 e13 => ?_⟩
    have P13 := ne_of_none hp12 f13
    have hp13 := s13 _ _ hp12
    refine ⟨sz (by simp), fun t14 H14 f14 n14 s14 e14 => ?_⟩
    have P14 := ne_of_none hp13 f14
    have hp14 := s14 _ _ hp13
    refine ⟨sz (by simp), fun l2 G2 fl2 nl2 sl2 el2 => ?_⟩
    have hpl2 := sl2 _ _ hp14
    have S_l2 : Same G2 G2 := Same.refl G2
    have S_14 := (sl2 : Same _ _).trans S_l2
    have S_13 := (s14 : Same _ _).trans S_14
    have S_12 := (s13 : Same _ _).trans S_13
    have S_11 := (s12 : Same _ _).trans S_12
    have S_10 := (s11 : Same _ _).trans S_11
    have S_9 := (s10 : Same _ _).trans S_10
    have S_8 := (s9 : Same _ _).trans S_9
    have S_7 := (s8 : Same _ _).trans S_8
    have S_6 := (s7 : Same _ _).trans S_7
    have S_5 := (s6 : Same _ _).trans S_6
    have S_4 := (s5 : Same _ _).trans S_5
    have S_3 := (s4 : Same _ _).trans S_4
    have S_2 := (s3 : Same _ _).trans S_3
    have S_1 := (s2 : Same _ _).trans S_2
    have el1b := (s1.trans S_1) _ _ el1
    refine ⟨l1, l2, [V.non, V.bl true, V.bl false, V.int 0, V.int 1, V.int (-1), V.int 99, V.int 100, V.int (-100), V.int ((10 : Int) ^ 60 * (10 : Int) ^ 40), V.str "", V.str "a", V.str "A", V.str "abcdefg", V.str "a b", V.str "set"], [V.ref t1, V.ref t2, V.ref t3, V.ref t4, V.ref t5, V.ref t6, V.ref t7, V.ref t8, V.ref t10, V.ref t11, V.ref t12, V.ref t14], rfl, rfl, el1b, el2, sz (by simp), fun l3 G3 fl3 sl3 el3 => ?_⟩
    have E1 := S_1 _ _ e1
    have N1 := ne_of_none E1 fl3
    have E2 := S_2 _ _ e2
    have N2 := ne_of_none E2 fl3
    have E3 := S_3 _ _ e3
    have N3 := ne_of_none E3 fl3
    have E4 := S_4 _ _ e4
    have N4 := ne_of_none E4 fl3
    have E5 := S_5 _ _ e5
    have N5 := ne_of_none E5 fl3
    have E6 := S_6 _ _ e6
    have N6 := ne_of_none E6 fl3
    have E7 := S_7 _ _ e7
    have N7 := ne_of_none E7 fl3
    have E8 := S_8 _ _ e8
    have N8 := ne_of_none E8 fl3
    have E9 := S_9 _ _ e9
    have N9 := ne_of_none E9 fl3
    have E10 := S_10 _ _ e10
    have N10 := ne_of_none E10 fl3
    have E11 := S_11 _ _ e11
    have N11 := ne_of_none E11 fl3
    have E12 := S_12 _ _ e12
    have N12 := ne_of_none E12 fl3
    have E13 := S_13 _ _ e13
    have N13 := ne_of_none E13 fl3
    have E14 := S_14 _ _ e14
    have N14 := ne_of_none E14 fl3
    have pl3 := ne_of_none hpl2 fl3
    refine ⟨_, rfl, .inl ⟨rfl, _, SqL.of el3⟩, l3, _, _, rfl, rfl, el3, szl (by simp), ?_⟩
    have el4 : (upd G3 l3 (.lst (([V.non, V.bl true, V.bl false, V.int 0, V.int 1, V.int (-1), V.int 99, V.int 100, V.int (-100), V.int ((10 : Int) ^ 60 * (10 : Int) ^ 40), V.str "", V.str "a", V.str "A", V.str "abcdefg", V.str "a b", V.str "set"] ++ [V.ref t1, V.ref t2, V.ref t3, V.ref t4, V.ref t5, V.ref t6, V.ref t7, V.ref t8, V.ref t10, V.ref t11, V.ref t12, V.ref t14]) ++ [V.str "fail"]))) l3 = some (.lst (([V.non, V.bl true, V.bl false, V.int 0, V.int 1, V.int (-1), V.int 99, V.int 100, V.int (-100), V.int ((10 : Int) ^ 60 * (10 : Int) ^ 40), V.str "", V.str "a", V.str "A", V.str "abcdefg", V.str "a b", V.str "set"] ++ [V.ref t1, V.ref t2, V.ref t3, V.ref t4, V.ref t5, V.ref t6, V.ref t7, V.ref t8, V.ref t10, V.ref t11, V.ref t12, V.ref t14]) ++ [V.str "fail"])) := upd_same
    have u4 : ∀ b o, b ≠ l3 → G3 b = some o → (upd G3 l3 (.lst (([V.non, V.bl true, V.bl false, V.int 0, V.int 1, V.int (-1), V.int 99, V.int 100, V.int (-100), V.int ((10 : Int) ^ 60 * (10 : Int) ^ 40), V.str "", V.str "a", V.str "A", V.str "abcdefg", V.str "a b", V.str "set"] ++ [V.ref t1, V.ref t2, V.ref t3, V.ref t4, V.ref t5, V.ref t6, V.ref t7, V.ref t8, V.ref t10, V.ref t11, V.ref t12, V.ref t14]) ++ [V.str "fail"]))) b = some o := fun b o hb q => by rw [upd_ne hb]; exact q
    generalize upd G3 l3 (.lst (([V.non, V.bl true, V.bl false, V.int 0, V.int 1, V.int (-1), V.int 99, V.int 100, V.int (-100), V.int ((10 : Int) ^ 60 * (10 : Int) ^ 40), V.str "", V.str "a", V.str "A", V.str "abcdefg", V.str "a b", V.str "set"] ++ [V.ref t1, V.ref t2, V.ref t3, V.ref t4, V.ref t5, V.ref t6, V.ref t7, V.ref t8, V.ref t10, V.ref t11, V.ref t12, V.ref t14]) ++ [V.str "fail"])) = G4 at el4 u4 ⊢
    replace E1 := u4 _ _ N1 (sl3 _ _ E1)
    replace E2 := u4 _ _ N2 (sl3 _ _ E2)
    replace E3 := u4 _ _ N3 (sl3 _ _ E3)
    replace E4 := u4 _ _ N4 (sl3 _ _ E4)
    replace E5 := u4 _ _ N5 (sl3 _ _ E5)
    replace E6 := u4 _ _ N6 (sl3 _ _ E6)
    replace E7 := u4 _ _ N7 (sl3 _ _ E7)
    replace E8 := u4 _ _ N8 (sl3 _ _ E8)
    replace E9 := u4 _ _ N9 (sl3 _ _ E9)
    replace E10 := u4 _ _ N10 (sl3 _ _ E10)
    replace E11 := u4 _ _ N11 (sl3 _ _ E11)
    replace E12 := u4 _ _ N12 (sl3 _ _ E12)
    replace E13 := u4 _ _ N13 (sl3 _ _ E13)
    replace E14 := u4 _ _ N14 (sl3 _ _ E14)
    have hpl4 := u4 _ _ pl3 (sl3 _ _ hpl2)
    refine ⟨_, rfl, ?_⟩
    refine ⟨_, rfl, ?_⟩
    refine ⟨sz (by simp), fun t15 H15 f15 s15 e15 => ?_⟩
    have P15 := ne_of_none hpl4 f15
    have hp15 := s15 _ _ hpl4
    refine ⟨sz (by simp), fun t16 H16 f16 s16 e16 => ?_⟩
    have P16 := ne_of_none hp15 f16
    have hp16 := s16 _ _ hp15
    refine ⟨sz (by simp), fun t17 H17 f17 s17 e17 => ?_⟩
    have P17 := ne_of_none hp16 f17
    have hp17 := s17 _ _ hp16
    refine ⟨sz (by simp), fun t18 H18 f18 s18 e18 => ?_⟩
    have P18 := ne_of_none hp17 f18
    have hp18 := s18 _ _ hp17
    refine ⟨sz (by simp), fun t19 H19 f19 s19 e19 => ?_⟩
    have P19 := ne_of_none hp18 f19
    have hp19 := s19 _ _ hp18
    refine ⟨sz (by simp), fun t20 H20 f20 s20 e20 => ?_⟩
    have P20 := ne_of_none hp19 f20
    have hp20 := s20 _ _ hp19
    refine ⟨sz (by simp), fun l5 G5 fl5 nl5 sl5 el5 => ?_⟩
    have R_l5 : Same G5 G5 := Same.refl G5
    have R_20 := (sl5 : Same _ _).trans R_l5
    have R_19 := (s20 : Same _ _).trans R_20
    have R_18 := (s19 : Same _ _).trans R_19
    have R_17 := (s18 : Same _ _).trans R_18
    have R_16 := (s17 : Same _ _).trans R_17
    have R_15 := (s16 : Same _ _).trans R_16
    have R_0 := s15.trans R_15
    refine ⟨l3, l5, _, _, rfl, rfl, R_0 _ _ el4, el5, sz (by simp), fun l6 G6 fl6 sl6 el6 => ?_⟩
    replace E1 := sl6 _ _ (R_0 _ _ E1)
    replace E2 := sl6 _ _ (R_0 _ _ E2)
    replace E3 := sl6 _ _ (R_0 _ _ E3)
    replace E4 := sl6 _ _ (R_0 _ _ E4)
    replace E5 := sl6 _ _ (R_0 _ _ E5)
    replace E6 := sl6 _ _ (R_0 _ _ E6)
    replace E7 := sl6 _ _ (R_0 _ _ E7)
    replace E8 := sl6 _ _ (R_0 _ _ E8)
    replace E9 := sl6 _ _ (R_0 _ _ E9)
    replace E10 := sl6 _ _ (R_0 _ _ E10)
    replace E11 := sl6 _ _ (R_0 _ _ E11)
    replace E12 := sl6 _ _ (R_0 _ _ E12)
    replace E13 := sl6 _ _ (R_0 _ _ E13)
    replace E14 := sl6 _ _ (R_0 _ _ E14)
    have E15 := sl6 _ _ (R_15 _ _ e15)
    have E16 := sl6 _ _ (R_16 _ _ e16)
    have E17 := sl6 _ _ (R_17 _ _ e17)
    have E18 := sl6 _ _ (R_18 _ _ e18)
    have E19 := sl6 _ _ (R_19 _ _ e19)
    have E20 := sl6 _ _ (R_20 _ _ e20)
    have hp6 := sl6 _ _ (sl5 _ _ hp20)
    replace E1 := (delp_ne (Ne.symm P1)).trans E1
    replace E2 := (delp_ne (Ne.symm P2)).trans E2
    replace E3 := (delp_ne (Ne.symm P3)).trans E3
    replace E4 := (delp_ne (Ne.symm P4)).trans E4
    replace E5 := (delp_ne (Ne.symm P5)).trans E5
    replace E6 := (delp_ne (Ne.symm P6)).trans E6
    replace E7 := (delp_ne (Ne.symm P7)).trans E7
    replace E8 := (delp_ne (Ne.symm P8)).trans E8
    replace E9 := (delp_ne (Ne.symm P9)).trans E9
    replace E10 := (delp_ne (Ne.symm P10)).trans E10
    replace E11 := (delp_ne (Ne.symm P11)).trans E11
    replace E12 := (delp_ne (Ne.symm P12)).trans E12
    replace E13 := (delp_ne (Ne.symm P13)).trans E13
    replace E14 := (delp_ne (Ne.symm P14)).trans E14
    replace E15 := (delp_ne (Ne.symm P15)).trans E15
    replace E16 := (delp_ne (Ne.symm P16)).trans E16
    replace E17 := (delp_ne (Ne.symm P17)).trans E17
    replace E18 := (delp_ne (Ne.symm P18)).trans E18
    replace E19 := (delp_ne (Ne.symm P19)).trans E19
    replace E20 := (delp_ne (Ne.symm P20)).trans E20
    have all0 : Same H G6 := fun b o q => by
      have q2 := (s1.trans S_1) _ _ (sl1 _ _ q)
      exact sl6 _ _ (R_0 _ _ (u4 _ _ (ne_of_none q2 fl3) (sl3 _ _ q2)))
    refine ⟨p, c, ns, b, l6, ((([V.non, V.bl true, V.bl false, V.int 0, V.int 1, V.int (-1), V.int 99, V.int 100, V.int (-100), V.int ((10 : Int) ^ 60 * (10 : Int) ^ 40), V.str "", V.str "a", V.str "A", V.str "abcdefg", V.str "a b", V.str "set"] ++ [V.ref t1, V.ref t2, V.ref t3, V.ref t4, V.ref t5, V.ref t6, V.ref t7, V.ref t8, V.ref t10, V.ref t11, V.ref t12, V.ref t14]) ++ [V.str "fail"]) ++ [V.ref t15, V.ref t17, V.ref t18, V.ref t20]), rfl, Pn.same all0, hn, hb, el6, by simp, by simp, fun v H' hv Pn' sx => ?_⟩
    have rp : RpAll K (delp p G6) ((([V.non, V.bl true, V.bl false, V.int 0, V.int 1, V.int (-1), V.int 99, V.int 100, V.int (-100), V.int ((10 : Int) ^ 60 * (10 : Int) ^ 40), V.str "", V.str "a", V.str "A", V.str "abcdefg", V.str "a b", V.str "set"] ++ [V.ref t1, V.ref t2, V.ref t3, V.ref t4, V.ref t5, V.ref t6, V.ref t7, V.ref t8, V.ref t10, V.ref t11, V.ref t12, V.ref t14]) ++ [V.str "fail"]) ++ [V.ref t15, V.ref t17, V.ref t18, V.ref t20]) oddL := RpAll.append (RpAll.append (RpAll.append (RpAll.cons (Rp.non) (RpAll.cons (Rp.bl true) (RpAll.cons (Rp.bl false) (RpAll.cons (Rp.int 0) (RpAll.cons (Rp.int 1) (RpAll.cons (Rp.int (-1)) (RpAll.cons (Rp.int 99) (RpAll.cons (Rp.int 100) (RpAll.cons (Rp.int (-100)) (RpAll.cons (Rp.int ((10 : Int) ^ 60 * (10 : Int) ^ 40)) (RpAll.cons (Rp.str "") (RpAll.cons (Rp.str "a") (RpAll.cons (Rp.str "A") (RpAll.cons (Rp.str "abcdefg") (RpAll.cons (Rp.str "a b") (RpAll.cons (Rp.str "set") RpAll.nil)))))))))))))))) (RpAll.cons (Rp.tup (SqT.of E1) RpAll.nil) (RpAll.cons (Rp.tup (SqT.of E2) (RpAll.cons (Rp.str "a") RpAll.nil)) (RpAll.cons (Rp.tup (SqT.of E3) (RpAll.cons (Rp.str "fail") RpAll.nil)) (RpAll.cons (Rp.lst (SqL.of E4) RpAll.nil n4) (RpAll.cons (Rp.lst (SqL.of E5) (RpAll.cons (Rp.str "a") RpAll.nil) n5) (RpAll.cons (Rp.dic (ps := []) E6 rfl RpAll.nil) (RpAll.cons (Rp.dic (ps := [(PyData.str "a", PyData.int 1)]) E7 rfl (RpAll.cons (Rp.int 1) RpAll.nil)) (RpAll.cons (Rp.tup (SqT.of E8) (RpAll.cons (Rp.non) RpAll.nil)) (RpAll.cons (Rp.tup (SqT.of E10) (RpAll.cons (Rp.tup (SqT.of E9) RpAll.nil) RpAll.nil)) (RpAll.cons (Rp.tup (SqT.of E11) (RpAll.cons (Rp.str "value") (RpAll.cons (Rp.int 1) RpAll.nil))) (RpAll.cons (Rp.tup (SqT.of E12) (RpAll.cons (Rp.str "body") RpAll.nil)) (RpAll.cons (Rp.lst (SqL.of E14) (RpAll.cons (Rp.tup (SqT.of E13) (RpAll.cons (Rp.str "fail") RpAll.nil)) RpAll.nil) n14) RpAll.nil))))))))))))) (RpAll.cons (Rp.str "fail") RpAll.nil)) (RpAll.cons (Rp.tup (SqT.of E15) (RpAll.cons (Rp.str "row") (RpAll.cons (Rp.str "a") RpAll.nil))) (RpAll.cons (Rp.tup (SqT.of E17) (RpAll.cons (Rp.str "send") (RpAll.cons (Rp.str "a") (RpAll.cons (Rp.non) (RpAll.cons (Rp.tup (SqT.of E16) (RpAll.cons (Rp.str "body") RpAll.nil)) RpAll.nil))))) (RpAll.cons (Rp.tup (SqT.of E18) (RpAll.cons (Rp.str "a") (RpAll.cons (Rp.str "b") (RpAll.cons (Rp.int 1) RpAll.nil)))) (RpAll.cons (Rp.tup (SqT.of E20) (RpAll.cons (Rp.tup (SqT.of E19) (RpAll.cons (Rp.str "fail") RpAll.nil)) RpAll.nil)) RpAll.nil))))
    obtain ⟨d, hd, r⟩ := RpAll.mem rp hv
    exact k v d H' hd (Rp.same (delp_same sx) r) Pn' (SameX.trans (Same.X all0) sx)
end
end Hd

set_option Elab.async false
set_option linter.all false
set_option maxRecDepth 100000
set_option maxHeartbeats 4000000
namespace Hd
open PySem L2 Pen RG Dat KEq
abbrev sNm : Stmt := top 25
abbrev sLeaf : Stmt := top 27
abbrev sE : Stmt := top 28
mutual
/-- no list, no dict -/
def tu : PyData → Bool
  | .list _ => false
  | .dict _ => false
  | .tuple xs => tuAll xs
  | _ => true
def tuAll : List PyData → Bool
  | [] => true
  | x :: xs => tu x && tuAll xs
end
mutual
/-- the longest tuple within -/
def tl : PyData → Nat
  | .tuple xs => max xs.length (tlAll xs)
  | _ => 0
def tlAll : List PyData → Nat
  | [] => 0
  | x :: xs => max (tl x) (tlAll xs)
end
/-- data beside the pen at p, no deeper than n, of tuples alone, none longer than 20 -/
def Dw (K : PySem.W.Frag) (p : Addr) (H : Hp) (n : Nat) (v : V) (d : PyData) : Prop := Rp K (delp p H) v d ∧ sm d = true ∧ d.depth ≤ n ∧ tu d = true ∧ tl d ≤ 20
inductive DwAll (K : PySem.W.Frag) (p : Addr) (H : Hp) (n : Nat) : List V → List PyData → Prop
  | nil : DwAll K p H n [] []
  | cons {v : V} {vs : List V} {d : PyData} {ds : List PyData} : Dw K p H n v d → DwAll K p H n vs ds → DwAll K p H n (v :: vs) (d :: ds)
theorem Dw.same {K : PySem.W.Frag} {p : Addr} {H H' : Hp} {n : Nat} {v : V} {d : PyData} (x : Dw K p H n v d) (s : SameX p H H') : Dw K p H' n v d := ⟨Rp.same (delp_same s) x.1, x.2⟩
theorem Dw.mono {K : PySem.W.Frag} {p : Addr} {H : Hp} {n m : Nat} {v : V} {d : PyData} (x : Dw K p H n v d) (h : n ≤ m) : Dw K p H m v d := ⟨x.1, x.2.1, Nat.le_trans x.2.2.1 h, x.2.2.2⟩
theorem DwAll.all {K : PySem.W.Frag} {p : Addr} {H : Hp} {n : Nat} : ∀ {vs : List V} {ds : List PyData}, DwAll K p H n vs ds → RpAll K (delp p H) vs ds ∧ smAll ds = true ∧ PyData.depthAll ds ≤ n ∧ tuAll ds = true ∧ tlAll ds ≤ 20
  | _, _, .nil => ⟨.nil, rfl, Nat.zero_le _, rfl, Nat.zero_le _⟩
  | _, _, .cons x t => by
    obtain ⟨a, b, c, e, g⟩ := DwAll.all t
    refine ⟨.cons x.1 a, ?_, ?_, ?_, Nat.max_le.mpr ⟨x.2.2.2.2, g⟩⟩
    · show (sm _ && smAll _) = true
      rw [x.2.1, b]
      rfl
    · exact Nat.max_le.mpr ⟨x.2.2.1, c⟩
    · show (tu _ && tuAll _) = true
      rw [x.2.2.2.1, e]
      rfl
theorem DwAll.mem {K : PySem.W.Frag} {p : Addr} {H : Hp} {n : Nat} {v : V} : ∀ {vs : List V} {ds : List PyData}, DwAll K p H n vs ds → v ∈ vs → ∃ d, Dw K p H n v d
  | _, _, .nil, h => by cases h
  | _, _, .cons x t, h => by
    rcases List.mem_cons.mp h with e | h
    · rw [e]
      exact ⟨_, x⟩
    · exact DwAll.mem t h
theorem DwAll.same {K : PySem.W.Frag} {p : Addr} {H H' : Hp} {n : Nat} (s : SameX p H H') : ∀ {vs : List V} {ds : List PyData}, DwAll K p H n vs ds → DwAll K p H' n vs ds
  | _, _, .nil => .nil
  | _, _, .cons x t => .cons (x.same s) (DwAll.same s t)
theorem Dw.int {K : PySem.W.Frag} {p : Addr} {H : Hp} {n : Nat} (i : Int) : Dw K p H n (.int i) (.int i) := ⟨.int i, rfl, Nat.zero_le _, rfl, Nat.zero_le _⟩
theorem Dw.non {K : PySem.W.Frag} {p : Addr} {H : Hp} {n : Nat} : Dw K p H n .non .none := ⟨.non, rfl, Nat.zero_le _, rfl, Nat.zero_le _⟩
theorem Dw.str {K : PySem.W.Frag} {p : Addr} {H : Hp} {n : Nat} (x : Str) (h : x.length ≤ 1000) : Dw K p H n (.str x) (.str x) := ⟨.str x, decide_eq_true h, Nat.zero_le _, rfl, Nat.zero_le _⟩
theorem Dw.tup {K : PySem.W.Frag} {p t : Addr} {H : Hp} {n : Nat} {vs : List V} {ds : List PyData} (x : DwAll K p H n vs ds) (hl : ds.length ≤ 20) (ne : t ≠ p) (e : H t = some (.tup vs)) : Dw K p H (n + 1) (.ref t) (.tuple ds) := by
  obtain ⟨a, b, c, g, j⟩ := x.all
  refine ⟨.tup (SqT.of ((delp_ne ne).trans e)) a, ?_, Nat.succ_le_succ c, g, Nat.max_le.mpr ⟨hl, j⟩⟩
  show (decide (ds.length ≤ 1000) && smAll ds) = true
  rw [b, decide_eq_true (Nat.le_trans hl (by decide))]
  rfl
/-- all but p and q is as it was -/
def SameY (p q : Addr) (H H' : Hp) : Prop := ∀ x o, x ≠ p → x ≠ q → H x = some o → H' x = some o
theorem SameY.refl {p q : Addr} {H : Hp} : SameY p q H H := fun _ _ _ _ h => h
theorem SameX.Y {p q : Addr} {H H' : Hp} (s : SameX p H H') : SameY p q H H' := fun x o n _ h => s x o n h
theorem SameY.trans {p q : Addr} {H H1 H2 : Hp} (a : SameY p q H H1) (b : SameY p q H1 H2) : SameY p q H H2 := fun x o n m h => b x o n m (a x o n m h)
theorem SameY.upd {p q : Addr} {H : Hp} {o : HO} : SameY p q H (upd H q o) := fun x u _ m h => by
  rw [upd_ne m]
  exact h
/-- no tuple -/
def NoT (o : HO) : Prop := (∀ xs, o ≠ .tup xs) ∧ ∀ f xs, o ≠ .frz f (.tup xs)
theorem noT_dK {kvs : List (Key × V)} : NoT (.dK kvs) := ⟨(fun _ z => nomatch z), (fun _ _ z => nomatch z)⟩
theorem noT_lst {xs : List V} : NoT (.lst xs) := ⟨(fun _ z => nomatch z), (fun _ _ z => nomatch z)⟩
theorem sqT_off {K : PySem.W.Frag} {p q a : Addr} {H : Hp} {oq : HO} {xs : List V} (nt : NoT oq) (hq : H q = some oq) (h : SqT K (delp p H) a xs) : SqT K (delp q (delp p H)) a xs := by
  have ne : ∀ o, delp p H a = some o → oq ≠ o → a ≠ q := by
    intro o e n z
    rw [z] at e
    have := delp_le q o e
    rw [hq] at this
    exact n (Option.some.inj this)
  rcases h with (h | ⟨o, h⟩) | h
  · exact .inl (.inl ((delp_ne (ne _ h (nt.1 _))).trans h))
  · exact .inl (.inr ⟨o, (delp_ne (ne _ h (nt.2 _ _))).trans h⟩)
  · exact .inr h
mutual
theorem rp_off {K : PySem.W.Frag} {p q : Addr} {H : Hp} {oq : HO} (nt : NoT oq) (hq : H q = some oq) : ∀ {d : PyData} {v : V}, tu d = true → Rp K (delp p H) v d → Rp K (delp q (delp p H)) v d
  | .none, _, _, .non => .non
  | .bool _, _, _, .bl b => .bl b
  | .int _, _, _, .int i => .int i
  | .str _, _, _, .str x => .str x
  | .list _, _, h, _ => by cases h
  | .tuple ds, _, h, .tup a r => .tup (sqT_off nt hq a) (rp_offAll nt hq (show tuAll ds = true from h) r)
  | .dict _, _, h, _ => by cases h
theorem rp_offAll {K : PySem.W.Frag} {p q : Addr} {H : Hp} {oq : HO} (nt : NoT oq) (hq : H q = some oq) : ∀ {ds : List PyData} {vs : List V}, tuAll ds = true → RpAll K (delp p H) vs ds → RpAll K (delp q (delp p H)) vs ds
  | [], _, _, .nil => .nil
  | d :: ds, _, h, .cons a r => by
    have z : (tu d && tuAll ds) = true := h
    rw [Bool.and_eq_true] at z
    exact .cons (rp_off nt hq z.1 a) (rp_offAll nt hq z.2 r)
end
theorem Dw.put {K : PySem.W.Frag} {p q : Addr} {H H' : Hp} {n : Nat} {v : V} {d : PyData} {oq : HO} (x : Dw K p H n v d) (nt : NoT oq) (hq : H q = some oq) (s : SameY p q H H') : Dw K p H' n v d := by
  have a := rp_off nt hq x.2.2.2.1 x.1
  have b : Same (delp q (delp p H)) (delp p H') := by
    intro c o h
    have n1 : c ≠ q := fun z => by
      rw [z] at h
      have h' : (if q = q then none else delp p H q) = some o := h
      rw [if_pos rfl] at h'
      cases h'
    rw [delp_ne n1] at h
    have n2 : c ≠ p := fun z => by
      rw [z] at h
      have h' : (if p = p then none else H p) = some o := h
      rw [if_pos rfl] at h'
      cases h'
    rw [delp_ne n2] at h ⊢
    exact s c o n2 n1 h
  exact ⟨Rp.same b a, x.2⟩
theorem DwAll.put {K : PySem.W.Frag} {p q : Addr} {H H' : Hp} {n : Nat} {oq : HO} (nt : NoT oq) (hq : H q = some oq) (s : SameY p q H H') : ∀ {vs : List V} {ds : List PyData}, DwAll K p H n vs ds → DwAll K p H' n vs ds
  | _, _, .nil => .nil
  | _, _, .cons x t => .cons (x.put nt hq s) (DwAll.put nt hq s t)
theorem DwAll.len {K : PySem.W.Frag} {p : Addr} {H : Hp} {n : Nat} : ∀ {vs : List V} {ds : List PyData}, DwAll K p H n vs ds → vs.length = ds.length
  | _, _, .nil => rfl
  | _, _, .cons _ t => congrArg (· + 1) (DwAll.len t)
theorem DwAll.app {K : PySem.W.Frag} {p : Addr} {H : Hp} {n : Nat} : ∀ {vs ws : List V} {ds es : List PyData}, DwAll K p H n vs ds → DwAll K p H n ws es → DwAll K p H n (vs ++ ws) (ds ++ es)
  | _, _, _, _, .nil, r => r
  | _, _, _, _, .cons x t, r => .cons x (DwAll.app t r)
theorem PenAt.at {H : Hp} {p c : Addr} {ns : List Int} {b : Nat} (P : PenAt H p c ns b) : ∃ o, H p = some o := by
  obtain ⟨⟨a, r, hp, _⟩, _⟩ := P
  exact ⟨_, hp⟩
theorem PenAt.off {H : Hp} {p c t : Addr} {ns : List Int} {b : Nat} (P : PenAt H p c ns b) (h : H t = none) : t ≠ p := by
  obtain ⟨o, e⟩ := PenAt.at P
  exact (ne_of_none e h).symm
theorem lst_off {H : Hp} {p c l : Addr} {ns : List Int} {b : Nat} {xs : List V} (P : PenAt H p c ns b) (h : H l = some (.lst xs)) : l ≠ p := by
  obtain ⟨⟨a, r, hp, _⟩, _⟩ := P
  exact ne_of h hp (by intro z; cases z)
/-- names: a list of short texts -/
def Names (H : Hp) (l : Addr) : Prop := ∃ zs : List Str, H l = some (.lst (zs.map V.str)) ∧ 0 < zs.length ∧ zs.length ≤ 10 ∧ ∀ z ∈ zs, z.length ≤ 1000
theorem Names.same {H H' : Hp} {p c l : Addr} {ns : List Int} {b : Nat} (P : PenAt H p c ns b) (x : Names H l) (s : SameX p H H') : Names H' l := by
  obtain ⟨zs, e, q⟩ := x
  exact ⟨zs, s _ _ (lst_off P e) e, q⟩
def spNm : Sp := fun vs H Q _ => ∃ (p c : Addr) (ns : List Int) (b : Nat), vs = [.ref p] ∧ PenAt H p c ns b ∧ ns.length ≤ 63 ∧ b < 2 ^ 39 ∧ ∀ (i : Int) (H' : Hp), PenAt H' p c ns (b + 3) → SameX p H H' → Q (.int i) H'
def spLeaf (K : PySem.W.Frag) : Sp := fun vs H Q _ => ∃ (p c : Addr) (ns : List Int) (b : Nat) (l : Addr), vs = [.ref p, .ref l] ∧ PenAt H p c ns b ∧ ns.length ≤ 63 ∧ b < 2 ^ 39 ∧ Names H l ∧
  ∀ (v : V) (d : PyData) (H' : Hp), Dw K p H' 1 v d → PenAt H' p c ns (b + 5) → SameX p H H' → Q v H'
def spE (K : PySem.W.Frag) (m : Nat) : Sp := fun vs H Q _ => ∃ (p c : Addr) (ns : List Int) (b : Nat) (l : Addr) (n : Nat), vs = [.ref p, .ref l, .int n] ∧ n < m ∧ n ≤ 4 ∧ PenAt H p c ns b ∧ ns.length ≤ 63 ∧ b + 10 * 3 ^ n ≤ 2 ^ 38 ∧ Names H l ∧
  ∀ (v : V) (d : PyData) (H' : Hp), Dw K p H' (n + 1) v d → PenAt H' p c ns (b + 10 * 3 ^ n) → SameX p H H' → Q v H'
section
variable {P : Program} {w : World} {K : PySem.W.Frag} {mg : Str → Option Value} {base : Heap}
theorem scNm : FnScope ["_law_pen_here", "_law_small"] ["_law_pen_here"] (defScope sNm) := ⟨rfl, rfl, rfl, by decide +kernel, rfl, by decide +kernel, by decide +kernel⟩
theorem ok_nm {f fD fP : Addr} {fd fdD fdP : FuncData} (F : Fun K "_law_number" "_law_number" sNm f fd)
    (GDraw : FnOk P w K mg base CX0 1 fD fdD ["_law_pen_here", "_law_many"] spDraw) (TDraw : DefT K mg "_law_draw" fD) (bDraw : Binds K fdD ["_law_pen_here", "_law_many"] [])
    (GPick : FnOk P w K mg base CX0 2 fP fdP ["_law_pen_here", "_law_items"] (spPick K)) (TPick : DefT K mg "_law_pick" fP) (bPick : Binds K fdP ["_law_pen_here", "_law_items"] []) : FnOk P w K mg base CX0 3 f fd ["_law_pen_here"] spNm := by
  refine F.ok scNm (fun vs H Q E h => ?_) (fun cdv A outer s H vs Q E hr h => ?_)
  · obtain ⟨p, c, ns, b, rfl, _⟩ := h
    rfl
  · obtain ⟨p, c, ns, b, rfl, P0, hn, hb, k⟩ := h
    refine ⟨_, (pss_cons (ps_set (i := 1) scNm.nd rfl (Or.inl rfl) (pe_op op_sub (pe_call GDraw (hr.mono (by decide)) rfl TDraw.mg TDraw.kp bDraw .nil pass0 (pa_cons (pv 0) (pa_cons pe_int pa_nil))) pe_int))
      (pss_one (ps_ret (pe_call GPick (hr.mono (by decide)) rfl TPick.mg TPick.kp bPick .nil pass0 (pa_cons (pv 0) (pa_cons (Ab.pe_lstA (pa_cons (pv 1) (pa_cons (pv 1) (pa_cons (pv 1) (pa_cons pe_int (pa_cons (pe_un un_neg pe_int) (pa_cons pe_int (pa_cons (pe_op op_sub (pe_call GDraw (hr.mono (by decide)) rfl TDraw.mg TDraw.kp bDraw .nil pass0 (pa_cons (pv 0) (pa_cons pe_int pa_nil))) pe_int) pa_nil)))))))) pa_nil)))))), ?_⟩
    refine ⟨_, rfl, p, c, ns, b, 9, rfl, P0, hn, by omega, by decide, by decide, fun r1 H1 _ _ P1 x1 => ⟨_, _, rfl, rfl, ?_⟩⟩
    refine ⟨_, rfl, _, rfl, _, rfl, _, rfl, _, rfl, _, rfl, p, c, ns, _, 199, rfl, P1, hn, by omega, by decide, by decide, fun r2 H2 _ _ P2 x2 => ⟨_, _, rfl, rfl, sz (by simp), fun l Hl fl nl sl el => ?_⟩⟩
    refine ⟨p, c, ns, _, l, _, rfl, P2.same sl, hn, by omega, el, by simp, by simp, fun v H' hv P3 x3 => ?_⟩
    have iv : ∃ i, v = .int i := by
      rcases List.mem_cons.mp hv with e | hv
      · exact ⟨_, e⟩
      rcases List.mem_cons.mp hv with e | hv
      · exact ⟨_, e⟩
      rcases List.mem_cons.mp hv with e | hv
      · exact ⟨_, e⟩
      rcases List.mem_cons.mp hv with e | hv
      · exact ⟨_, e⟩
      rcases List.mem_cons.mp hv with e | hv
      · exact ⟨_, e⟩
      rcases List.mem_cons.mp hv with e | hv
      · exact ⟨_, e⟩
      rcases List.mem_cons.mp hv with e | hv
      · exact ⟨_, e⟩
      · cases hv
    obtain ⟨i, rfl⟩ := iv
    exact k i H' P3 (((x1.trans x2).trans (Same.X sl)).trans x3)
theorem scLeaf : FnScope ["_law_pen_here", "_law_names"] ["_law_pen_here", "_law_names"] (defScope sLeaf) := ⟨rfl, rfl, rfl, by decide +kernel, rfl, by decide +kernel, by decide +kernel⟩
theorem ok_leaf {f fN fP : Addr} {fd fdN fdP : FuncData} (F : Fun K "_law_leaf" "_law_leaf" sLeaf f fd)
    (GNm : FnOk P w K mg base CX0 3 fN fdN ["_law_pen_here"] spNm) (TNm : DefT K mg "_law_number" fN) (bNm : Binds K fdN ["_law_pen_here"] [])
    (GPick : FnOk P w K mg base CX0 2 fP fdP ["_law_pen_here", "_law_items"] (spPick K)) (TPick : DefT K mg "_law_pick" fP) (bPick : Binds K fdP ["_law_pen_here", "_law_items"] []) : FnOk P w K mg base CX0 4 f fd ["_law_pen_here", "_law_names"] (spLeaf K) := by
  refine F.ok scLeaf (fun vs H Q E h => ?_) (fun cdv A outer s H vs Q E hr h => ?_)
  · obtain ⟨p, c, ns, b, l, rfl, _⟩ := h
    rfl
  · obtain ⟨p, c, ns, b, nl, rfl, P0, hn, hb, N0, k⟩ := h
    refine ⟨_, (pss_one (ps_ret (pe_call GPick (hr.mono (by decide)) rfl TPick.mg TPick.kp bPick .nil pass0 (pa_cons (pv 0) (pa_cons (Ab.pe_lstA (pa_cons (Ab.pe_tupA (pa_cons pe_str (pa_cons (pe_call GNm (hr.mono (by decide)) rfl TNm.mg TNm.kp bNm .nil pass0 (pa_cons (pv 0) pa_nil)) pa_nil))) (pa_cons (Ab.pe_tupA (pa_cons pe_str pa_nil)) (pa_cons (Ab.pe_tupA (pa_cons pe_str (pa_cons (pe_call GPick (hr.mono (by decide)) rfl TPick.mg TPick.kp bPick .nil pass0 (pa_cons (pv 0) (pa_cons (pv 1) pa_nil))) pa_nil))) pa_nil)))) pa_nil))))), ?_⟩
    refine ⟨_, rfl, _, rfl, p, c, ns, b, rfl, P0, hn, hb, fun i H1 P1 x1 => ⟨sz (by simp), fun t1 G1 f1 s1 e1 => ?_⟩⟩
    refine ⟨sz (by simp), fun t2 G2 f2 s2 e2 => ?_⟩
    have Pa := (P1.same s1).same s2
    have xa := (x1.trans (Same.X s1)).trans (Same.X s2)
    obtain ⟨zs, ez, z0, z10, zl⟩ := N0.same P0 xa
    refine ⟨_, rfl, _, rfl, p, c, ns, _, nl, _, rfl, Pa, hn, by omega, ez, by simpa using z0, by simp; omega, fun u H2 hu P2 x2 => ?_⟩
    obtain ⟨z, hz, rfl⟩ := List.mem_map.mp hu
    refine ⟨sz (by simp), fun t3 G3 f3 s3 e3 => ⟨sz (by simp), fun l Gl fl nl' sl el => ?_⟩⟩
    have o1 := PenAt.off P1 f1
    have o2 := PenAt.off (P1.same s1) f2
    have o3 := PenAt.off P2 f3
    have y3 : SameX p G3 Gl := Same.X sl
    have y2 : SameX p G2 Gl := x2.trans ((Same.X s3).trans y3)
    have y1 : SameX p G1 Gl := (Same.X s2).trans y2
    refine ⟨p, c, ns, _, l, _, rfl, (P2.same s3).same sl, hn, by omega, el, by simp, by simp, fun v H' hv P3 x3 => ?_⟩
    have all : DwAll K p H' 1 [V.ref t1, .ref t2, .ref t3] [.tuple [.str tV, .int i], .tuple [.str tB'], .tuple [.str tR, .str z]] :=
      .cons (.tup (.cons (.str _ (by decide)) (.cons (.int i) .nil)) (by simp) o1 ((y1.trans x3) _ _ o1 e1)) (.cons (.tup (.cons (.str _ (by decide)) .nil) (by simp) o2 ((y2.trans x3) _ _ o2 e2)) (.cons (.tup (.cons (.str _ (by decide)) (.cons (.str _ (zl z hz)) .nil)) (by simp) o3 ((y3.trans x3) _ _ o3 e3)) .nil))
    obtain ⟨d, dw⟩ := all.mem hv
    exact k v d H' dw P3 (((xa.trans x2).trans ((Same.X s3).trans y3)).trans x3)
theorem scE : FnScope ["_law_pen_here", "_law_names", "_law_deep"] ["_law_pen_here", "_law_names", "_law_deep"] (defScope sE) := ⟨rfl, rfl, rfl, by decide +kernel, rfl, by decide +kernel, by decide +kernel⟩
theorem ok_e {f fD fL fP : Addr} {fd fdD fdL fdP : FuncData} (F : Fun K "_law_e" "_law_e" sE f fd) (TE : DefT K mg "_law_e" f) (bE : Binds K fd ["_law_pen_here", "_law_names", "_law_deep"] [])
    (GDraw : FnOk P w K mg base CX0 1 fD fdD ["_law_pen_here", "_law_many"] spDraw) (TDraw : DefT K mg "_law_draw" fD) (bDraw : Binds K fdD ["_law_pen_here", "_law_many"] [])
    (GPick : FnOk P w K mg base CX0 2 fP fdP ["_law_pen_here", "_law_items"] (spPick K)) (TPick : DefT K mg "_law_pick" fP) (bPick : Binds K fdP ["_law_pen_here", "_law_items"] [])
    (GLeaf : FnOk P w K mg base CX0 4 fL fdL ["_law_pen_here", "_law_names"] (spLeaf K)) (TLeaf : DefT K mg "_law_leaf" fL) (bLeaf : Binds K fdL ["_law_pen_here", "_law_names"] []) : ∀ m, FnOk P w K mg base CX0 (m + 5) f fd ["_law_pen_here", "_law_names", "_law_deep"] (spE K m)
  | 0 => by
    refine F.ok scE (fun vs H Q E h => ?_) (fun cdv A outer s H vs Q E hr h => ?_)
    · obtain ⟨p, c, ns, b, l, n, rfl, _⟩ := h
      rfl
    · obtain ⟨p, c, ns, b, l, n, rfl, lt, _⟩ := h
      exact absurd lt (Nat.not_lt_zero _)
  | m + 1 => by
    have GE := ok_e F TE bE GDraw TDraw bDraw GPick TPick bPick GLeaf TLeaf bLeaf m
    refine F.ok scE (fun vs H Q E h => ?_) (fun cdv A outer s H vs Q E hr h => ?_)
    · obtain ⟨p, c, ns, b, l, n, rfl, _⟩ := h
      rfl
    · obtain ⟨p, c, ns, b, l, n, rfl, lt, n4, P0, hn, hb, N0, k⟩ := h
      have three : 1 ≤ 3 ^ n := Nat.one_le_pow _ _ (by decide)
      have leaf : ∀ b1 H1, b ≤ b1 → b1 ≤ b + 1 → PenAt H1 p c ns b1 → SameX p H H1 → spLeaf K [.ref p, .ref l] H1 Q E0 := by
        intro b1 H1 l1 l2 P1 x1
        refine ⟨p, c, ns, b1, l, rfl, P1, hn, by omega, N0.same P0 x1, fun v d H' dw P2 x2 => ?_⟩
        exact k v d H' (dw.mono (by omega)) (P2.mono (by omega)) (x1.trans x2)
      refine ⟨_, (pss_cons (ps_if (PW.pt (pw_or (pt_cmpR op_lt (pv 2) pe_int (nomark _)) (pw_or1 (pt_cmpR op_eq (pe_call GDraw (hr.mono (by omega)) rfl TDraw.mg TDraw.kp bDraw .nil pass0 (pa_cons (pv 0) (pa_cons pe_int pa_nil))) pe_int (nomark _))))) (pss_one (ps_ret (pe_call GLeaf (hr.mono (by omega)) rfl TLeaf.mg TLeaf.kp bLeaf .nil pass0 (pa_cons (pv 0) (pa_cons (pv 1) pa_nil))))) pss_nil)
      (pss_one (ps_ret (Ab.pe_tupA (pa_cons (pe_call GPick (hr.mono (by omega)) rfl TPick.mg TPick.kp bPick .nil pass0 (pa_cons (pv 0) (pa_cons (Ab.pe_lstA (pa_cons pe_str (pa_cons pe_str (pa_cons pe_str pa_nil)))) pa_nil))) (pa_cons (pe_call GE (hr.mono (by omega)) rfl TE.mg TE.kp bE .nil pass0 (pa_cons (pv 0) (pa_cons (pv 1) (pa_cons (pe_op op_sub (pv 2) pe_int) pa_nil)))) (pa_cons (pe_call GE (hr.mono (by omega)) rfl TE.mg TE.kp bE .nil pass0 (pa_cons (pv 0) (pa_cons (pv 1) (pa_cons (pe_op op_sub (pv 2) pe_int) pa_nil)))) pa_nil))))))), ?_⟩
      refine ⟨_, rfl, _, _, rfl, rfl, _, rfl, ite2 (fun h1 => ?_) (fun h1 => ?_)⟩
      · exact iteT ⟨_, rfl, _, rfl, leaf b H (Nat.le_refl _) (by omega) P0 .refl⟩
      refine ⟨_, rfl, p, c, ns, b, 3, rfl, P0, hn, by omega, by decide, by decide, fun r1 H1 _ _ P1 x1 => ⟨rfl, _, rfl, ite2 (fun h2 => ?_) (fun h2 => ?_)⟩⟩
      · exact ⟨_, rfl, _, rfl, leaf (b + 1) H1 (by omega) (Nat.le_refl _) P1 x1⟩
      obtain ⟨n, rfl⟩ : ∃ j, n = j + 1 := ⟨n - 1, by
        have : ¬ (n : Int) < 2 := fun z => h1 (decide_eq_true z)
        omega⟩
      have hp3 : 3 ^ n ≤ 81 := Nat.le_trans (Nat.pow_le_pow_right (by decide) (show n ≤ 4 by omega)) (by decide)
      have hp4 : 3 ^ (n + 1) = 3 * 3 ^ n := by rw [Nat.pow_succ, Nat.mul_comm]
      have one1 : 1 ≤ 3 ^ n := Nat.one_le_pow _ _ (by decide)
      refine ⟨_, rfl, sz (by simp), fun lo Ho fo no so eo => ?_⟩
      refine ⟨p, c, ns, _, lo, _, rfl, P1.same so, hn, by omega, eo, by simp, by simp, fun u H2 hu P2 x2 => ?_⟩
      have us : ∃ z : Str, u = .str z ∧ z.length ≤ 1000 := by
        rcases List.mem_cons.mp hu with e | hu
        · exact ⟨_, e, by decide⟩
        rcases List.mem_cons.mp hu with e | hu
        · exact ⟨_, e, by decide⟩
        rcases List.mem_cons.mp hu with e | hu
        · exact ⟨_, e, by decide⟩
        · cases hu
      obtain ⟨z, rfl, zl⟩ := us
      have xa := (x1.trans (Same.X so)).trans x2
      refine ⟨_, rfl, _, rfl, _, rfl, _, _, rfl, rfl, p, c, ns, _, l, n, by simp, by omega, by omega, P2, hn, by omega, N0.same P0 xa, fun v1 d1 H3 w1 P3 x3 => ?_⟩
      refine ⟨_, rfl, _, rfl, _, rfl, _, _, rfl, rfl, p, c, ns, _, l, n, by simp, by omega, by omega, P3, hn, by omega, N0.same P0 (xa.trans x3), fun v2 d2 H4 w2 P4 x4 => ?_⟩
      refine ⟨sz (by simp), fun t Ht ft st et => ?_⟩
      have ot := PenAt.off P4 ft
      have D : Dw K p Ht (n + 1 + 1) (.ref t) (.tuple [.str z, d1, d2]) := .tup (.cons (.str z zl) (.cons ((w1.same x4).same (Same.X st)) (.cons (w2.same (Same.X st)) .nil))) (by simp) ot et
      exact k _ _ Ht D ((P4.same st).mono (by rw [hp4]; omega)) (((xa.trans x3).trans x4).trans (Same.X st))
end
end Hd

set_option Elab.async false
set_option linter.all false
set_option maxRecDepth 100000
set_option maxHeartbeats 4000000
namespace Hd
open PySem L2 Pen RG Dat KEq
abbrev sC : Stmt := top 29
def spC (K : PySem.W.Frag) (m : Nat) : Sp := fun vs H Q _ => ∃ (p c : Addr) (ns : List Int) (b : Nat) (l : Addr) (n : Nat), vs = [.ref p, .ref l, .int n] ∧ n < m ∧ n ≤ 4 ∧ PenAt H p c ns b ∧ ns.length ≤ 63 ∧ b + 400 * 3 ^ n ≤ 2 ^ 37 ∧ Names H l ∧
  ∀ (v : V) (d : PyData) (H' : Hp), Dw K p H' (n + 5) v d → PenAt H' p c ns (b + 400 * 3 ^ n) → SameX p H H' → Q v H'
theorem text_of {zs : List Str} {v : V} (h : v ∈ zs.map V.str) : ∃ z, z ∈ zs ∧ v = .str z := by
  obtain ⟨z, a, b⟩ := List.mem_map.mp h
  exact ⟨z, a, b.symm⟩
section
variable {P : Program} {w : World} {K : PySem.W.Frag} {mg : Str → Option Value} {base : Heap}
theorem scC : FnScope ["_law_pen_here", "_law_names", "_law_deep", "_law_way"] ["_law_pen_here", "_law_names", "_law_deep"] (defScope sC) := ⟨rfl, rfl, rfl, by decide +kernel, rfl, by decide +kernel, by decide +kernel⟩
theorem ok_c {f fD fE : Addr} {fd fdD fdE : FuncData} (F : Fun K "_law_c" "_law_c" sC f fd) (TC : DefT K mg "_law_c" f) (bC : Binds K fd ["_law_pen_here", "_law_names", "_law_deep"] [])
    (GDraw : FnOk P w K mg base CX0 1 fD fdD ["_law_pen_here", "_law_many"] spDraw) (TDraw : DefT K mg "_law_draw" fD) (bDraw : Binds K fdD ["_law_pen_here", "_law_many"] [])
    (GE : FnOk P w K mg base CX0 10 fE fdE ["_law_pen_here", "_law_names", "_law_deep"] (spE K 5)) (TE : DefT K mg "_law_e" fE) (bE : Binds K fdE ["_law_pen_here", "_law_names", "_law_deep"] []) : ∀ m, FnOk P w K mg base CX0 (m + 11) f fd ["_law_pen_here", "_law_names", "_law_deep"] (spC K m)
  | 0 => by
    refine F.ok scC (fun vs H Q E h => ?_) (fun cdv A outer s H vs Q E hr h => ?_)
    · obtain ⟨p, c, ns, b, l, n, rfl, _⟩ := h
      rfl
    · obtain ⟨p, c, ns, b, l, n, rfl, lt, _⟩ := h
      exact absurd lt (Nat.not_lt_zero _)
  | m + 1 => by
    have GC := ok_c F TC bC GDraw TDraw bDraw GE TE bE m
    refine F.ok scC (fun vs H Q E h => ?_) (fun cdv A outer s H vs Q E hr h => ?_)
    · obtain ⟨p, c, ns, b, l, n, rfl, _⟩ := h
      rfl
    · obtain ⟨p, c, ns, b, l, n, rfl, lt, n4, P0, hn, hb, N0, k⟩ := h
      have three : 1 ≤ 3 ^ n := Nat.one_le_pow _ _ (by decide)
      refine ⟨_, (pss_cons (ps_set (i := 3) scC.nd rfl (Or.inl rfl) (pe_ifExp (pt_cmpR op_gt (pv 2) pe_int (nomark _)) (pe_call GDraw (hr.mono (by omega)) rfl TDraw.mg TDraw.kp bDraw .nil pass0 (pa_cons (pv 0) (pa_cons pe_int pa_nil))) (pe_call GDraw (hr.mono (by omega)) rfl TDraw.mg TDraw.kp bDraw .nil pass0 (pa_cons (pv 0) (pa_cons pe_int pa_nil)))))
      (pss_cons (ps_if (pt_cmpR op_lt (pv 3) pe_int (nomark _)) (pss_one (ps_ret (Ab.pe_tupA (pa_cons (pe_ix ix_list (Ab.pe_lstA (pa_cons pe_str (pa_cons pe_str (pa_cons pe_str pa_nil)))) (pv 3) (fun _ _ => rfl)) (pa_cons (pe_call GE (hr.mono (by omega)) rfl TE.mg TE.kp bE .nil pass0 (pa_cons (pv 0) (pa_cons (pv 1) (pa_cons pe_int pa_nil)))) (pa_cons (pe_call GE (hr.mono (by omega)) rfl TE.mg TE.kp bE .nil pass0 (pa_cons (pv 0) (pa_cons (pv 1) (pa_cons pe_int pa_nil)))) pa_nil)))))) pss_nil)
      (pss_cons (ps_if (pt_cmpR op_eq (pv 3) pe_int (nomark _)) (pss_one (ps_ret (Ab.pe_tupA (pa_cons pe_str (pa_cons (pe_call GC (hr.mono (by omega)) rfl TC.mg TC.kp bC .nil pass0 (pa_cons (pv 0) (pa_cons (pv 1) (pa_cons (pe_op op_sub (pv 2) pe_int) pa_nil)))) pa_nil))))) pss_nil)
      (pss_one (ps_ret (Ab.pe_tupA (pa_cons (pe_ix ix_list (Ab.pe_lstA (pa_cons pe_str (pa_cons pe_str pa_nil))) (pe_op op_sub (pv 3) pe_int) (fun _ _ => rfl)) (pa_cons (pe_call GC (hr.mono (by omega)) rfl TC.mg TC.kp bC .nil pass0 (pa_cons (pv 0) (pa_cons (pv 1) (pa_cons (pe_op op_sub (pv 2) pe_int) pa_nil)))) (pa_cons (pe_call GC (hr.mono (by omega)) rfl TC.mg TC.kp bC .nil pass0 (pa_cons (pv 0) (pa_cons (pv 1) (pa_cons (pe_op op_sub (pv 2) pe_int) pa_nil)))) pa_nil))))))))), ?_⟩
      refine ⟨_, rfl, _, _, rfl, rfl, _, rfl, ite2 (fun h1 => ?_) (fun h1 => ?_)⟩
      all_goals
        first
        | refine ⟨_, rfl, p, c, ns, b, 6, rfl, P0, hn, by omega, by decide, by decide, fun r H1 r0 r6 P1 x1 => ?_⟩
        | refine ⟨_, rfl, p, c, ns, b, 2, rfl, P0, hn, by omega, by decide, by decide, fun r H1 r0 r6 P1 x1 => ?_⟩
        refine ⟨_, rfl, _, _, rfl, rfl, _, rfl, ite2 (fun h2 => ?_) (fun h2 => ?_)⟩
        · have r3 : r < 3 := of_decide_eq_true h2
          refine ⟨sz (by simp), fun lo Ho fo no so eo => ?_⟩
          obtain ⟨v, hv, ha⟩ := at_mem (xs := ([Str.ofString "<", Str.ofString "=", Str.ofString "<"] : List Str).map V.str) r0 (by simpa using r3)
          obtain ⟨z, hz, rfl⟩ := text_of hv
          have zl : z.length ≤ 1000 := by
            rcases List.mem_cons.mp hz with e | hz
            · rw [e]; decide
            rcases List.mem_cons.mp hz with e | hz
            · rw [e]; decide
            rcases List.mem_cons.mp hz with e | hz
            · rw [e]; decide
            · cases hz
          have xa := x1.trans (Same.X so)
          refine ⟨_, rfl, lo, _, r, _, rfl, rfl, SqL.of eo, ha, ?_⟩
          refine ⟨_, rfl, _, rfl, p, c, ns, _, l, 3, rfl, by omega, by omega, P1.same so, hn, by omega, N0.same P0 xa, fun v1 d1 H3 w1 P3 x3 => ?_⟩
          refine ⟨_, rfl, _, rfl, p, c, ns, _, l, 2, rfl, by omega, by omega, P3, hn, by omega, N0.same P0 (xa.trans x3), fun v2 d2 H4 w2 P4 x4 => ?_⟩
          refine ⟨sz (by simp), fun t Ht ft st et => ?_⟩
          have ot := PenAt.off P4 ft
          have D : Dw K p Ht (4 + 1) (.ref t) (.tuple [.str z, d1, d2]) := .tup (.cons (.str z zl) (.cons ((w1.same x4).same (Same.X st)) (.cons ((w2.same (Same.X st)).mono (by omega)) .nil))) (by simp) ot et
          exact k _ _ Ht (D.mono (by omega)) ((P4.same st).mono (by omega)) (((xa.trans x3).trans x4).trans (Same.X st))
        try exact absurd (show r < 3 by omega) (fun z => h2 (decide_eq_true z))
      · obtain ⟨n, rfl⟩ : ∃ j, n = j + 1 := ⟨n - 1, by
          have : (1 : Int) < n := of_decide_eq_true h1
          omega⟩
        have hp4 : 3 ^ (n + 1) = 3 * 3 ^ n := by rw [Nat.pow_succ, Nat.mul_comm]
        have one1 : 1 ≤ 3 ^ n := Nat.one_le_pow _ _ (by decide)
        refine ⟨_, rfl, rfl, _, rfl, ite2 (fun h3 => ?_) (fun h3 => ?_)⟩
        · refine ⟨_, rfl, _, rfl, _, rfl, _, _, rfl, rfl, p, c, ns, _, l, n, by simp, by omega, by omega, P1, hn, by omega, N0.same P0 x1, fun v1 d1 H3 w1 P3 x3 => ?_⟩
          refine ⟨sz (by simp), fun t Ht ft st et => ?_⟩
          have ot := PenAt.off P3 ft
          have D : Dw K p Ht (n + 5 + 1) (.ref t) (.tuple [.str "not", d1]) := .tup (.cons (.str _ (by decide)) (.cons (w1.same (Same.X st)) .nil)) (by simp) ot et
          exact k _ _ Ht (D.mono (by omega)) ((P3.same st).mono (by omega)) ((x1.trans x3).trans (Same.X st))
        · have h4 : ¬ r < 3 := fun z => h2 (decide_eq_true z)
          have h5 : r ≠ 3 := fun z => h3 (by rw [z]; rfl)
          refine ⟨sz (by simp), fun lo Ho fo no so eo => ?_⟩
          obtain ⟨v, hv, ha⟩ := at_mem (xs := ([Str.ofString "and", Str.ofString "or"] : List Str).map V.str) (r := r - 4) (by omega) (by simp; omega)
          obtain ⟨z, hz, rfl⟩ := text_of hv
          have zl : z.length ≤ 1000 := by
            rcases List.mem_cons.mp hz with e | hz
            · rw [e]; decide
            rcases List.mem_cons.mp hz with e | hz
            · rw [e]; decide
            · cases hz
          have xa := x1.trans (Same.X so)
          refine ⟨_, rfl, _, _, rfl, rfl, lo, _, _, _, rfl, rfl, SqL.of eo, ha, ?_⟩
          refine ⟨_, rfl, _, rfl, _, rfl, _, _, rfl, rfl, p, c, ns, _, l, n, by simp, by omega, by omega, P1.same so, hn, by omega, N0.same P0 xa, fun v1 d1 H3 w1 P3 x3 => ?_⟩
          refine ⟨_, rfl, _, rfl, _, rfl, _, _, rfl, rfl, p, c, ns, _, l, n, by simp, by omega, by omega, P3, hn, by omega, N0.same P0 (xa.trans x3), fun v2 d2 H4 w2 P4 x4 => ?_⟩
          refine ⟨sz (by simp), fun t Ht ft st et => ?_⟩
          have ot := PenAt.off P4 ft
          have D : Dw K p Ht (n + 5 + 1) (.ref t) (.tuple [.str z, d1, d2]) := .tup (.cons (.str z zl) (.cons ((w1.same x4).same (Same.X st)) (.cons (w2.same (Same.X st)) .nil))) (by simp) ot et
          exact k _ _ Ht (D.mono (by omega)) ((P4.same st).mono (by omega)) (((xa.trans x3).trans x4).trans (Same.X st))
end
end Hd

set_option Elab.async false
set_option linter.all false
set_option maxRecDepth 100000
set_option maxHeartbeats 4000000
namespace Hd
open PySem L2 Pen RG Dat KEq
abbrev sWd : Stmt := top 24
def rAddS : R2 := fun x y H Q => ∃ i j, x = .str i ∧ y = .str j ∧ i.length + j.length ≤ sizeLine ∧ Q (.str (i ++ j)) H
def rInt1 : List V → Hp → VK → Prop := fun xs H Q => (∃ i, xs = [.int i] ∧ Q (.int i) H) ∨ ∃ k, xs = [.bl k] ∧ Q (.int (if k then 1 else 0)) H
def spPickS : Sp := fun vs H Q _ => ∃ (p c : Addr) (ns : List Int) (b : Nat) (z : Str), vs = [.ref p, .str z] ∧ PenAt H p c ns b ∧ ns.length ≤ 63 ∧ b < 2 ^ 40 ∧ 0 < z.length ∧ z.length ≤ 1000 ∧
  ∀ (k : Nat) (H' : Hp), PenAt H' p c ns (b + 1) → SameX p H H' → Q (.str ⟨#[k]⟩) H'
def spWd : Sp := fun vs H Q _ => ∃ (p c : Addr) (ns : List Int) (b n : Nat), vs = [.ref p, .int n] ∧ PenAt H p c ns b ∧ ns.length ≤ 63 ∧ b < 2 ^ 39 ∧ 0 < n ∧ n ≤ 10 ∧
  ∀ (l : Addr) (H' : Hp), H l = none → Names H' l → PenAt H' p c ns (b + 9) → SameX p H H' → Q (.ref l) H'
theorem sign_at {z : Str} {r : Int} (h0 : 0 ≤ r) (h : r < (z.length : Int)) : ∃ k, atI z.cps.toList r = some k := by
  have h3 : r.toNat < z.cps.toList.length := by
    rw [Array.length_toList]
    show r.toNat < z.length
    omega
  have := atI_nat (List.getElem?_eq_getElem h3)
  rw [Int.toNat_of_nonneg h0] at this
  exact ⟨_, this⟩
theorem ones_sum : ∀ {ys : List Str}, (∀ y ∈ ys, y.length = 1) → (ys.map (·.length)).sum = ys.length
  | [], _ => rfl
  | y :: ys, h => by
    rw [List.map_cons, List.sum_cons, h y (List.mem_cons_self ..), ones_sum (ys := ys) fun x hx => h x (List.mem_cons_of_mem _ hx), List.length_cons]
    omega
section
variable {P : Program} {w : World} {K : PySem.W.Frag} {mg : Str → Option Value} {base : Heap}
theorem ok_pickS {f fD : Addr} {fd fdD : FuncData} (F : Fun K "_law_pick" "_law_pick" sPick f fd) (T : TxtH mg)
    (GDraw : FnOk P w K mg base CX0 1 fD fdD ["_law_pen_here", "_law_many"] spDraw) (TDraw : DefT K mg "_law_draw" fD) (bDraw : Binds K fdD ["_law_pen_here", "_law_many"] []) : FnOk P w K mg base CX0 2 f fd ["_law_pen_here", "_law_items"] spPickS := by
  refine F.ok scPick (fun vs H Q E h => ?_) (fun cdv A outer s H vs Q E hr h => ?_)
  · obtain ⟨p, c, ns, b, z, rfl, _⟩ := h
    rfl
  · obtain ⟨p, c, ns, b, z, rfl, P0, hn, hb, z0, z1, k⟩ := h
    have zl : z.length ≤ sizeLine := Nat.le_trans z1 (by decide)
    refine ⟨_, (pss_one (ps_ret (pe_ix ix_str (pv 1) (pe_call GDraw (hr.mono (by decide)) rfl TDraw.mg TDraw.kp bDraw .nil pass0 (pa_cons (pv 0) (pa_cons (pe_callB call_len_str (by rfl) T.len PySem.boot_len (pa_cons (pv 1) pa_nil)) pa_nil))) (fun _ _ => rfl)))), ?_⟩
    refine ⟨_, rfl, _, rfl, _, rfl, z, rfl, zl, p, c, ns, b, _, rfl, P0, hn, hb, by omega, by omega, fun r H' r0 r1 P1 x1 => ?_⟩
    obtain ⟨e, he⟩ := sign_at r0 r1
    exact ⟨z, r, e, rfl, rfl, zl, he, k e H' P1 x1⟩
theorem scWd : FnScope ["_law_pen_here", "_law_many", "_law_letters", "_law_stem", "_law_at", "_law_first", "_law_step", "_law_k"] ["_law_pen_here", "_law_many"] (defScope sWd) := ⟨rfl, rfl, rfl, by decide +kernel, rfl, by decide +kernel, by decide +kernel⟩
theorem ok_wd {f fD fP : Addr} {fd fdD fdP : FuncData} (F : Fun K "_law_words" "_law_words" sWd f fd) (T : TxtH mg) (TR : mg "range" = none)
    (GDraw : FnOk P w K mg base CX0 1 fD fdD ["_law_pen_here", "_law_many"] spDraw) (TDraw : DefT K mg "_law_draw" fD) (bDraw : Binds K fdD ["_law_pen_here", "_law_many"] [])
    (GPickS : FnOk P w K mg base CX0 2 fP fdP ["_law_pen_here", "_law_items"] spPickS)
    (GPick : FnOk P w K mg base CX0 2 fP fdP ["_law_pen_here", "_law_items"] (spPick K)) (TPick : DefT K mg "_law_pick" fP) (bPick : Binds K fdP ["_law_pen_here", "_law_items"] []) : FnOk P w K mg base CX0 3 f fd ["_law_pen_here", "_law_many"] spWd := by
  refine F.ok scWd (fun vs H Q E h => ?_) (fun cdv A outer s H vs Q E hr h => ?_)
  · obtain ⟨p, c, ns, b, n, rfl, _⟩ := h
    rfl
  · obtain ⟨p, c, ns, b, n, rfl, P0, hn, hb, n0, n10, k⟩ := h
    refine ⟨_, (pss_cons (ps_set (i := 2) scWd.nd rfl (Or.inr rfl) pe_str)
      (pss_cons (ps_set (i := 3) scWd.nd rfl (Or.inr rfl) (pe_join pe_str (pe_lc (own := [("_law_k", 7)]) (g := gName 7) (tt := tYes) (te := (tCall spPickS [] E0 (tCons (tVar 0) (tCons (tVar 2) tNil)))) rfl scWd.nd (pi_range1 (by rfl) TR (pa_cons (pe_call GDraw (hr.mono (by decide)) rfl TDraw.mg TDraw.kp bDraw .nil pass0 (pa_cons (pv 0) (pa_cons pe_int pa_nil))) pa_nil)) (blkOk_by (N := ["_law_pen_here", "_law_many", "_law_letters", "_law_stem", "_law_at", "_law_first", "_law_step", "_law_k"]) (sc := defScope sWd) (by decide +kernel)) (fun _ _ _ _ _ => by exact (pg_name (i := 7) scWd.nd rfl (Or.inl rfl))) (fun _ _ _ _ _ => by exact pts_nil) (fun _ _ _ _ _ => by exact (pe_call GPickS (hr.mono (by decide)) rfl TPick.mg TPick.kp bPick .nil pass0 (pa_cons (pv 0) (pa_cons (pv 2) pa_nil)))))))
      (pss_cons (ps_asg (Ab.pe_tupA (pa_cons (pe_call GDraw (hr.mono (by decide)) rfl TDraw.mg TDraw.kp bDraw .nil pass0 (pa_cons (pv 0) (pa_cons (pe_op op_add (pe_callB call_len_str (by rfl) T.len PySem.boot_len (pa_cons (pv 3) pa_nil)) pe_int) pa_nil))) (pa_cons (pe_call GDraw (hr.mono (by decide)) rfl TDraw.mg TDraw.kp bDraw .nil pass0 (pa_cons (pv 0) (pa_cons pe_int pa_nil))) pa_nil))) (pg_tup (by rfl) (pgs_cons (pg_name (i := 4) scWd.nd rfl (Or.inr rfl)) (pgs_cons (pg_name (i := 5) scWd.nd rfl (Or.inr rfl)) pgs_nil))))
      (pss_cons (ps_set (i := 6) scWd.nd rfl (Or.inr rfl) (pe_call GPick (hr.mono (by decide)) rfl TPick.mg TPick.kp bPick .nil pass0 (pa_cons (pv 0) (pa_cons (Ab.pe_lstA (pa_cons pe_int (pa_cons pe_int (pa_cons pe_int (pa_cons pe_int (pa_cons pe_int (pa_cons pe_int (pa_cons pe_int (pa_cons pe_int (pa_cons pe_int (pa_cons pe_int (pa_cons pe_int (pa_cons pe_int pa_nil))))))))))))) pa_nil))))
      (pss_one (ps_ret (pe_lc (own := [("_law_k", 7)]) (g := gName 7) (tt := tYes) (te := (tOp rAddS (tOp rAddS (tSl rSlS (tVar 3) tNoPart (tPart (tVar 4))) (tOp rIxS (tVar 2) (tOp (rI (fun _ j => 0 < j) fun i j => .int (i % j)) (tCB rInt1 (tCons (tOp (rI0 fun i j => .int (i + j)) (tVar 5) (tOp (rI CMul fun i j => .int (i * j)) (tVar 6) (tVar 7))) tNil)) (tC (.int 26))))) (tSl rSlS (tVar 3) (tPart (tVar 4)) tNoPart))) rfl scWd.nd (pi_range1 (by rfl) TR (pa_cons (pv 1) pa_nil)) (blkOk_by (N := ["_law_pen_here", "_law_many", "_law_letters", "_law_stem", "_law_at", "_law_first", "_law_step", "_law_k"]) (sc := defScope sWd) (by decide +kernel)) (fun _ _ _ _ _ => by exact (pg_name (i := 7) scWd.nd rfl (Or.inl rfl))) (fun _ _ _ _ _ => by exact pts_nil) (fun _ _ _ _ _ => by exact (pe_op op_add_str (pe_op op_add_str (pe_slice sl_str (pv 3) po_none (po_some (pv 4))) (pe_ix ix_str (pv 2) (pe_op op_mod (pe_callTy call_int1 (by rfl) T.int PyProof.Rows.boot_int (pa_cons (pe_op op_add (pv 5) (pe_op op_mul (pv 6) (pv 7))) pa_nil)) pe_int) (fun _ _ => rfl))) (pe_slice sl_str (pv 3) (po_some (pv 4)) po_none)))))))))), ?_⟩
    refine ⟨⟨_, rfl⟩, _, rfl, p, c, ns, b, 6, rfl, P0, hn, by omega, by decide, by decide, fun r H1 r0 r6 P1 x1 => ⟨r, rfl, by omega, by omega, fun D hD => lc_range (n := r.toNat) (fun i H' => (∃ ys : List Str, H' D = some (.lst (ys.map V.str)) ∧ ys.length = i ∧ ∀ y ∈ ys, y.length = 1) ∧ PenAt H' p c ns (b + 1 + i) ∧ SameX p H1 H') ⟨⟨[], upd_same, rfl, fun _ z => nomatch z⟩, P1.same (Ab.same_up hD), Same.X (Ab.same_up hD)⟩ ?_ ?_⟩⟩
    · intro i H' hi ⟨⟨ys, e, ly, one⟩, P2, x2⟩
      refine ⟨rfl, ?_⟩
      unfold tYes
      simp only [↓reduceIte]
      have oD : D ≠ p := PenAt.off P1 hD
      refine ⟨_, rfl, _, rfl, p, c, ns, _, _, rfl, P2, hn, by omega, by decide, by decide, fun q H2 P3 x3 => ?_⟩
      have eD := x3 _ _ oD e
      refine ⟨_, eD, szl (by simp; omega), ⟨ys ++ [⟨#[q]⟩], by rw [upd_same]; simp, by simp [ly], ?_⟩, ?_, ?_⟩
      · intro y hy
        rcases List.mem_append.mp hy with hy | hy
        · exact one y hy
        · rcases List.mem_cons.mp hy with e | hy
          · rw [e]
            rfl
          · cases hy
      · obtain ⟨⟨a, r', hp, q1⟩, q2⟩ := P3
        have nc : c ≠ D := by
          intro z
          rw [z] at q2
          rw [eD] at q2
          have := Option.some.inj q2
          obtain ⟨⟨_, _, _, _⟩, q3⟩ := id P1
          rw [z, hD] at q3
          cases q3
        exact ⟨⟨a, r', (upd_ne oD.symm).trans hp, q1⟩, (upd_ne nc).trans q2⟩
      · intro x o hx q'
        rw [upd_ne (ne_of_none q' hD)]
        exact x3 _ _ hx (x2 _ _ hx q')
    · intro H2 ⟨⟨ys, e, ly, one⟩, P2, x2⟩
      have sm' := ones_sum one
      refine ⟨_, D, ys, rfl, rfl, .inl (SqL.of e), by rw [sm', show (Str.ofString "").length = 0 by decide]; omega, ?_⟩
      have hst : (Txt.join (Str.ofString "") ys).length ≤ 5 := by
        have := StrLaws.join_length_le (Str.ofString "") ys
        rw [sm', show (Str.ofString "").length = 0 by decide] at this
        show (Builtin.Str.glued _ _).length ≤ 5
        rw [StrLaws.glued_eq_join]
        omega
      generalize hg : Txt.join (Str.ofString "") ys = stem at hst
      have P2' := P2.mono (b' := b + 6) (by omega)
      have sl : stem.length ≤ sizeLine := Nat.le_trans hst (by decide)
      have xa := x1.trans x2
      refine ⟨_, rfl, _, rfl, _, rfl, sl, _, _, rfl, rfl, p, c, ns, _, _, rfl, P2', hn, by omega, by omega, by omega, fun ra H3 a0 a1 P3 x3 => ?_⟩
      refine ⟨_, rfl, p, c, ns, _, 26, rfl, P3, hn, by omega, by decide, by decide, fun rf H4 f0 f1 P4 x4 => ?_⟩
      refine ⟨sz (by simp), fun t Ht ft st et => ⟨t, _, rfl, SqT.of et, rfl, _, _, rfl, _, _, rfl, rfl, ?_⟩⟩
      refine ⟨_, rfl, sz (by simp), fun lo Ho fo no so eo => ?_⟩
      refine ⟨p, c, ns, _, lo, _, rfl, (P4.same st).same so, hn, by omega, eo, by simp, by simp, fun v H5 hv P5 x5 => ?_⟩
      have iv : ∃ i : Int, v = .int i ∧ 1 ≤ i ∧ i ≤ 25 := by
        simp only [List.mem_cons, List.not_mem_nil, or_false] at hv
        rcases hv with e | e | e | e | e | e | e | e | e | e | e | e <;> exact ⟨_, e, by decide, by decide⟩
      obtain ⟨g, rfl, g1, g2⟩ := iv
      have xb : SameX p H H5 := ((((xa.trans x3).trans x4).trans (Same.X st)).trans (Same.X so)).trans x5
      refine ⟨_, rfl, n, rfl, by omega, by omega, fun D2 hD2 => lc_range (n := n) (fun i H' => (∃ zs : List Str, H' D2 = some (.lst (zs.map V.str)) ∧ zs.length = i ∧ ∀ z ∈ zs, z.length ≤ 1000) ∧ Same H5 H') ⟨⟨[], upd_same, rfl, fun _ z => nomatch z⟩, Ab.same_up hD2⟩ ?_ ?_⟩
      · intro i H' hi ⟨⟨zs, e, lz, sz'⟩, s'⟩
        refine ⟨rfl, ?_⟩
        unfold tYes
        simp only [↓reduceIte]
        have m0 := Int.emod_nonneg (rf + g * (0 + (i : Int))) (show (26 : Int) ≠ 0 by decide)
        have m1 := Int.emod_lt_of_pos (rf + g * (0 + (i : Int))) (show (0 : Int) < 26 by decide)
        obtain ⟨q, hq⟩ := sign_at (z := abc) m0 (by rw [show (abc.length : Int) = 26 by decide]; exact m1)
        have c1 := cutS_length stem none (some ra)
        have c2 := cutS_length stem (some ra) none
        have lone : (⟨#[q]⟩ : Str).length = 1 := rfl
        refine ⟨_, rfl, _, rfl, ra, rfl, stem, rfl, sl, _, rfl, _, rfl, _, rfl, _, rfl, _, _, rfl, rfl, .inl ⟨by omega, by omega⟩, _, _, rfl, rfl, .inl ⟨_, rfl, _, _, rfl, rfl, by show (0 : Int) < 26; decide, abc, _, q, rfl, rfl, by decide, hq, ?_⟩⟩
        refine ⟨_, _, rfl, rfl, sz (by rw [lone]; omega), ?_⟩
        have l2 : (cutS stem none (some ra) ++ (⟨#[q]⟩ : Str)).length ≤ 6 := by rw [Str.length_append, lone]; omega
        refine ⟨_, rfl, _, rfl, ra, rfl, stem, rfl, sl, _, _, rfl, rfl, sz (by omega), ?_⟩
        refine ⟨_, e, szl (by simp; omega), ⟨zs ++ [_], by rw [upd_same]; simp; rfl, by simp [lz], ?_⟩, ?_⟩
        · intro z hz
          rcases List.mem_append.mp hz with hz | hz
          · exact sz' z hz
          · rcases List.mem_cons.mp hz with e | hz
            · rw [e, Str.length_append]
              omega
            · cases hz
        · intro x o q'
          rw [upd_ne (ne_of_none q' hD2)]
          exact s' _ _ q'
      · intro H' ⟨⟨zs, e, lz, sz'⟩, s'⟩
        have fr : H D2 = none := by
          cases hh : H D2 with
          | none => rfl
          | some o =>
            have o5 := PenAt.off P5 hD2
            have := xb _ _ o5 hh
            rw [hD2] at this
            cases this
        exact k D2 H' fr ⟨zs, e, by omega, by omega, sz'⟩ ((P5.same s').mono (by omega)) (xb.trans (Same.X s'))
end
end Hd

set_option Elab.async false
set_option linter.all false
set_option maxRecDepth 100000
set_option maxHeartbeats 4000000
namespace Hd
open PySem L2 Pen RG Dat KEq
abbrev sDe : Stmt := top 43
abbrev sDc : Stmt := top 44
abbrev sDi : Stmt := top 45
def spDe (K : PySem.W.Frag) : Sp := fun vs H Q _ => ∃ (n : Nat) (z : Str) (p : Addr) (o : HO), vs = [.int n, .str z] ∧ 1 ≤ n ∧ n ≤ 9 ∧ z.length ≤ 1000 ∧ H p = some o ∧ ∀ (v : V) (d : PyData) (H' : Hp), Dw K p H' 12 v d → Same H H' → Q v H'
def spDi (K : PySem.W.Frag) : Sp := fun vs H Q _ => ∃ (n : Nat) (p : Addr) (o : HO), vs = [.int n] ∧ 1 ≤ n ∧ n ≤ 9 ∧ H p = some o ∧ ∀ (v : V) (d : PyData) (H' : Hp), Dw K p H' 20 v d → Same H H' → Q v H'
theorem off_of {H : Hp} {p t : Addr} {o : HO} (h : H p = some o) (f : H t = none) : t ≠ p := (ne_of_none h f).symm
section
variable {P : Program} {w : World} {K : PySem.W.Frag} {mg : Str → Option Value} {base : Heap}
theorem scDe : FnScope ["_law_deep", "_law_word", "_law_found", "_law_k"] ["_law_deep", "_law_word"] (defScope sDe) := ⟨rfl, rfl, rfl, by decide +kernel, rfl, by decide +kernel, by decide +kernel⟩
theorem ok_de {f : Addr} {fd : FuncData} (F : Fun K "_law_deep_e" "_law_deep_e" sDe f fd) (T : TxtH mg) (TR : mg "range" = none) : FnOk P w K mg base CX0 1 f fd ["_law_deep", "_law_word"] (spDe K) := by
  refine F.ok scDe (fun vs H Q E h => ?_) (fun cdv A outer s H vs Q E hr h => ?_)
  · obtain ⟨n, z, p, o, rfl, _⟩ := h
    rfl
  · obtain ⟨n, z, p, o, rfl, n1, n9, zl, hp, k⟩ := h
    refine ⟨_, (pss_cons (ps_set (i := 2) scDe.nd rfl (Or.inl rfl) (Ab.pe_tupA (pa_cons pe_str pa_nil)))
      (pss_cons (ps_for PassesOwn.never rfl (pi_range1 (by rfl) TR (pa_cons (pe_op op_sub (pv 0) pe_int) pa_nil)) (pg_name (i := 3) scDe.nd rfl (Or.inl rfl)) (pss_one (ps_set (i := 2) scDe.nd rfl (Or.inl rfl) (pe_ifExp (pt_cmpR op_eq (pe_op op_mod (pe_callTy call_int1 (by rfl) T.int PyProof.Rows.boot_int (pa_cons (pv 3) pa_nil)) pe_int) pe_int (nomark _)) (Ab.pe_tupA (pa_cons (pv 1) (pa_cons (pv 2) (pa_cons (Ab.pe_tupA (pa_cons pe_str (pa_cons pe_int pa_nil))) pa_nil)))) (Ab.pe_tupA (pa_cons (pv 1) (pa_cons (Ab.pe_tupA (pa_cons pe_str (pa_cons pe_str pa_nil))) (pa_cons (pv 2) pa_nil))))))))
      (pss_one (ps_ret (pv 2))))), ?_⟩
    refine ⟨sz (by simp), fun t0 H0 f0 s0 e0 => ?_⟩
    have D0 : Dw K p H0 1 (.ref t0) (.tuple [.str tB']) := .tup (.cons (.str _ (by decide)) .nil) (by simp) (off_of hp f0) e0
    refine ⟨_, rfl, _, _, rfl, rfl, _, rfl, by omega, by omega, for_range (n := ((n : Int) - 1).toNat) (fun i σ H' => σ.length = 4 ∧ σ[1]? = some (some (.str z)) ∧ (∃ v d, σ[2]? = some (some v) ∧ Dw K p H' (i + 1) v d) ∧ Same H H') ⟨rfl, rfl, ⟨_, _, rfl, D0⟩, s0⟩ ?_ ?_⟩
    · intro i σ H' hi ⟨l0, v1, ⟨v, d, v2, dw⟩, s'⟩
      have z1 : (σ.set 3 (some (V.int (0 + (i : Int)))))[1]? = some (some (V.str z)) := by simp [v1]
      have z2 : (σ.set 3 (some (V.int (0 + (i : Int)))))[2]? = some (some v) := by simp [v2]
      have z3 : (σ.set 3 (some (V.int (0 + (i : Int)))))[3]? = some (some (V.int (0 + (i : Int)))) := by simp [l0]
      have z0 : (σ.set 3 (some (V.int (0 + (i : Int))))).length = 4 := by simp [l0]
      refine ⟨_, z3, .inl ⟨_, rfl, _, _, rfl, rfl, by show (0 : Int) < 2; decide, rfl, _, rfl, ite2 (fun h1 => ?_) (fun h1 => ?_)⟩⟩
      · refine ⟨_, z1, _, z2, sz (by simp), fun t1 H1 f1 s1 e1 => ⟨sz (by simp), fun t2 H2 f2 s2 e2 => ?_⟩⟩
        have a1 : Dw K p H2 (i + 1) (.ref t1) (.tuple [.str tV, .int 1]) := (Dw.tup (n := 0) (.cons (.str _ (by decide)) (.cons (.int 1) .nil)) (by simp) (off_of (s' _ _ hp) f1) (s2 _ _ e1)).mono (by omega)
        have a2 : Dw K p H2 (i + 1 + 1) (.ref t2) (.tuple [.str z, d, .tuple [.str tV, .int 1]]) := .tup (.cons (.str z zl) (.cons (dw.same (Same.X (s1.trans s2))) (.cons a1 .nil))) (by simp) (off_of (s1 _ _ (s' _ _ hp)) f2) e2
        exact ⟨by simp [l0], by simp [v1], ⟨_, _, by simp [l0], a2⟩, (s'.trans s1).trans s2⟩
      · refine ⟨_, z1, sz (by simp), fun t1 H1 f1 s1 e1 => ⟨_, z2, sz (by simp), fun t2 H2 f2 s2 e2 => ?_⟩⟩
        have a1 : Dw K p H2 (i + 1) (.ref t1) (.tuple [.str tR, .str "a"]) := (Dw.tup (n := 0) (.cons (.str _ (by decide)) (.cons (.str _ (by decide)) .nil)) (by simp) (off_of (s' _ _ hp) f1) (s2 _ _ e1)).mono (by omega)
        have a2 : Dw K p H2 (i + 1 + 1) (.ref t2) (.tuple [.str z, .tuple [.str tR, .str "a"], d]) := .tup (.cons (.str z zl) (.cons a1 (.cons (dw.same (Same.X (s1.trans s2))) .nil))) (by simp) (off_of (s1 _ _ (s' _ _ hp)) f2) e2
        exact ⟨by simp [l0], by simp [v1], ⟨_, _, by simp [l0], a2⟩, (s'.trans s1).trans s2⟩
    · intro σ H' ⟨l0, v1, ⟨v, d, v2, dw⟩, s'⟩
      exact ⟨_, v2, k v d H' (dw.mono (by omega)) s'⟩
theorem scDc : FnScope ["_law_deep", "_law_word", "_law_found", "_law_k"] ["_law_deep", "_law_word"] (defScope sDc) := ⟨rfl, rfl, rfl, by decide +kernel, rfl, by decide +kernel, by decide +kernel⟩
theorem ok_dc {f : Addr} {fd : FuncData} (F : Fun K "_law_deep_c" "_law_deep_c" sDc f fd) (TR : mg "range" = none) : FnOk P w K mg base CX0 1 f fd ["_law_deep", "_law_word"] (spDe K) := by
  refine F.ok scDc (fun vs H Q E h => ?_) (fun cdv A outer s H vs Q E hr h => ?_)
  · obtain ⟨n, z, p, o, rfl, _⟩ := h
    rfl
  · obtain ⟨n, z, p, o, rfl, n1, n9, zl, hp, k⟩ := h
    refine ⟨_, (pss_cons (ps_set (i := 2) scDc.nd rfl (Or.inl rfl) (Ab.pe_tupA (pa_cons pe_str (pa_cons (Ab.pe_tupA (pa_cons pe_str pa_nil)) (pa_cons (Ab.pe_tupA (pa_cons pe_str (pa_cons pe_int pa_nil))) pa_nil)))))
      (pss_cons (ps_for PassesOwn.never rfl (pi_range1 (by rfl) TR (pa_cons (pe_op op_sub (pv 0) pe_int) pa_nil)) (pg_name (i := 3) scDc.nd rfl (Or.inl rfl)) (pss_one (ps_set (i := 2) scDc.nd rfl (Or.inl rfl) (pe_ifExp (pt_cmpR op_eq (pv 1) pe_str (nomark _)) (Ab.pe_tupA (pa_cons pe_str (pa_cons (pv 2) pa_nil))) (Ab.pe_tupA (pa_cons (pv 1) (pa_cons (Ab.pe_tupA (pa_cons pe_str (pa_cons (Ab.pe_tupA (pa_cons pe_str pa_nil)) (pa_cons (Ab.pe_tupA (pa_cons pe_str pa_nil)) pa_nil)))) (pa_cons (pv 2) pa_nil))))))))
      (pss_one (ps_ret (pv 2))))), ?_⟩
    refine ⟨sz (by simp), fun ta Ha fa sa ea => ⟨sz (by simp), fun tb Hb fb sb eb => ⟨sz (by simp), fun t0 H0 f0 s0 e0 => ?_⟩⟩⟩
    have D0 : Dw K p H0 2 (.ref t0) (.tuple [.str "<", .tuple [.str tB'], .tuple [.str tV, .int 0]]) := .tup (.cons (.str _ (by decide)) (.cons (.tup (.cons (.str _ (by decide)) .nil) (by simp) (off_of hp fa) (s0 _ _ (sb _ _ ea))) (.cons (.tup (.cons (.str _ (by decide)) (.cons (.int 0) .nil)) (by simp) (off_of (sa _ _ hp) fb) (s0 _ _ eb)) .nil))) (by simp) (off_of (sb _ _ (sa _ _ hp)) f0) e0
    refine ⟨_, rfl, _, _, rfl, rfl, _, rfl, by omega, by omega, for_range (n := ((n : Int) - 1).toNat) (fun i σ H' => σ.length = 4 ∧ σ[1]? = some (some (.str z)) ∧ (∃ v d, σ[2]? = some (some v) ∧ Dw K p H' (i + 2) v d) ∧ Same H H') ⟨rfl, rfl, ⟨_, _, rfl, D0⟩, (sa.trans sb).trans s0⟩ ?_ ?_⟩
    · intro i σ H' hi ⟨l0, v1, ⟨v, d, v2, dw⟩, s'⟩
      have z1 : (σ.set 3 (some (V.int (0 + (i : Int)))))[1]? = some (some (V.str z)) := by simp [v1]
      have z2 : (σ.set 3 (some (V.int (0 + (i : Int)))))[2]? = some (some v) := by simp [v2]
      refine ⟨_, z1, rfl, _, rfl, ite2 (fun h1 => ?_) (fun h1 => ?_)⟩
      · refine ⟨_, z2, sz (by simp), fun t1 H1 f1 s1 e1 => ?_⟩
        have a2 : Dw K p H1 (i + 2 + 1) (.ref t1) (.tuple [.str "not", d]) := .tup (.cons (.str _ (by decide)) (.cons (dw.same (Same.X s1)) .nil)) (by simp) (off_of (s' _ _ hp) f1) e1
        exact ⟨by simp [l0], by simp [v1], ⟨_, _, by simp [l0], a2.mono (by omega)⟩, s'.trans s1⟩
      · refine ⟨_, z1, sz (by simp), fun t1 H1 f1 s1 e1 => ⟨sz (by simp), fun t2 H2 f2 s2 e2 => ⟨sz (by simp), fun t3 H3 f3 s3 e3 => ⟨_, z2, sz (by simp), fun t4 H4 f4 s4 e4 => ?_⟩⟩⟩⟩
        have p1 := s1 _ _ (s' _ _ hp)
        have p2 := s2 _ _ p1
        have p3 := s3 _ _ p2
        have a1 : Dw K p H3 1 (.ref t1) (.tuple [.str tB']) := .tup (.cons (.str _ (by decide)) .nil) (by simp) (off_of (s' _ _ hp) f1) (s3 _ _ (s2 _ _ e1))
        have a2 : Dw K p H3 1 (.ref t2) (.tuple [.str tB']) := .tup (.cons (.str _ (by decide)) .nil) (by simp) (off_of p1 f2) (s3 _ _ e2)
        have a3 : Dw K p H4 2 (.ref t3) (.tuple [.str "=", .tuple [.str tB'], .tuple [.str tB']]) := .tup (.cons (.str _ (by decide)) (.cons (a1.same (Same.X s4)) (.cons (a2.same (Same.X s4)) .nil))) (by simp) (off_of p2 f3) (s4 _ _ e3)
        have a4 : Dw K p H4 (i + 2 + 1) (.ref t4) (.tuple [.str z, .tuple [.str "=", .tuple [.str tB'], .tuple [.str tB']], d]) := .tup (.cons (.str z zl) (.cons (a3.mono (by omega)) (.cons (dw.same (Same.X (((s1.trans s2).trans s3).trans s4))) .nil))) (by simp) (off_of p3 f4) e4
        exact ⟨by simp [l0], by simp [v1], ⟨_, _, by simp [l0], a4.mono (by omega)⟩, (((s'.trans s1).trans s2).trans s3).trans s4⟩
    · intro σ H' ⟨l0, v1, ⟨v, d, v2, dw⟩, s'⟩
      exact ⟨_, v2, k v d H' (dw.mono (by omega)) s'⟩
theorem scDi : FnScope ["_law_deep", "_law_found", "_law_k"] ["_law_deep"] (defScope sDi) := ⟨rfl, rfl, rfl, by decide +kernel, rfl, by decide +kernel, by decide +kernel⟩
theorem ok_di {f : Addr} {fd : FuncData} (F : Fun K "_law_deep_ifs" "_law_deep_ifs" sDi f fd) (TR : mg "range" = none) : FnOk P w K mg base CX0 1 f fd ["_law_deep"] (spDi K) := by
  refine F.ok scDi (fun vs H Q E h => ?_) (fun cdv A outer s H vs Q E hr h => ?_)
  · obtain ⟨n, p, o, rfl, _⟩ := h
    rfl
  · obtain ⟨n, p, o, rfl, n1, n9, hp, k⟩ := h
    refine ⟨_, (pss_cons (ps_set (i := 1) scDi.nd rfl (Or.inl rfl) (Ab.pe_tupA (pa_cons (Ab.pe_tupA (pa_cons pe_str pa_nil)) pa_nil)))
      (pss_cons (ps_for PassesOwn.never rfl (pi_range1 (by rfl) TR (pa_cons (pv 0) pa_nil)) (pg_name (i := 2) scDi.nd rfl (Or.inl rfl)) (pss_one (ps_set (i := 1) scDi.nd rfl (Or.inl rfl) (Ab.pe_tupA (pa_cons (Ab.pe_tupA (pa_cons pe_str (pa_cons (Ab.pe_tupA (pa_cons pe_str (pa_cons (Ab.pe_tupA (pa_cons pe_str pa_nil)) (pa_cons (Ab.pe_tupA (pa_cons pe_str (pa_cons pe_int pa_nil))) pa_nil)))) (pa_cons (pv 1) (pa_cons (Ab.pe_tupA pa_nil) pa_nil))))) pa_nil)))))
      (pss_one (ps_ret (pv 1))))), ?_⟩
    refine ⟨sz (by simp), fun ta Ha fa sa ea => ⟨sz (by simp), fun t0 H0 f0 s0 e0 => ?_⟩⟩
    have D0 : Dw K p H0 2 (.ref t0) (.tuple [.tuple [.str "fail"]]) := .tup (.cons (.tup (.cons (.str _ (by decide)) .nil) (by simp) (off_of hp fa) (s0 _ _ ea)) .nil) (by simp) (off_of (sa _ _ hp) f0) e0
    refine ⟨_, rfl, _, rfl, by omega, by omega, for_range (n := n) (fun i σ H' => σ.length = 3 ∧ (∃ v d, σ[1]? = some (some v) ∧ Dw K p H' (2 * i + 2) v d) ∧ Same H H') ⟨rfl, ⟨_, _, rfl, D0⟩, sa.trans s0⟩ ?_ ?_⟩
    · intro i σ H' hi ⟨l0, ⟨v, d, v2, dw⟩, s'⟩
      have z2 : (σ.set 2 (some (V.int (0 + (i : Int)))))[1]? = some (some v) := by simp [v2]
      refine ⟨sz (by simp), fun t1 H1 f1 s1 e1 => ⟨sz (by simp), fun t2 H2 f2 s2 e2 => ⟨sz (by simp), fun t3 H3 f3 s3 e3 => ⟨_, z2, sz (by simp), fun t4 H4 f4 s4 e4 => ⟨sz (by simp), fun t5 H5 f5 s5 e5 => ⟨sz (by simp), fun t6 H6 f6 s6 e6 => ?_⟩⟩⟩⟩⟩⟩
      have p1 := s1 _ _ (s' _ _ hp)
      have p2 := s2 _ _ p1
      have p3 := s3 _ _ p2
      have p4 := s4 _ _ p3
      have p5 := s5 _ _ p4
      have a1 : Dw K p H3 1 (.ref t1) (.tuple [.str tB']) := .tup (.cons (.str _ (by decide)) .nil) (by simp) (off_of (s' _ _ hp) f1) (s3 _ _ (s2 _ _ e1))
      have a2 : Dw K p H3 1 (.ref t2) (.tuple [.str tV, .int 1]) := .tup (.cons (.str _ (by decide)) (.cons (.int 1) .nil)) (by simp) (off_of p1 f2) (s3 _ _ e2)
      have a3 : Dw K p H3 2 (.ref t3) (.tuple [.str "=", .tuple [.str tB'], .tuple [.str tV, .int 1]]) := .tup (.cons (.str _ (by decide)) (.cons a1 (.cons a2 .nil))) (by simp) (off_of p2 f3) e3
      have a4 : Dw K p H4 1 (.ref t4) (.tuple []) := .tup .nil (by simp) (off_of p3 f4) e4
      have x35 : SameX p H3 H5 := Same.X (s4.trans s5)
      have xd : SameX p H' H5 := Same.X ((((s1.trans s2).trans s3).trans s4).trans s5)
      have a5 : Dw K p H5 (2 * i + 2 + 1) (.ref t5) (.tuple [.str "if", .tuple [.str "=", .tuple [.str tB'], .tuple [.str tV, .int 1]], d, .tuple []]) := .tup (.cons (.str _ (by decide)) (.cons ((a3.same x35).mono (by omega)) (.cons (dw.same xd) (.cons ((a4.same (Same.X s5)).mono (by omega)) .nil)))) (by simp) (off_of p4 f5) e5
      have a6 : Dw K p H6 (2 * i + 2 + 1 + 1) (.ref t6) (.tuple [.tuple [.str "if", .tuple [.str "=", .tuple [.str tB'], .tuple [.str tV, .int 1]], d, .tuple []]]) := .tup (.cons (a5.same (Same.X s6)) .nil) (by simp) (off_of p5 f6) e6
      exact ⟨by simp [l0], ⟨_, _, by simp [l0], a6.mono (by omega)⟩, (((((s'.trans s1).trans s2).trans s3).trans s4).trans s5).trans s6⟩
    · intro σ H' ⟨l0, ⟨v, d, v2, dw⟩, s'⟩
      exact ⟨_, v2, k v d H' (dw.mono (by omega)) s'⟩
end
end Hd

set_option Elab.async false
set_option linter.all false
set_option maxRecDepth 100000
set_option maxHeartbeats 8000000
namespace Hd
open PySem L2 Pen RG Dat KEq
abbrev sDd : Stmt := top 30
abbrev sDs : Stmt := top 31
/-- xs != [] -/
def rNeNil (K : PySem.W.Frag) : R2 := fun x y G Want => ∃ (a b : Addr) (xs : List V), x = .ref a ∧ y = .ref b ∧ SqL K G a xs ∧ 0 < xs.length ∧ SqL K G b [] ∧ Want (.bl true) G
theorem op_neNil {X : Cx} (hu : X.A.units + 1 < cLine) : OpR X (compareOp .NotEq) (rNeNil X.K) := by
  intro pins st σ G x y v u Want I rx ry h
  obtain ⟨a, b, xs, rfl, rfl, ha, hz, hb, q⟩ := h
  cases rx
  cases ry
  obtain ⟨its, r1, p1, _⟩ := I.list ha
  obtain ⟨jts, r2, p2, _⟩ := I.list hb
  have e2 : jts = [] := by cases r2; rfl
  subst e2
  cases r1 with
  | nil => cases hz
  | cons c t => exact SeqAt.RcNeAt.lists_lengths p1.isList p2.isList (by simp) (Nat.lt_of_succ_lt hu) _ _ _ _ ⟨.bl true, G, I, rfl, q⟩
abbrev kN : Key := Sum.inr ("names" : Str)
abbrev kK : Key := Sum.inr ("keys" : Str)
abbrev kD : Key := Sum.inr ("kinds" : Str)
abbrev kS : Key := Sum.inr ("sends" : Str)
abbrev kE : Key := Sum.inr ("deeds" : Str)
def pl (a b c : Addr) (s e : Int) : List (Key × V) := [(kN, .ref a), (kK, .ref b), (kD, .ref c), (kS, .int s), (kE, .int e)]
theorem pl_n (a b c : Addr) (s e : Int) : valV (pl a b c s e) kN = some (.ref a) := valV_pos rfl
theorem pl_k (a b c : Addr) (s e : Int) : valV (pl a b c s e) kK = some (.ref b) := (valV_neg (show ¬ kN = kK by decide +kernel)).trans (valV_pos rfl)
theorem pl_d (a b c : Addr) (s e : Int) : valV (pl a b c s e) kD = some (.ref c) := ((valV_neg (show ¬ kN = kD by decide +kernel)).trans (valV_neg (show ¬ kK = kD by decide +kernel))).trans (valV_pos rfl)
theorem pl_s (a b c : Addr) (s e : Int) : valV (pl a b c s e) kS = some (.int s) := (((valV_neg (show ¬ kN = kS by decide +kernel)).trans (valV_neg (show ¬ kK = kS by decide +kernel))).trans (valV_neg (show ¬ kD = kS by decide +kernel))).trans (valV_pos rfl)
theorem pl_e (a b c : Addr) (s e : Int) : valV (pl a b c s e) kE = some (.int e) := ((((valV_neg (show ¬ kN = kE by decide +kernel)).trans (valV_neg (show ¬ kK = kE by decide +kernel))).trans (valV_neg (show ¬ kD = kE by decide +kernel))).trans (valV_neg (show ¬ kS = kE by decide +kernel))).trans (valV_pos rfl)
theorem pl_putS (a b c : Addr) (s e x : Int) : putK (pl a b c s e) kS (.int x) = pl a b c x e := by
  have n1 : ¬ (("names" : Str) = "sends") := by decide +kernel
  have n2 : ¬ (("keys" : Str) = "sends") := by decide +kernel
  have n3 : ¬ (("kinds" : Str) = "sends") := by decide +kernel
  have n4 : ¬ (("deeds" : Str) = "sends") := by decide +kernel
  unfold putK pl
  simp [n1, n2, n3, n4]
theorem pl_putE (a b c : Addr) (s e x : Int) : putK (pl a b c s e) kE (.int x) = pl a b c s x := by
  have n1 : ¬ (("names" : Str) = "deeds") := by decide +kernel
  have n2 : ¬ (("keys" : Str) = "deeds") := by decide +kernel
  have n3 : ¬ (("kinds" : Str) = "deeds") := by decide +kernel
  have n4 : ¬ (("sends" : Str) = "deeds") := by decide +kernel
  unfold putK pl
  simp [n1, n2, n3, n4]
/-- the place at q, beside the pen at p -/
structure Pl (H : Hp) (p q a b c : Addr) : Prop where
  ex : ∃ s e : Int, H q = some (.dK (pl a b c s e))
  na : Names H a
  nb : Names H b
  nc : Names H c
  ne : p ≠ q
theorem Names.off {H : Hp} {l q : Addr} {kvs : List (Key × V)} (x : Names H l) (h : H q = some (.dK kvs)) : l ≠ q := by
  obtain ⟨zs, e, _⟩ := x
  exact ne_of e h (by intro z; cases z)
theorem Names.sameY {H H' : Hp} {p q c l : Addr} {ns : List Int} {b : Nat} {kvs : List (Key × V)} (P : PenAt H p c ns b) (x : Names H l) (h : H q = some (.dK kvs)) (s : SameY p q H H') : Names H' l := by
  have n := x.off h
  obtain ⟨zs, e, q'⟩ := x
  exact ⟨zs, s _ _ (lst_off P e) n e, q'⟩
theorem Pl.sameX {H H' : Hp} {p q a b c cc : Addr} {ns : List Int} {k : Nat} (P : PenAt H p cc ns k) (x : Pl H p q a b c) (s : SameX p H H') : Pl H' p q a b c := by
  obtain ⟨⟨s0, e0, h⟩, x1, x2, x3, n⟩ := x
  exact ⟨⟨s0, e0, s _ _ n.symm h⟩, x1.same P s, x2.same P s, x3.same P s, n⟩
theorem Pl.put {H : Hp} {p q a b c cc : Addr} {ns : List Int} {k : Nat} {s e : Int} (P : PenAt H p cc ns k) (x : Pl H p q a b c) : Pl (upd H q (.dK (pl a b c s e))) p q a b c ∧ PenAt (upd H q (.dK (pl a b c s e))) p cc ns k := by
  obtain ⟨⟨s0, e0, h⟩, x1, x2, x3, n⟩ := x
  have y := SameY.upd (p := p) (q := q) (H := H) (o := .dK (pl a b c s e))
  refine ⟨⟨⟨s, e, upd_same⟩, x1.sameY P h y, x2.sameY P h y, x3.sameY P h y, n⟩, ?_⟩
  obtain ⟨⟨a1, r1, hp, q1⟩, ce⟩ := P
  refine ⟨⟨a1, r1, (upd_ne n).trans hp, q1⟩, ?_⟩
  have nc : cc ≠ q := ne_of ce h (by intro z; cases z)
  exact (upd_ne nc).trans ce
def spDs (K : PySem.W.Frag) (m : Nat) : Sp := fun vs H Q _ => ∃ (p cc : Addr) (ns : List Int) (k : Nat) (q a b c : Addr) (i : Nat), vs = [.ref p, .ref q, .int i] ∧ i < m ∧ i ≤ 4 ∧ PenAt H p cc ns k ∧ ns.length ≤ 63 ∧ k + 70000 * 8 ^ i ≤ 2 ^ 36 ∧ Pl H p q a b c ∧
  ∀ (v : V) (ds : List PyData) (H' : Hp), Dw K p H' (10 + 2 * i) v (.tuple ds) → ds.length ≤ 4 → PenAt H' p cc ns (k + 70000 * 8 ^ i) → Pl H' p q a b c → SameY p q H H' → Q v H'
def spDd (K : PySem.W.Frag) (m : Nat) : Sp := fun vs H Q _ => ∃ (p cc : Addr) (ns : List Int) (k : Nat) (q a b c : Addr) (i : Nat), vs = [.ref p, .ref q, .int i] ∧ i < m ∧ i ≤ 4 ∧ PenAt H p cc ns k ∧ ns.length ≤ 63 ∧ k + 20000 * 8 ^ i ≤ 2 ^ 36 ∧ Pl H p q a b c ∧
  ∀ (v : V) (d : PyData) (H' : Hp), Dw K p H' (9 + 2 * i) v d → PenAt H' p cc ns (k + 20000 * 8 ^ i) → Pl H' p q a b c → SameY p q H H' → Q v H'
section
variable {P : Program} {w : World} {K : PySem.W.Frag} {mg : Str → Option Value} {base : Heap}
theorem scDs : FnScope ["_law_pen_here", "_law_place", "_law_ifs", "_law_found", "_law_k"] ["_law_pen_here", "_law_place", "_law_ifs"] (defScope sDs) := ⟨rfl, rfl, rfl, by decide +kernel, rfl, by decide +kernel, by decide +kernel⟩
theorem ok_ds {f fD fd' : Addr} {fd fdD fdd : FuncData} (m n : Nat) (hn1 : 1 ≤ n) (F : Fun K "_law_deeds" "_law_deeds" sDs f fd) (T : TxtH mg) (TR : mg "range" = none)
    (GDraw : FnOk P w K mg base CX0 1 fD fdD ["_law_pen_here", "_law_many"] spDraw) (TDraw : DefT K mg "_law_draw" fD) (bDraw : Binds K fdD ["_law_pen_here", "_law_many"] [])
    (GDd : FnOk P w K mg base CX0 n fd' fdd ["_law_pen_here", "_law_place", "_law_ifs"] (spDd K m)) (TDd : DefT K mg "_law_deed" fd') (bDd : Binds K fdd ["_law_pen_here", "_law_place", "_law_ifs"] []) : FnOk P w K mg base CX0 (n + 1) f fd ["_law_pen_here", "_law_place", "_law_ifs"] (spDs K m) := by
  refine F.ok scDs (fun vs H Q E h => ?_) (fun cdv A outer s H vs Q E hr h => ?_)
  · obtain ⟨p, cc, ns, k, q, a, b, c, i, rfl, _⟩ := h
    rfl
  · obtain ⟨p, cc, ns, b0, q, a, b, c, j, rfl, lt, j4, P0, hn, hb, L0, k⟩ := h
    have hu := hu_of hr
    have e8 : 1 ≤ 8 ^ j := Nat.one_le_pow _ _ (by decide)
    refine ⟨_, (pss_cons (ps_set (i := 3) scDs.nd rfl (Or.inl rfl) (Ab.pe_lstA pa_nil))
      (pss_cons (ps_for PassesOwn.never rfl (pi_range1 (by rfl) TR (pa_cons (pe_call GDraw (hr.mono (by omega)) rfl TDraw.mg TDraw.kp bDraw .nil pass0 (pa_cons (pv 0) (pa_cons pe_int pa_nil))) pa_nil)) (pg_name (i := 4) scDs.nd rfl (Or.inl rfl)) (pss_one (ps_if (pt_cmpR op_gt (pe_dget hu (pv 1) pe_str (fun _ _ => rfl)) pe_int (nomark _)) (pss_cons (ps_dput hu (pv 1) pe_str (pe_op op_sub (pe_dget hu (pv 1) pe_str (fun _ _ => rfl)) pe_int) rfl)
      (pss_one (ps_expr (pe_bm PySem.F.plainAttrs_list PySem.F.slot_list_append PySem.F.type_list_append mt_append (pv 3) (pa_cons (pe_call GDd (hr.mono (by omega)) rfl TDd.mg TDd.kp bDd .nil pass0 (pa_cons (pv 0) (pa_cons (pv 1) (pa_cons (pv 2) pa_nil)))) pa_nil))))) pss_nil)))
      (pss_one (ps_ret (pe_callTy call_tuple_of (by rfl) T.tuple (by decide +kernel) (pa_cons (pv 3) pa_nil)))))), ?_⟩
    refine ⟨sz (by simp), fun l H0 fl nl sl el => ?_⟩
    have ol := PenAt.off P0 fl
    have oq : l ≠ q := by
      obtain ⟨s0, e0, hq⟩ := L0.ex
      exact (ne_of_none hq fl).symm
    refine ⟨_, rfl, p, cc, ns, b0, 4, rfl, P0.same sl, hn, by omega, by decide, by decide, fun r H1 r0 r4 P1 x1 => ⟨r, rfl, by omega, by omega, for_range (n := r.toNat) (fun i σ H' => σ.length = 5 ∧ σ[0]? = some (some (.ref p)) ∧ σ[1]? = some (some (.ref q)) ∧ σ[2]? = some (some (.int j)) ∧ σ[3]? = some (some (.ref l)) ∧ PenAt H' p cc ns (b0 + 1 + i * (20000 * 8 ^ j)) ∧ Pl H' p q a b c ∧
      (∃ xs ds, H' l = some (.lst xs) ∧ xs.length ≤ i ∧ DwAll K p H' (9 + 2 * j) xs ds) ∧ ∀ x o, x ≠ p → x ≠ q → H x = some o → H' x = some o) ⟨rfl, rfl, rfl, rfl, rfl, P1.mono (by omega), L0.sameX P0 ((Same.X sl).trans x1), ⟨[], [], x1 _ _ ol el, Nat.le_refl _, .nil⟩, fun x o n1 n2 h => x1 _ _ n1 (sl _ _ h)⟩ ?_ ?_⟩⟩
    · intro i σ H' hi ⟨l0, v0, v1, v2, v3, P2, L2, ⟨xs, ds, ex, lx, dw⟩, y2⟩
      have i3 : i < 4 := by omega
      have ib : i * (20000 * 8 ^ j) + 20000 * 8 ^ j ≤ 3 * (20000 * 8 ^ j) := by
        have := Nat.mul_le_mul_right (20000 * 8 ^ j) (show i + 1 ≤ 3 by omega)
        rw [Nat.add_mul, Nat.one_mul] at this
        exact this
      have z0 : (σ.set 4 (some (V.int (0 + (i : Int)))))[0]? = some (some (V.ref p)) := by simp [v0]
      have z1 : (σ.set 4 (some (V.int (0 + (i : Int)))))[1]? = some (some (V.ref q)) := by simp [v1]
      have z2 : (σ.set 4 (some (V.int (0 + (i : Int)))))[2]? = some (some (V.int j)) := by simp [v2]
      have z3 : (σ.set 4 (some (V.int (0 + (i : Int)))))[3]? = some (some (V.ref l)) := by simp [v3]
      have zl : (σ.set 4 (some (V.int (0 + (i : Int))))).length = 5 := by simp [l0]
      obtain ⟨s0, e0, hq⟩ := L2.ex
      have ge : DGet H' q (.str "deeds") (some (.int e0)) := by
        have g := DGet.k (k := kE) hq
        rw [pl_e] at g
        exact g
      refine ⟨_, z1, q, _, rfl, ge, _, _, rfl, rfl, _, rfl, ite2 (fun h1 => ?_) (fun h1 => ?_)⟩
      · have pe : DPut H' q (.str "deeds") (.int (e0 - 1)) (upd H' q (.dK (pl a b c s0 (e0 - 1)))) := by
          have g := DPut.k (k := kE) (v := .int (e0 - 1)) hq (by show 5 < sizeLine; decide)
          rw [pl_putE] at g
          exact g
        obtain ⟨L3, P3⟩ := L2.put (s := s0) (e := e0 - 1) P2
        refine ⟨_, z1, q, _, rfl, ge, _, _, rfl, rfl, _, z1, q, _, rfl, pe, ?_⟩
        have el3 := (upd_ne (o := .dK (pl a b c s0 (e0 - 1))) (H := H') oq).trans ex
        have dw3 := dw.put noT_dK hq (SameY.upd (p := p) (o := .dK (pl a b c s0 (e0 - 1))))
        refine ⟨_, z3, .inl ⟨rfl, _, SqL.of el3⟩, _, z0, _, z1, _, z2, p, cc, ns, _, q, a, b, c, j, rfl, lt, j4, P3, hn, by omega, L3, fun v d H4 w4 P4 L4 y4 => ?_⟩
        have el4 := y4 _ _ ol oq el3
        refine ⟨l, xs, _, rfl, rfl, el4, szl (by omega), ?_⟩
        have dw4 : DwAll K p H4 (9 + 2 * j) xs ds := by
          obtain ⟨s3, e3, hq3⟩ := L3.ex
          exact dw3.put noT_dK hq3 y4
        have yl : SameY p l H4 (upd H4 l (.lst (xs ++ [v]))) := SameY.upd
        have dw5 := (dw4.app (.cons w4 .nil)).put noT_lst el4 yl
        have keep : ∀ x o, x ≠ p → x ≠ q → H x = some o → (upd H4 l (.lst (xs ++ [v]))) x = some o := by
          intro x o n1 n2 hx
          rw [upd_ne (ne_of_none hx fl)]
          refine y4 _ _ n1 n2 ?_
          rw [upd_ne n2]
          exact y2 _ _ n1 n2 hx
        have P5 : PenAt (upd H4 l (.lst (xs ++ [v]))) p cc ns (b0 + 1 + (i + 1) * (20000 * 8 ^ j)) := by
          have := P4.mono (b' := b0 + 1 + (i + 1) * (20000 * 8 ^ j)) (by rw [Nat.add_mul, Nat.one_mul]; omega)
          obtain ⟨⟨a1, r1, hp, q1⟩, ce⟩ := this
          obtain ⟨_, ce0⟩ := P0
          exact ⟨⟨a1, r1, (upd_ne ol.symm).trans hp, q1⟩, (upd_ne (ne_of_none ce0 fl)).trans ce⟩
        have L5 : Pl (upd H4 l (.lst (xs ++ [v]))) p q a b c := by
          obtain ⟨⟨s4, e4, h4⟩, x1', x2', x3', n4⟩ := L4
          have nm : ∀ t, Names H t → Names H4 t → Names (upd H4 l (.lst (xs ++ [v]))) t := by
            intro t ⟨zs0, e00, _⟩ ⟨zs, e4', r⟩
            exact ⟨zs, (upd_ne (ne_of_none e00 fl)).trans e4', r⟩
          exact ⟨⟨s4, e4, (upd_ne oq.symm).trans h4⟩, nm _ L0.na x1', nm _ L0.nb x2', nm _ L0.nc x3', n4⟩
        exact ⟨zl, z0, z1, z2, z3, P5, L5, ⟨_, _, upd_same, by simp; omega, dw5⟩, keep⟩
      · exact ⟨zl, z0, z1, z2, z3, P2.mono (by rw [Nat.add_mul, Nat.one_mul]; omega), L2, ⟨xs, ds, ex, by omega, dw⟩, y2⟩
    · intro σ H' ⟨l0, v0, v1, v2, v3, P2, L2, ⟨xs, ds, ex, lx, dw⟩, y2⟩
      have ib : r.toNat * (20000 * 8 ^ j) ≤ 3 * (20000 * 8 ^ j) := Nat.mul_le_mul_right _ (by omega)
      refine ⟨_, v3, l, xs, rfl, .inl ⟨SqL.of ex, fun t ft => ?_⟩⟩
      have ot := PenAt.off P2 ft
      have st := Ab.same_up (o := .tup xs) ft
      have D := Dw.tup (DwAll.same (Same.X st) dw) (by rw [← dw.len]; omega) ot upd_same
      exact k _ _ _ (D.mono (by omega)) (by rw [← dw.len]; omega) ((P2.same st).mono (by omega)) (L2.sameX P2 (Same.X st)) (fun x o n1 n2 hx => st _ _ (y2 x o n1 n2 hx))
end
end Hd

set_option Elab.async false
set_option linter.all false
set_option maxRecDepth 100000
set_option maxHeartbeats 8000000
namespace Hd
open PySem L2 Pen RG Dat KEq
theorem yx {p q : Addr} {H H' : Hp} (s : SameX p H H') : SameY p q H H' := fun x o n _ h => s x o n h
theorem gN {H : Hp} {q a b c : Addr} {s e : Int} (h : H q = some (.dK (pl a b c s e))) : DGet H q (.str "names") (some (.ref a)) := by
  have g := DGet.k (k := kN) h
  rw [pl_n] at g
  exact g
theorem gK {H : Hp} {q a b c : Addr} {s e : Int} (h : H q = some (.dK (pl a b c s e))) : DGet H q (.str "keys") (some (.ref b)) := by
  have g := DGet.k (k := kK) h
  rw [pl_k] at g
  exact g
theorem gD {H : Hp} {q a b c : Addr} {s e : Int} (h : H q = some (.dK (pl a b c s e))) : DGet H q (.str "kinds") (some (.ref c)) := by
  have g := DGet.k (k := kD) h
  rw [pl_d] at g
  exact g
theorem gS {H : Hp} {q a b c : Addr} {s e : Int} (h : H q = some (.dK (pl a b c s e))) : DGet H q (.str "sends") (some (.int s)) := by
  have g := DGet.k (k := kS) h
  rw [pl_s] at g
  exact g
section
variable {P : Program} {w : World} {K : PySem.W.Frag} {mg : Str → Option Value} {base : Heap}
theorem scDd : FnScope ["_law_pen_here", "_law_place", "_law_ifs", "_law_way", "_law_key", "_law_c_here"] ["_law_pen_here", "_law_place", "_law_ifs"] (defScope sDd) := ⟨rfl, rfl, rfl, by decide +kernel, rfl, by decide +kernel, by decide +kernel⟩
theorem ok_dd {f fD fP fE fC fS : Addr} {fd fdD fdP fdE fdC fdS : FuncData} (m n : Nat) (hn1 : 16 ≤ n) (F : Fun K "_law_deed" "_law_deed" sDd f fd)
    (GDraw : FnOk P w K mg base CX0 1 fD fdD ["_law_pen_here", "_law_many"] spDraw) (TDraw : DefT K mg "_law_draw" fD) (bDraw : Binds K fdD ["_law_pen_here", "_law_many"] [])
    (GPick : FnOk P w K mg base CX0 2 fP fdP ["_law_pen_here", "_law_items"] (spPick K)) (TPick : DefT K mg "_law_pick" fP) (bPick : Binds K fdP ["_law_pen_here", "_law_items"] [])
    (GE : FnOk P w K mg base CX0 10 fE fdE ["_law_pen_here", "_law_names", "_law_deep"] (spE K 5)) (TE : DefT K mg "_law_e" fE) (bE : Binds K fdE ["_law_pen_here", "_law_names", "_law_deep"] [])
    (GC : FnOk P w K mg base CX0 16 fC fdC ["_law_pen_here", "_law_names", "_law_deep"] (spC K 5)) (TC : DefT K mg "_law_c" fC) (bC : Binds K fdC ["_law_pen_here", "_law_names", "_law_deep"] [])
    (GDs : FnOk P w K mg base CX0 n fS fdS ["_law_pen_here", "_law_place", "_law_ifs"] (spDs K m)) (TDs : DefT K mg "_law_deeds" fS) (bDs : Binds K fdS ["_law_pen_here", "_law_place", "_law_ifs"] []) : FnOk P w K mg base CX0 (n + 1) f fd ["_law_pen_here", "_law_place", "_law_ifs"] (spDd K (m + 1)) := by
  refine F.ok scDd (fun vs H Q E h => ?_) (fun cdv A outer s H vs Q E hr h => ?_)
  · obtain ⟨p, cc, ns, k, q, a, b, c, i, rfl, _⟩ := h
    rfl
  · obtain ⟨p, cc, ns, b0, q, a, b, c, j, rfl, lt, j4, P0, hn, hb, L0, k⟩ := h
    have hu := hu_of hr
    have e8 : 1 ≤ 8 ^ j := Nat.one_le_pow _ _ (by decide)
    refine ⟨_, (pss_cons (ps_set (i := 3) scDd.nd rfl (Or.inl rfl) (pe_call GDraw (hr.mono (by omega)) rfl TDraw.mg TDraw.kp bDraw .nil pass0 (pa_cons (pv 0) (pa_cons pe_int pa_nil))))
      (pss_cons (ps_if (PW.pt (pw_and (pt_cmpR op_lt (pv 3) pe_int (nomark _)) (pw_and (pt_cmpR (op_neNil hu) (pe_dget hu (pv 1) pe_str (fun _ _ => rfl)) (Ab.pe_lstA pa_nil) (nomark _)) (pw_and1 (pt_cmpR op_gt (pe_dget hu (pv 1) pe_str (fun _ _ => rfl)) pe_int (nomark _)))))) (pss_cons (ps_dput hu (pv 1) pe_str (pe_op op_sub (pe_dget hu (pv 1) pe_str (fun _ _ => rfl)) pe_int) rfl)
      (pss_cons (ps_set (i := 4) scDd.nd rfl (Or.inl rfl) (pe_call GPick (hr.mono (by omega)) rfl TPick.mg TPick.kp bPick .nil pass0 (pa_cons (pv 0) (pa_cons (pe_op Ab.op_catA (Ab.pe_lstA (pa_cons pe_non (pa_cons pe_non pa_nil))) (pe_dget hu (pv 1) pe_str (fun _ _ => rfl))) pa_nil))))
      (pss_one (ps_ret (Ab.pe_tupA (pa_cons pe_str (pa_cons (pe_call GPick (hr.mono (by omega)) rfl TPick.mg TPick.kp bPick .nil pass0 (pa_cons (pv 0) (pa_cons (pe_dget hu (pv 1) pe_str (fun _ _ => rfl)) pa_nil))) (pa_cons (pv 4) (pa_cons (pe_call GE (hr.mono (by omega)) rfl TE.mg TE.kp bE .nil pass0 (pa_cons (pv 0) (pa_cons (pe_dget hu (pv 1) pe_str (fun _ _ => rfl)) (pa_cons pe_int pa_nil)))) pa_nil))))))))) pss_nil)
      (pss_cons (ps_if (PW.pt (pw_and (pt_cmpR op_eq (pv 3) pe_int (nomark _)) (pw_and1 (pt_cmpR op_gt (pv 2) pe_int (nomark _))))) (pss_cons (ps_set (i := 5) scDd.nd rfl (Or.inl rfl) (pe_call GC (hr.mono (by omega)) rfl TC.mg TC.kp bC .nil pass0 (pa_cons (pv 0) (pa_cons (pe_dget hu (pv 1) pe_str (fun _ _ => rfl)) (pa_cons pe_int pa_nil)))))
      (pss_one (ps_ret (Ab.pe_tupA (pa_cons pe_str (pa_cons (pv 5) (pa_cons (pe_call GDs (hr.mono (by omega)) rfl TDs.mg TDs.kp bDs .nil pass0 (pa_cons (pv 0) (pa_cons (pv 1) (pa_cons (pe_op op_sub (pv 2) pe_int) pa_nil)))) (pa_cons (pe_call GDs (hr.mono (by omega)) rfl TDs.mg TDs.kp bDs .nil pass0 (pa_cons (pv 0) (pa_cons (pv 1) (pa_cons (pe_op op_sub (pv 2) pe_int) pa_nil)))) pa_nil)))))))) pss_nil)
      (pss_cons (ps_if (PW.pt (pw_and (pt_cmpR op_eq (pv 3) pe_int (nomark _)) (pw_and1 (pt_cmpR op_eq (pe_call GDraw (hr.mono (by omega)) rfl TDraw.mg TDraw.kp bDraw .nil pass0 (pa_cons (pv 0) (pa_cons pe_int pa_nil))) pe_int (nomark _))))) (pss_one (ps_ret (Ab.pe_tupA (pa_cons pe_str pa_nil)))) pss_nil)
      (pss_one (ps_ret (Ab.pe_tupA (pa_cons pe_str (pa_cons (pe_call GPick (hr.mono (by omega)) rfl TPick.mg TPick.kp bPick .nil pass0 (pa_cons (pv 0) (pa_cons (pe_dget hu (pv 1) pe_str (fun _ _ => rfl)) pa_nil))) (pa_cons (pe_call GE (hr.mono (by omega)) rfl TE.mg TE.kp bE .nil pass0 (pa_cons (pv 0) (pa_cons (pe_dget hu (pv 1) pe_str (fun _ _ => rfl)) (pa_cons pe_int pa_nil)))) pa_nil)))))))))), ?_⟩
    refine ⟨_, rfl, p, cc, ns, b0, 9, rfl, P0, hn, by omega, by decide, by decide, fun r H1 r0 r9 P1 x1 => ?_⟩
    have L1 := L0.sameX P0 x1
    have y1 : SameY p q H H1 := yx x1
    obtain ⟨s0, e0, hq1⟩ := L1.ex
    refine ⟨_, rfl, _, _, rfl, rfl, _, rfl, ite2 (fun h1 => ?_) (fun h1 => ?_)⟩
    · refine ⟨_, rfl, q, _, rfl, gD hq1, by show 0 ≤ sizeLine; decide, fun l2 G2 f2 n2 s2 e2 => ?_⟩
      have P2 := P1.same s2
      have L2 := L1.sameX P1 (Same.X s2)
      have y2 := y1.trans (yx (Same.X s2))
      have hq2 := s2 _ _ hq1
      obtain ⟨ks, ek, k0, _, _⟩ := L2.nc
      refine ⟨c, l2, _, rfl, rfl, SqL.of ek, by simpa using k0, SqL.of e2, _, rfl, iteT ?_⟩
      refine ⟨_, rfl, q, _, rfl, gS hq2, _, _, rfl, rfl, _, rfl, ite2 (fun h4 => ?_) (fun h4 => ?_)⟩
      · have pS : DPut G2 q (.str "sends") (.int (s0 - 1)) (upd G2 q (.dK (pl a b c (s0 - 1) e0))) := by
          have g := DPut.k (k := kS) (v := .int (s0 - 1)) hq2 (by show 5 < sizeLine; decide)
          rw [pl_putS] at g
          exact g
        obtain ⟨L3, P3⟩ := L2.put (s := s0 - 1) (e := e0) P2
        have y3 : SameY p q H (upd G2 q (.dK (pl a b c (s0 - 1) e0))) := y2.trans SameY.upd
        refine ⟨_, rfl, q, _, rfl, gS hq2, _, _, rfl, rfl, _, rfl, q, _, rfl, pS, ?_⟩
        have hq3 : (upd G2 q (.dK (pl a b c (s0 - 1) e0))) q = some (.dK (pl a b c (s0 - 1) e0)) := upd_same
        generalize upd G2 q (.dK (pl a b c (s0 - 1) e0)) = G3 at L3 P3 y3 hq3 ⊢
        refine ⟨_, rfl, sz (by simp), fun l4 G4 f4 n4 s4 e4 => ?_⟩
        have L4 := L3.sameX P3 (Same.X s4)
        obtain ⟨zs, ez, z0, z10, zl⟩ := L4.nb
        refine ⟨_, rfl, q, _, rfl, gK (s4 _ _ hq3), l4, b, _, _, rfl, rfl, e4, ez, sz (by simp; omega), fun l5 G5 f5 s5 e5 => ?_⟩
        have P5 := (P3.same s4).same s5
        have L5 := L4.sameX (P3.same s4) (Same.X s5)
        refine ⟨p, cc, ns, _, l5, _, rfl, P5, hn, by omega, e5, by simp, by simp; omega, fun u H6 hu' P6 x6 => ?_⟩
        have key : ∃ du, ∀ G, Dw K p G 0 u du := by
          rcases List.mem_append.mp hu' with hu' | hu'
          · rcases List.mem_cons.mp hu' with e | hu'
            · rw [e]
              exact ⟨_, fun G => .non⟩
            rcases List.mem_cons.mp hu' with e | hu'
            · rw [e]
              exact ⟨_, fun G => .non⟩
            · cases hu'
          · obtain ⟨z, hz, rfl⟩ := List.mem_map.mp hu'
            exact ⟨_, fun G => .str z (zl z hz)⟩
        obtain ⟨du, wu⟩ := key
        have L6 := L5.sameX P5 x6
        obtain ⟨s6, e6, hq6⟩ := L6.ex
        obtain ⟨ys, ey, y0, y10, yl⟩ := L6.nc
        refine ⟨_, rfl, _, rfl, q, _, rfl, gD hq6, p, cc, ns, _, c, _, rfl, P6, hn, by omega, ey, by simpa using y0, by simp; omega, fun u7 H7 hu7 P7 x7 => ?_⟩
        obtain ⟨z7, hz7, rfl⟩ := List.mem_map.mp hu7
        have L7 := L6.sameX P6 x7
        obtain ⟨s7, e7, hq7⟩ := L7.ex
        refine ⟨_, rfl, _, rfl, _, rfl, q, _, rfl, gN hq7, p, cc, ns, _, a, 3, rfl, by omega, by omega, P7, hn, by omega, L7.na, fun v d H8 w8 P8 x8 => ?_⟩
        refine ⟨sz (by simp), fun t Gt ft st et => ?_⟩
        have D : Dw K p Gt (4 + 1) (.ref t) (.tuple [.str "send", .str z7, du, d]) := .tup (.cons (.str _ (by decide)) (.cons (.str z7 (yl z7 hz7)) (.cons ((wu Gt).mono (by omega)) (.cons (w8.same (Same.X st)) .nil)))) (by simp) (PenAt.off P8 ft) et
        exact k _ _ Gt (D.mono (by omega)) ((P8.same st).mono (by omega)) ((L7.sameX P7 x8).sameX P8 (Same.X st)) ((((((y3.trans (yx (Same.X s4))).trans (yx (Same.X s5))).trans (yx x6)).trans (yx x7)).trans (yx x8)).trans (yx (Same.X st)))
      · refine ⟨_, rfl, rfl, _, rfl, ite2 (fun h5 => ?_) (fun h5 => ?_)⟩
        · refine ⟨_, rfl, _, _, rfl, rfl, _, rfl, ite2 (fun h6 => ?_) (fun h6 => ?_)⟩
          · obtain ⟨j, rfl⟩ : ∃ t, j = t + 1 := ⟨j - 1, by have := of_decide_eq_true h6; omega⟩
            have hp8 : 8 ^ (j + 1) = 8 * 8 ^ j := by rw [Nat.pow_succ, Nat.mul_comm]
            have one8 : 1 ≤ 8 ^ j := Nat.one_le_pow _ _ (by decide)
            obtain ⟨sa, ea, hqa⟩ := L2.ex
            refine ⟨_, rfl, _, rfl, q, _, rfl, gN hqa, p, cc, ns, _, a, 3, rfl, by omega, by omega, P2, hn, by omega, L2.na, fun vc dc Ha wa Pa xa => ?_⟩
            have La := L2.sameX P2 xa
            refine ⟨_, rfl, _, rfl, _, rfl, _, rfl, _, _, rfl, rfl, p, cc, ns, _, q, a, b, c, j, by simp, by omega, by omega, Pa, hn, by omega, La, fun v1 d1 Hb wb _ Pb Lb yb => ?_⟩
            refine ⟨_, rfl, _, rfl, _, rfl, _, _, rfl, rfl, p, cc, ns, _, q, a, b, c, j, by simp, by omega, by omega, Pb, hn, by omega, Lb, fun v2 d2 Hc wc _ Pc Lc yc => ?_⟩
            refine ⟨sz (by simp), fun t Gt ft st et => ?_⟩
            obtain ⟨s1, e1, hq1⟩ := La.ex
            obtain ⟨s2, e2, hq2⟩ := Lb.ex
            have wa' := ((wa.put noT_dK hq1 yb).put noT_dK hq2 yc).same (Same.X st)
            have wb' := (wb.put noT_dK hq2 yc).same (Same.X st)
            have D : Dw K p Gt (10 + 2 * j + 1) (.ref t) (.tuple [.str "if", dc, .tuple d1, .tuple d2]) := .tup (.cons (.str _ (by decide)) (.cons (wa'.mono (by omega)) (.cons wb' (.cons (wc.same (Same.X st)) .nil)))) (by simp) (PenAt.off Pc ft) et
            exact k _ _ Gt (D.mono (by omega)) ((Pc.same st).mono (by rw [hp8]; omega)) (Lc.sameX Pc (Same.X st)) ((((y2.trans (yx xa)).trans yb).trans yc).trans (yx (Same.X st)))
          · refine ⟨_, rfl, rfl, _, rfl, ite2 (fun h7 => ?_) (fun h7 => ?_)⟩
            · refine ⟨_, rfl, p, cc, ns, _, 3, rfl, P2, hn, by omega, by decide, by decide, fun r2 H9 _ _ P9 x9 => ⟨rfl, _, rfl, ite2 (fun h8 => ?_) (fun h8 => ?_)⟩⟩
              · refine ⟨sz (by simp), fun t Gt ft st et => ?_⟩
                have D : Dw K p Gt (0 + 1) (.ref t) (.tuple [.str "fail"]) := .tup (.cons (.str _ (by decide)) .nil) (by simp) (PenAt.off P9 ft) et
                exact k _ _ Gt (D.mono (by omega)) ((P9.same st).mono (by omega)) ((L2.sameX P2 x9).sameX P9 (Same.X st)) ((y2.trans (yx x9)).trans (yx (Same.X st)))
              · have L9 := L2.sameX P2 x9
                have y9 := y2.trans (yx x9)
                obtain ⟨sa, ea, hqa⟩ := L9.ex
                obtain ⟨zs, ez, z0, z10, zl⟩ := L9.na
                refine ⟨_, rfl, _, rfl, q, _, rfl, gN hqa, p, cc, ns, _, a, _, rfl, P9, hn, by omega, ez, by simpa using z0, by simp; omega, fun u Ha hu' Pa xa => ?_⟩
                obtain ⟨z, hz, rfl⟩ := List.mem_map.mp hu'
                have La := L9.sameX P9 xa
                obtain ⟨sb, eb, hqb⟩ := La.ex
                refine ⟨_, rfl, _, rfl, q, _, rfl, gN hqb, p, cc, ns, _, a, 4, rfl, by omega, by omega, Pa, hn, by omega, La.na, fun v d Hb wb Pb xb => ?_⟩
                refine ⟨sz (by simp), fun t Gt ft st et => ?_⟩
                have D : Dw K p Gt (5 + 1) (.ref t) (.tuple [.str "set", .str z, d]) := .tup (.cons (.str _ (by decide)) (.cons (.str z (zl z hz)) (.cons (wb.same (Same.X st)) .nil))) (by simp) (PenAt.off Pb ft) et
                exact k _ _ Gt (D.mono (by omega)) ((Pb.same st).mono (by omega)) ((La.sameX Pa xb).sameX Pb (Same.X st)) (((y9.trans (yx xa)).trans (yx xb)).trans (yx (Same.X st)))
            · obtain ⟨sa, ea, hqa⟩ := L2.ex
              obtain ⟨zs, ez, z0, z10, zl⟩ := L2.na
              refine ⟨_, rfl, _, rfl, q, _, rfl, gN hqa, p, cc, ns, _, a, _, rfl, P2, hn, by omega, ez, by simpa using z0, by simp; omega, fun u Ha hu' Pa xa => ?_⟩
              obtain ⟨z, hz, rfl⟩ := List.mem_map.mp hu'
              have La := L2.sameX P2 xa
              obtain ⟨sb, eb, hqb⟩ := La.ex
              refine ⟨_, rfl, _, rfl, q, _, rfl, gN hqb, p, cc, ns, _, a, 4, rfl, by omega, by omega, Pa, hn, by omega, La.na, fun v d Hb wb Pb xb => ?_⟩
              refine ⟨sz (by simp), fun t Gt ft st et => ?_⟩
              have D : Dw K p Gt (5 + 1) (.ref t) (.tuple [.str "set", .str z, d]) := .tup (.cons (.str _ (by decide)) (.cons (.str z (zl z hz)) (.cons (wb.same (Same.X st)) .nil))) (by simp) (PenAt.off Pb ft) et
              exact k _ _ Gt (D.mono (by omega)) ((Pb.same st).mono (by omega)) ((La.sameX Pa xb).sameX Pb (Same.X st)) (((y2.trans (yx xa)).trans (yx xb)).trans (yx (Same.X st)))
        · refine ⟨_, rfl, rfl, _, rfl, ite2 (fun h7 => ?_) (fun h7 => ?_)⟩
          · refine ⟨_, rfl, p, cc, ns, _, 3, rfl, P2, hn, by omega, by decide, by decide, fun r2 H9 _ _ P9 x9 => ⟨rfl, _, rfl, ite2 (fun h8 => ?_) (fun h8 => ?_)⟩⟩
            · refine ⟨sz (by simp), fun t Gt ft st et => ?_⟩
              have D : Dw K p Gt (0 + 1) (.ref t) (.tuple [.str "fail"]) := .tup (.cons (.str _ (by decide)) .nil) (by simp) (PenAt.off P9 ft) et
              exact k _ _ Gt (D.mono (by omega)) ((P9.same st).mono (by omega)) ((L2.sameX P2 x9).sameX P9 (Same.X st)) ((y2.trans (yx x9)).trans (yx (Same.X st)))
            · have L9 := L2.sameX P2 x9
              have y9 := y2.trans (yx x9)
              obtain ⟨sa, ea, hqa⟩ := L9.ex
              obtain ⟨zs, ez, z0, z10, zl⟩ := L9.na
              refine ⟨_, rfl, _, rfl, q, _, rfl, gN hqa, p, cc, ns, _, a, _, rfl, P9, hn, by omega, ez, by simpa using z0, by simp; omega, fun u Ha hu' Pa xa => ?_⟩
              obtain ⟨z, hz, rfl⟩ := List.mem_map.mp hu'
              have La := L9.sameX P9 xa
              obtain ⟨sb, eb, hqb⟩ := La.ex
              refine ⟨_, rfl, _, rfl, q, _, rfl, gN hqb, p, cc, ns, _, a, 4, rfl, by omega, by omega, Pa, hn, by omega, La.na, fun v d Hb wb Pb xb => ?_⟩
              refine ⟨sz (by simp), fun t Gt ft st et => ?_⟩
              have D : Dw K p Gt (5 + 1) (.ref t) (.tuple [.str "set", .str z, d]) := .tup (.cons (.str _ (by decide)) (.cons (.str z (zl z hz)) (.cons (wb.same (Same.X st)) .nil))) (by simp) (PenAt.off Pb ft) et
              exact k _ _ Gt (D.mono (by omega)) ((Pb.same st).mono (by omega)) ((La.sameX Pa xb).sameX Pb (Same.X st)) (((y9.trans (yx xa)).trans (yx xb)).trans (yx (Same.X st)))
          · obtain ⟨sa, ea, hqa⟩ := L2.ex
            obtain ⟨zs, ez, z0, z10, zl⟩ := L2.na
            refine ⟨_, rfl, _, rfl, q, _, rfl, gN hqa, p, cc, ns, _, a, _, rfl, P2, hn, by omega, ez, by simpa using z0, by simp; omega, fun u Ha hu' Pa xa => ?_⟩
            obtain ⟨z, hz, rfl⟩ := List.mem_map.mp hu'
            have La := L2.sameX P2 xa
            obtain ⟨sb, eb, hqb⟩ := La.ex
            refine ⟨_, rfl, _, rfl, q, _, rfl, gN hqb, p, cc, ns, _, a, 4, rfl, by omega, by omega, Pa, hn, by omega, La.na, fun v d Hb wb Pb xb => ?_⟩
            refine ⟨sz (by simp), fun t Gt ft st et => ?_⟩
            have D : Dw K p Gt (5 + 1) (.ref t) (.tuple [.str "set", .str z, d]) := .tup (.cons (.str _ (by decide)) (.cons (.str z (zl z hz)) (.cons (wb.same (Same.X st)) .nil))) (by simp) (PenAt.off Pb ft) et
            exact k _ _ Gt (D.mono (by omega)) ((Pb.same st).mono (by omega)) ((La.sameX Pa xb).sameX Pb (Same.X st)) (((y2.trans (yx xa)).trans (yx xb)).trans (yx (Same.X st)))
    · refine ⟨_, rfl, rfl, _, rfl, ite2 (fun h5 => ?_) (fun h5 => ?_)⟩
      · refine ⟨_, rfl, _, _, rfl, rfl, _, rfl, ite2 (fun h6 => ?_) (fun h6 => ?_)⟩
        · obtain ⟨j, rfl⟩ : ∃ t, j = t + 1 := ⟨j - 1, by have := of_decide_eq_true h6; omega⟩
          have hp8 : 8 ^ (j + 1) = 8 * 8 ^ j := by rw [Nat.pow_succ, Nat.mul_comm]
          have one8 : 1 ≤ 8 ^ j := Nat.one_le_pow _ _ (by decide)
          obtain ⟨sa, ea, hqa⟩ := L1.ex
          refine ⟨_, rfl, _, rfl, q, _, rfl, gN hqa, p, cc, ns, _, a, 3, rfl, by omega, by omega, P1, hn, by omega, L1.na, fun vc dc Ha wa Pa xa => ?_⟩
          have La := L1.sameX P1 xa
          refine ⟨_, rfl, _, rfl, _, rfl, _, rfl, _, _, rfl, rfl, p, cc, ns, _, q, a, b, c, j, by simp, by omega, by omega, Pa, hn, by omega, La, fun v1 d1 Hb wb _ Pb Lb yb => ?_⟩
          refine ⟨_, rfl, _, rfl, _, rfl, _, _, rfl, rfl, p, cc, ns, _, q, a, b, c, j, by simp, by omega, by omega, Pb, hn, by omega, Lb, fun v2 d2 Hc wc _ Pc Lc yc => ?_⟩
          refine ⟨sz (by simp), fun t Gt ft st et => ?_⟩
          obtain ⟨s1, e1, hq1⟩ := La.ex
          obtain ⟨s2, e2, hq2⟩ := Lb.ex
          have wa' := ((wa.put noT_dK hq1 yb).put noT_dK hq2 yc).same (Same.X st)
          have wb' := (wb.put noT_dK hq2 yc).same (Same.X st)
          have D : Dw K p Gt (10 + 2 * j + 1) (.ref t) (.tuple [.str "if", dc, .tuple d1, .tuple d2]) := .tup (.cons (.str _ (by decide)) (.cons (wa'.mono (by omega)) (.cons wb' (.cons (wc.same (Same.X st)) .nil)))) (by simp) (PenAt.off Pc ft) et
          exact k _ _ Gt (D.mono (by omega)) ((Pc.same st).mono (by rw [hp8]; omega)) (Lc.sameX Pc (Same.X st)) ((((y1.trans (yx xa)).trans yb).trans yc).trans (yx (Same.X st)))
        · refine ⟨_, rfl, rfl, _, rfl, ite2 (fun h7 => ?_) (fun h7 => ?_)⟩
          · refine ⟨_, rfl, p, cc, ns, _, 3, rfl, P1, hn, by omega, by decide, by decide, fun r2 H9 _ _ P9 x9 => ⟨rfl, _, rfl, ite2 (fun h8 => ?_) (fun h8 => ?_)⟩⟩
            · refine ⟨sz (by simp), fun t Gt ft st et => ?_⟩
              have D : Dw K p Gt (0 + 1) (.ref t) (.tuple [.str "fail"]) := .tup (.cons (.str _ (by decide)) .nil) (by simp) (PenAt.off P9 ft) et
              exact k _ _ Gt (D.mono (by omega)) ((P9.same st).mono (by omega)) ((L1.sameX P1 x9).sameX P9 (Same.X st)) ((y1.trans (yx x9)).trans (yx (Same.X st)))
            · have L9 := L1.sameX P1 x9
              have y9 := y1.trans (yx x9)
              obtain ⟨sa, ea, hqa⟩ := L9.ex
              obtain ⟨zs, ez, z0, z10, zl⟩ := L9.na
              refine ⟨_, rfl, _, rfl, q, _, rfl, gN hqa, p, cc, ns, _, a, _, rfl, P9, hn, by omega, ez, by simpa using z0, by simp; omega, fun u Ha hu' Pa xa => ?_⟩
              obtain ⟨z, hz, rfl⟩ := List.mem_map.mp hu'
              have La := L9.sameX P9 xa
              obtain ⟨sb, eb, hqb⟩ := La.ex
              refine ⟨_, rfl, _, rfl, q, _, rfl, gN hqb, p, cc, ns, _, a, 4, rfl, by omega, by omega, Pa, hn, by omega, La.na, fun v d Hb wb Pb xb => ?_⟩
              refine ⟨sz (by simp), fun t Gt ft st et => ?_⟩
              have D : Dw K p Gt (5 + 1) (.ref t) (.tuple [.str "set", .str z, d]) := .tup (.cons (.str _ (by decide)) (.cons (.str z (zl z hz)) (.cons (wb.same (Same.X st)) .nil))) (by simp) (PenAt.off Pb ft) et
              exact k _ _ Gt (D.mono (by omega)) ((Pb.same st).mono (by omega)) ((La.sameX Pa xb).sameX Pb (Same.X st)) (((y9.trans (yx xa)).trans (yx xb)).trans (yx (Same.X st)))
          · obtain ⟨sa, ea, hqa⟩ := L1.ex
            obtain ⟨zs, ez, z0, z10, zl⟩ := L1.na
            refine ⟨_, rfl, _, rfl, q, _, rfl, gN hqa, p, cc, ns, _, a, _, rfl, P1, hn, by omega, ez, by simpa using z0, by simp; omega, fun u Ha hu' Pa xa => ?_⟩
            obtain ⟨z, hz, rfl⟩ := List.mem_map.mp hu'
            have La := L1.sameX P1 xa
            obtain ⟨sb, eb, hqb⟩ := La.ex
            refine ⟨_, rfl, _, rfl, q, _, rfl, gN hqb, p, cc, ns, _, a, 4, rfl, by omega, by omega, Pa, hn, by omega, La.na, fun v d Hb wb Pb xb => ?_⟩
            refine ⟨sz (by simp), fun t Gt ft st et => ?_⟩
            have D : Dw K p Gt (5 + 1) (.ref t) (.tuple [.str "set", .str z, d]) := .tup (.cons (.str _ (by decide)) (.cons (.str z (zl z hz)) (.cons (wb.same (Same.X st)) .nil))) (by simp) (PenAt.off Pb ft) et
            exact k _ _ Gt (D.mono (by omega)) ((Pb.same st).mono (by omega)) ((La.sameX Pa xb).sameX Pb (Same.X st)) (((y1.trans (yx xa)).trans (yx xb)).trans (yx (Same.X st)))
      · refine ⟨_, rfl, rfl, _, rfl, ite2 (fun h7 => ?_) (fun h7 => ?_)⟩
        · refine ⟨_, rfl, p, cc, ns, _, 3, rfl, P1, hn, by omega, by decide, by decide, fun r2 H9 _ _ P9 x9 => ⟨rfl, _, rfl, ite2 (fun h8 => ?_) (fun h8 => ?_)⟩⟩
          · refine ⟨sz (by simp), fun t Gt ft st et => ?_⟩
            have D : Dw K p Gt (0 + 1) (.ref t) (.tuple [.str "fail"]) := .tup (.cons (.str _ (by decide)) .nil) (by simp) (PenAt.off P9 ft) et
            exact k _ _ Gt (D.mono (by omega)) ((P9.same st).mono (by omega)) ((L1.sameX P1 x9).sameX P9 (Same.X st)) ((y1.trans (yx x9)).trans (yx (Same.X st)))
          · have L9 := L1.sameX P1 x9
            have y9 := y1.trans (yx x9)
            obtain ⟨sa, ea, hqa⟩ := L9.ex
            obtain ⟨zs, ez, z0, z10, zl⟩ := L9.na
            refine ⟨_, rfl, _, rfl, q, _, rfl, gN hqa, p, cc, ns, _, a, _, rfl, P9, hn, by omega, ez, by simpa using z0, by simp; omega, fun u Ha hu' Pa xa => ?_⟩
            obtain ⟨z, hz, rfl⟩ := List.mem_map.mp hu'
            have La := L9.sameX P9 xa
            obtain ⟨sb, eb, hqb⟩ := La.ex
            refine ⟨_, rfl, _, rfl, q, _, rfl, gN hqb, p, cc, ns, _, a, 4, rfl, by omega, by omega, Pa, hn, by omega, La.na, fun v d Hb wb Pb xb => ?_⟩
            refine ⟨sz (by simp), fun t Gt ft st et => ?_⟩
            have D : Dw K p Gt (5 + 1) (.ref t) (.tuple [.str "set", .str z, d]) := .tup (.cons (.str _ (by decide)) (.cons (.str z (zl z hz)) (.cons (wb.same (Same.X st)) .nil))) (by simp) (PenAt.off Pb ft) et
            exact k _ _ Gt (D.mono (by omega)) ((Pb.same st).mono (by omega)) ((La.sameX Pa xb).sameX Pb (Same.X st)) (((y9.trans (yx xa)).trans (yx xb)).trans (yx (Same.X st)))
        · obtain ⟨sa, ea, hqa⟩ := L1.ex
          obtain ⟨zs, ez, z0, z10, zl⟩ := L1.na
          refine ⟨_, rfl, _, rfl, q, _, rfl, gN hqa, p, cc, ns, _, a, _, rfl, P1, hn, by omega, ez, by simpa using z0, by simp; omega, fun u Ha hu' Pa xa => ?_⟩
          obtain ⟨z, hz, rfl⟩ := List.mem_map.mp hu'
          have La := L1.sameX P1 xa
          obtain ⟨sb, eb, hqb⟩ := La.ex
          refine ⟨_, rfl, _, rfl, q, _, rfl, gN hqb, p, cc, ns, _, a, 4, rfl, by omega, by omega, Pa, hn, by omega, La.na, fun v d Hb wb Pb xb => ?_⟩
          refine ⟨sz (by simp), fun t Gt ft st et => ?_⟩
          have D : Dw K p Gt (5 + 1) (.ref t) (.tuple [.str "set", .str z, d]) := .tup (.cons (.str _ (by decide)) (.cons (.str z (zl z hz)) (.cons (wb.same (Same.X st)) .nil))) (by simp) (PenAt.off Pb ft) et
          exact k _ _ Gt (D.mono (by omega)) ((Pb.same st).mono (by omega)) ((La.sameX Pa xb).sameX Pb (Same.X st)) (((y1.trans (yx xa)).trans (yx xb)).trans (yx (Same.X st)))
end
end Hd

set_option Elab.async false
set_option linter.all false
set_option maxRecDepth 100000
set_option maxHeartbeats 8000000
namespace Hd
open PySem L2 Pen RG Dat KEq
abbrev sHn : Stmt := top 32
theorem merge_pl (a b c : Addr) (s e : Int) : mergeK [] [(kN, .ref a), (kK, .ref b), (kD, .ref c), (kS, .int s), (kE, .int e)] = pl a b c s e := by
  have e1 : putK [] kN (V.ref a) = [(kN, V.ref a)] := putK_new _ rfl
  have e2 : putK [(kN, V.ref a)] kK (V.ref b) = [(kN, V.ref a), (kK, V.ref b)] := putK_new _ (valV_neg (show ¬ kN = kK by decide +kernel))
  have e3 : putK [(kN, V.ref a), (kK, V.ref b)] kD (V.ref c) = [(kN, V.ref a), (kK, V.ref b), (kD, V.ref c)] := putK_new _ ((valV_neg (show ¬ kN = kD by decide +kernel)).trans (valV_neg (show ¬ kK = kD by decide +kernel)))
  have e4 : putK [(kN, V.ref a), (kK, V.ref b), (kD, V.ref c)] kS (V.int s) = [(kN, V.ref a), (kK, V.ref b), (kD, V.ref c), (kS, V.int s)] := putK_new _ (((valV_neg (show ¬ kN = kS by decide +kernel)).trans (valV_neg (show ¬ kK = kS by decide +kernel))).trans (valV_neg (show ¬ kD = kS by decide +kernel)))
  have e5 : putK [(kN, V.ref a), (kK, V.ref b), (kD, V.ref c), (kS, V.int s)] kE (V.int e) = pl a b c s e := putK_new _ ((((valV_neg (show ¬ kN = kE by decide +kernel)).trans (valV_neg (show ¬ kK = kE by decide +kernel))).trans (valV_neg (show ¬ kD = kE by decide +kernel))).trans (valV_neg (show ¬ kS = kE by decide +kernel)))
  show putK (putK (putK (putK (putK [] kN (V.ref a)) kK (V.ref b)) kD (V.ref c)) kS (V.int s)) kE (V.int e) = _
  rw [e1, e2, e3, e4, e5]
def spHn (K : PySem.W.Frag) : Sp := fun vs H Q _ => ∃ (p cc : Addr) (ns : List Int) (k : Nat) (a b c : Addr) (s : Int), vs = [.ref p, .ref a, .ref b, .ref c, .int s] ∧ PenAt H p cc ns k ∧ ns.length ≤ 63 ∧ k + 2 ^ 26 ≤ 2 ^ 36 ∧ Names H a ∧ Names H b ∧ Names H c ∧
  ∀ (v : V) (ds : List PyData) (H' : Hp), Dw K p H' 16 v (.tuple ds) → ds.length ≤ 5 → PenAt H' p cc ns (k + 2 ^ 26) → SameX p H H' → Q v H'
section
variable {P : Program} {w : World} {K : PySem.W.Frag} {mg : Str → Option Value} {base : Heap}
theorem ok_dss {f fD fP fE fC fd' : Addr} {fd fdD fdP fdE fdC fdd : FuncData} (F : Fun K "_law_deeds" "_law_deeds" sDs f fd) (FD : Fun K "_law_deed" "_law_deed" sDd fd' fdd) (T : TxtH mg) (TR : mg "range" = none)
    (GDraw : FnOk P w K mg base CX0 1 fD fdD ["_law_pen_here", "_law_many"] spDraw) (TDraw : DefT K mg "_law_draw" fD) (bDraw : Binds K fdD ["_law_pen_here", "_law_many"] [])
    (GPick : FnOk P w K mg base CX0 2 fP fdP ["_law_pen_here", "_law_items"] (spPick K)) (TPick : DefT K mg "_law_pick" fP) (bPick : Binds K fdP ["_law_pen_here", "_law_items"] [])
    (GE : FnOk P w K mg base CX0 10 fE fdE ["_law_pen_here", "_law_names", "_law_deep"] (spE K 5)) (TE : DefT K mg "_law_e" fE) (bE : Binds K fdE ["_law_pen_here", "_law_names", "_law_deep"] [])
    (GC : FnOk P w K mg base CX0 16 fC fdC ["_law_pen_here", "_law_names", "_law_deep"] (spC K 5)) (TC : DefT K mg "_law_c" fC) (bC : Binds K fdC ["_law_pen_here", "_law_names", "_law_deep"] [])
    (TDs : DefT K mg "_law_deeds" f) (bDs : Binds K fd ["_law_pen_here", "_law_place", "_law_ifs"] []) (TDd : DefT K mg "_law_deed" fd') (bDd : Binds K fdd ["_law_pen_here", "_law_place", "_law_ifs"] []) : ∀ m, FnOk P w K mg base CX0 (2 * m + 16) f fd ["_law_pen_here", "_law_place", "_law_ifs"] (spDs K m)
  | 0 => by
    refine F.ok scDs (fun vs H Q E h => ?_) (fun cdv A outer s H vs Q E hr h => ?_)
    · obtain ⟨p, cc, ns, k, q, a, b, c, i, rfl, _⟩ := h
      rfl
    · obtain ⟨p, cc, ns, k, q, a, b, c, i, rfl, lt, _⟩ := h
      exact absurd lt (Nat.not_lt_zero _)
  | m + 1 => ok_ds (m + 1) (2 * m + 17) (by omega) F T TR GDraw TDraw bDraw (ok_dd m (2 * m + 16) (by omega) FD GDraw TDraw bDraw GPick TPick bPick GE TE bE GC TC bC (ok_dss F FD T TR GDraw TDraw bDraw GPick TPick bPick GE TE bE GC TC bC TDs bDs TDd bDd m) TDs bDs) TDd bDd
theorem scHn : FnScope ["_law_pen_here", "_law_names", "_law_keys", "_law_kinds", "_law_sends", "_law_place", "_law_found"] ["_law_pen_here", "_law_names", "_law_keys", "_law_kinds", "_law_sends"] (defScope sHn) := ⟨rfl, rfl, rfl, by decide +kernel, rfl, by decide +kernel, by decide +kernel⟩
theorem ok_hn {f fD fP fE fS : Addr} {fd fdD fdP fdE fdS : FuncData} (F : Fun K "_law_handler" "_law_handler" sHn f fd)
    (GDraw : FnOk P w K mg base CX0 1 fD fdD ["_law_pen_here", "_law_many"] spDraw) (TDraw : DefT K mg "_law_draw" fD) (bDraw : Binds K fdD ["_law_pen_here", "_law_many"] [])
    (GPick : FnOk P w K mg base CX0 2 fP fdP ["_law_pen_here", "_law_items"] (spPick K)) (TPick : DefT K mg "_law_pick" fP) (bPick : Binds K fdP ["_law_pen_here", "_law_items"] [])
    (GE : FnOk P w K mg base CX0 10 fE fdE ["_law_pen_here", "_law_names", "_law_deep"] (spE K 5)) (TE : DefT K mg "_law_e" fE) (bE : Binds K fdE ["_law_pen_here", "_law_names", "_law_deep"] [])
    (GDs : FnOk P w K mg base CX0 24 fS fdS ["_law_pen_here", "_law_place", "_law_ifs"] (spDs K 4)) (TDs : DefT K mg "_law_deeds" fS) (bDs : Binds K fdS ["_law_pen_here", "_law_place", "_law_ifs"] []) : FnOk P w K mg base CX0 25 f fd ["_law_pen_here", "_law_names", "_law_keys", "_law_kinds", "_law_sends"] (spHn K) := by
  refine F.ok scHn (fun vs H Q E h => ?_) (fun cdv A outer s H vs Q E hr h => ?_)
  · obtain ⟨p, cc, ns, k, a, b, c, s0, rfl, _⟩ := h
    rfl
  · obtain ⟨p, cc, ns, b0, a, b, c, s0, rfl, P0, hn, hb, Na, Nb, Nc, k⟩ := h
    have hu := hu_of hr
    refine ⟨_, (pss_cons (ps_set (i := 5) scHn.nd rfl (Or.inl rfl) (pe_disp (pps_cons pe_str (pv 1) (pps_cons pe_str (pv 2) (pps_cons pe_str (pv 3) (pps_cons pe_str (pv 4) (pps_cons pe_str pe_int pps_nil))))) (by decide +kernel) rfl (by simp) (by decide)))
      (pss_cons (ps_set (i := 6) scHn.nd rfl (Or.inl rfl) (pe_call GDs (hr.mono (by decide)) rfl TDs.mg TDs.kp bDs .nil pass0 (pa_cons (pv 0) (pa_cons (pv 5) (pa_cons pe_int pa_nil)))))
      (pss_cons (ps_if (PW.pt (pw_and (pt_cmpR (op_neNil hu) (pv 3) (Ab.pe_lstA pa_nil) (nomark _)) (pw_and (pt_cmpR op_gt (pe_dget hu (pv 5) pe_str (fun _ _ => rfl)) pe_int (nomark _)) (pw_and1 (pt_cmpR op_gt (pe_call GDraw (hr.mono (by decide)) rfl TDraw.mg TDraw.kp bDraw .nil pass0 (pa_cons (pv 0) (pa_cons pe_int pa_nil))) pe_int (nomark _)))))) (pss_one (ps_set (i := 6) scHn.nd rfl (Or.inl rfl) (pe_op L2.op_catA (pv 6) (Ab.pe_tupA (pa_cons (Ab.pe_tupA (pa_cons pe_str (pa_cons (pe_call GPick (hr.mono (by decide)) rfl TPick.mg TPick.kp bPick .nil pass0 (pa_cons (pv 0) (pa_cons (pv 3) pa_nil))) (pa_cons pe_non (pa_cons (pe_call GE (hr.mono (by decide)) rfl TE.mg TE.kp bE .nil pass0 (pa_cons (pv 0) (pa_cons (pv 1) (pa_cons pe_int pa_nil)))) pa_nil))))) pa_nil))))) pss_nil)
      (pss_one (ps_ret (pv 6)))))), ?_⟩
    intro q hq0
    refine ⟨_, rfl, _, rfl, _, rfl, _, rfl, upd_same, [(kN, .ref a), (kK, .ref b), (kD, .ref c), (kS, .int s0), (kE, .int 11)], rfl, (by simp), ?_⟩
    rw [merge_pl]
    have oq := PenAt.off P0 hq0
    have sq : Same H (upd (upd H q (.dK [])) q (.dK (pl a b c s0 11))) := fun x o hx => by
      have n := ne_of_none hx hq0
      rw [upd_ne n, upd_ne n]
      exact hx
    have hq1 : (upd (upd H q (.dK [])) q (.dK (pl a b c s0 11))) q = some (.dK (pl a b c s0 11)) := upd_same
    generalize upd (upd H q (.dK [])) q (.dK (pl a b c s0 11)) = G at sq hq1 ⊢
    have P1 := P0.same sq
    have L1 : Pl G p q a b c := ⟨⟨_, _, hq1⟩, Na.same P0 (Same.X sq), Nb.same P0 (Same.X sq), Nc.same P0 (Same.X sq), oq.symm⟩
    refine ⟨_, rfl, _, rfl, p, cc, ns, b0, q, a, b, c, 3, rfl, by omega, by omega, P1, hn, by omega, L1, fun v ds H2 w2 l4 P2 L2 y2 => ?_⟩
    have x2 : SameX p H H2 := fun x o n hx => y2 x o n (ne_of_none hx hq0) (sq _ _ hx)
    obtain ⟨s2, e2, hq2⟩ := L2.ex
    obtain ⟨ks, ek, k0, _, _⟩ := L2.nc
    have stop : ∀ G2, PenAt G2 p cc ns (b0 + 70000 * 8 ^ 3 + 1) → SameX p H2 G2 → Q v G2 := fun G2 P3 x3 => k v ds G2 ((w2.same x3).mono (by omega)) (by omega) (P3.mono (by omega)) (x2.trans x3)
    refine ⟨_, rfl, by show 0 ≤ sizeLine; decide, fun l3 G3 f3 n3 s3 e3 => ?_⟩
    refine ⟨c, l3, _, rfl, rfl, SqL.of (s3 _ _ ek), by simpa using k0, SqL.of e3, _, rfl, iteT ?_⟩
    refine ⟨_, rfl, q, _, rfl, gS (s3 _ _ hq2), _, _, rfl, rfl, _, rfl, ite2 (fun h4 => ?_) (fun h4 => ?_)⟩
    · refine ⟨_, rfl, p, cc, ns, _, 3, rfl, P2.same s3, hn, by omega, by decide, by decide, fun r H4 _ _ P4 x4 => ⟨_, _, rfl, rfl, _, rfl, ite2 (fun h5 => ?_) (fun h5 => ?_)⟩⟩
      · have x24 : SameX p H2 H4 := (Same.X s3).trans x4
        have L4 := L2.sameX P2 x24
        obtain ⟨zs, ez, z0, z10, zl⟩ := L4.nc
        refine ⟨_, rfl, _, rfl, _, rfl, p, cc, ns, _, c, _, rfl, P4, hn, by omega, ez, by simpa using z0, by simp; omega, fun u H5 hu' P5 x5 => ?_⟩
        obtain ⟨z, hz, rfl⟩ := List.mem_map.mp hu'
        refine ⟨_, rfl, _, rfl, p, cc, ns, _, a, 2, rfl, by omega, by omega, P5, hn, by omega, (L4.sameX P4 x5).na, fun v6 d6 H6 w6 P6 x6 => ?_⟩
        refine ⟨sz (by simp), fun t7 H7 f7 s7 e7 => ⟨sz (by simp), fun t8 H8 f8 s8 e8 => ?_⟩⟩
        have o7 := PenAt.off P6 f7
        have o8 := PenAt.off (P6.same s7) f8
        have D7 : Dw K p H8 (3 + 1) (.ref t7) (.tuple [.str "send", .str z, .none, d6]) := .tup (.cons (.str _ (by decide)) (.cons (.str z (zl z hz)) (.cons .non (.cons (w6.same (Same.X (s7.trans s8))) .nil)))) (by simp) o7 (s8 _ _ e7)
        have D8 : Dw K p H8 (3 + 1 + 1) (.ref t8) (.tuple [.tuple [.str "send", .str z, .none, d6]]) := .tup (.cons D7 .nil) (by simp) o8 e8
        have x28 : SameX p H2 H8 := (((x24.trans x5).trans x6).trans (Same.X s7)).trans (Same.X s8)
        have w8 := w2.same x28
        have P8 := (P6.same s7).same s8
        obtain ⟨rp8, sm8, dp8, tu8, tl8⟩ := w8
        cases rp8 with
        | @tup a9 xs9 _ q9 rr9 =>
          have q9' : SqT K H8 a9 xs9 := sqT_same delp_le q9
          refine ⟨a9, t8, xs9, _, rfl, rfl, q9', SqT.of e8, sz (by rw [RpAll.len rr9]; simp; omega), fun e => ?_, fun _ e => ?_, fun _ _ t9 f9 => ?_⟩
          · exact ⟨_, rfl, k _ _ _ (D8.mono (by omega)) (by simp) (P8.mono (by omega)) (x2.trans x28)⟩
          · cases e
          · have o9 := PenAt.off P8 f9
            have s9 := Ab.same_up (o := .tup (xs9 ++ [V.ref t7])) f9
            have ap : ∀ {vs : List V} {es : List PyData}, RpAll K (delp p H8) vs es → smAll es = true → PyData.depthAll es ≤ 15 → tuAll es = true → tlAll es ≤ 20 → DwAll K p H8 15 vs es := by
              intro vs es r
              induction r using RpAll.rec (motive_1 := fun _ _ _ => True) with
              | nil => intro _ _ _ _; exact .nil
              | cons h t _ ih =>
                intro s1 s2 s3 s4
                have a1 := sm_cons s1
                have a2 := Nat.max_le.mp s2
                have a3 : (tu _ && tuAll _) = true := s3
                rw [Bool.and_eq_true] at a3
                have a4 := Nat.max_le.mp s4
                exact .cons ⟨h, a1.1, a2.1, a3.1, a4.1⟩ (ih a1.2 a2.2 a3.2 a4.2)
              | _ => trivial
            have DA := ap rr9 (sm_tup sm8) (by have : PyData.depthAll ds + 1 ≤ 16 := dp8; omega) tu8 (Nat.max_le.mp tl8).2
            have D8' : Dw K p H8 15 (.ref t7) (.tuple [.str "send", .str z, .none, d6]) := D7.mono (by omega)
            have D9 : Dw K p (upd H8 t9 (.tup (xs9 ++ [V.ref t7]))) (15 + 1) (.ref t9) (.tuple (ds ++ [.tuple [.str "send", .str z, .none, d6]])) := .tup (DwAll.same (Same.X s9) (DA.app (.cons D8' .nil))) (by simp; omega) o9 upd_same
            exact ⟨_, rfl, k _ _ _ (D9.mono (by omega)) (by simp; omega) ((P8.same s9).mono (by omega)) ((x2.trans x28).trans (Same.X s9))⟩
      · exact ⟨_, rfl, stop H4 P4 ((Same.X s3).trans x4)⟩
    · exact ⟨_, rfl, stop G3 ((P2.same s3).mono (by omega)) (Same.X s3)⟩
end
end Hd

set_option Elab.async false
set_option linter.all false
set_option maxRecDepth 100000
set_option maxHeartbeats 8000000
namespace Hd
open PySem L2 Pen RG Dat KEq
abbrev sAl : Stmt := top 46
theorem Dw.bl {K : PySem.W.Frag} {p : Addr} {H : Hp} {n : Nat} (b : Bool) : Dw K p H n (.bl b) (.bool b) := ⟨.bl b, rfl, Nat.zero_le _, rfl, Nat.zero_le _⟩
theorem PenAt.upl {H : Hp} {p c l : Addr} {ns : List Int} {b : Nat} {o : HO} (P : PenAt H p c ns b) (lp : l ≠ p) (nc : c ≠ l) : PenAt (upd H l o) p c ns b := by
  obtain ⟨⟨a, r, hp, q⟩, ce⟩ := P
  exact ⟨⟨a, r, (upd_ne lp.symm).trans hp, q⟩, (upd_ne nc).trans ce⟩
theorem free_of {H G : Hp} {p l : Addr} (x : SameX p H G) (lp : l ≠ p) (f : G l = none) : H l = none := by
  cases hh : H l with
  | none => rfl
  | some o =>
    have := x _ _ lp hh
    rw [f] at this
    cases this
theorem DwAll.rep {K : PySem.W.Frag} {p : Addr} {H : Hp} {n : Nat} {v : V} {d : PyData} (w : Dw K p H n v d) : ∀ k, DwAll K p H n (List.replicate k [v]).flatten (List.replicate k [d]).flatten
  | 0 => .nil
  | k + 1 => .cons w (DwAll.rep w k)
def spAl (K : PySem.W.Frag) : Sp := fun vs H Q _ => ∃ (p cc : Addr) (ns : List Int) (k : Nat), vs = [.ref p] ∧ PenAt H p cc ns k ∧ ns.length ≤ 63 ∧ k ≤ 2 ^ 36 ∧
  ∀ (v : V) (d : PyData) (H' : Hp), Dw K p H' 24 v d → PenAt H' p cc ns (k + 20) → SameX p H H' → Q v H'
section
variable {P : Program} {w : World} {K : PySem.W.Frag} {mg : Str → Option Value} {base : Heap}
theorem scAl : FnScope ["_law_pen_here", "_law_deep", "_law_word", "_law_e_here", "_law_c_here", "_law_name", "_law_some", "_law_half"] ["_law_pen_here"] (defScope sAl) := ⟨rfl, rfl, rfl, by decide +kernel, rfl, by decide +kernel, by decide +kernel⟩
theorem ok_al {f fD fP fe fc fi : Addr} {fd fdD fdP fde fdc fdi : FuncData} (F : Fun K "_law_at_limits" "_law_at_limits" sAl f fd)
    (GDraw : FnOk P w K mg base CX0 1 fD fdD ["_law_pen_here", "_law_many"] spDraw) (TDraw : DefT K mg "_law_draw" fD) (bDraw : Binds K fdD ["_law_pen_here", "_law_many"] [])
    (GPick : FnOk P w K mg base CX0 2 fP fdP ["_law_pen_here", "_law_items"] (spPick K)) (TPick : DefT K mg "_law_pick" fP) (bPick : Binds K fdP ["_law_pen_here", "_law_items"] [])
    (GDe : FnOk P w K mg base CX0 1 fe fde ["_law_deep", "_law_word"] (spDe K)) (TDe : DefT K mg "_law_deep_e" fe) (bDe : Binds K fde ["_law_deep", "_law_word"] [])
    (GDc : FnOk P w K mg base CX0 1 fc fdc ["_law_deep", "_law_word"] (spDe K)) (TDc : DefT K mg "_law_deep_c" fc) (bDc : Binds K fdc ["_law_deep", "_law_word"] [])
    (GDi : FnOk P w K mg base CX0 1 fi fdi ["_law_deep"] (spDi K)) (TDi : DefT K mg "_law_deep_ifs" fi) (bDi : Binds K fdi ["_law_deep"] []) : FnOk P w K mg base CX0 3 f fd ["_law_pen_here"] (spAl K) := by
  refine F.ok scAl (fun vs H Q E h => ?_) (fun cdv A outer s H vs Q E hr h => ?_)
  · obtain ⟨p, cc, ns, k, rfl, _⟩ := h
    rfl
  · obtain ⟨p, cc, ns, b0, rfl, P0, hn, hb, k⟩ := h
    have hu := hu_of hr
    have X0 : SameX p H H := .refl
    refine ⟨_, (pss_cons (ps_par (i := 1) (j := 2) (by rfl) scAl.nd rfl rfl (by decide) rfl rfl (pa_cons (pe_call GPick (hr.mono (by decide)) rfl TPick.mg TPick.kp bPick .nil pass0 (pa_cons (pv 0) (pa_cons (Ab.pe_lstA (pa_cons pe_int (pa_cons pe_int (pa_cons pe_int pa_nil)))) pa_nil))) (pa_cons (pe_call GPick (hr.mono (by decide)) rfl TPick.mg TPick.kp bPick .nil pass0 (pa_cons (pv 0) (pa_cons (Ab.pe_lstA (pa_cons pe_str (pa_cons pe_str (pa_cons pe_str pa_nil)))) pa_nil))) pa_nil)) (by rfl))
      (pss_cons (ps_par (i := 3) (j := 4) (by rfl) scAl.nd rfl rfl (by decide) rfl rfl (pa_cons (pe_call GDe (hr.mono (by decide)) rfl TDe.mg TDe.kp bDe .nil pass0 (pa_cons (pv 1) (pa_cons (pv 2) pa_nil))) (pa_cons (pe_call GDc (hr.mono (by decide)) rfl TDc.mg TDc.kp bDc .nil pass0 (pa_cons (pe_call GPick (hr.mono (by decide)) rfl TPick.mg TPick.kp bPick .nil pass0 (pa_cons (pv 0) (pa_cons (Ab.pe_lstA (pa_cons pe_int (pa_cons pe_int (pa_cons pe_int pa_nil)))) pa_nil))) (pa_cons (pe_call GPick (hr.mono (by decide)) rfl TPick.mg TPick.kp bPick .nil pass0 (pa_cons (pv 0) (pa_cons (Ab.pe_lstA (pa_cons pe_str (pa_cons pe_str (pa_cons pe_str pa_nil)))) pa_nil))) pa_nil))) pa_nil)) (by rfl))
      (pss_cons (ps_set (i := 5) scAl.nd rfl (Or.inl rfl) (pe_op KRep.op_mulS pe_str (pe_call GPick (hr.mono (by decide)) rfl TPick.mg TPick.kp bPick .nil pass0 (pa_cons (pv 0) (pa_cons (Ab.pe_lstA (pa_cons pe_int (pa_cons pe_int (pa_cons pe_int (pa_cons pe_int pa_nil))))) pa_nil)))))
      (pss_cons (ps_set (i := 6) scAl.nd rfl (Or.inl rfl) (Ab.pe_lstA (pa_cons (Ab.pe_tupA (pa_cons (Ab.pe_tupA (pa_cons pe_str (pa_cons (pv 5) (pa_cons (pv 3) pa_nil)))) pa_nil)) (pa_cons (Ab.pe_tupA (pa_cons (Ab.pe_tupA (pa_cons pe_str (pa_cons (pv 5) (pa_cons pe_non (pa_cons (pv 3) pa_nil))))) pa_nil)) (pa_cons (Ab.pe_tupA (pa_cons (Ab.pe_tupA (pa_cons pe_str (pa_cons pe_str (pa_cons (pv 5) (pa_cons (Ab.pe_tupA (pa_cons pe_str (pa_cons pe_int pa_nil))) pa_nil))))) pa_nil)) pa_nil)))))
      (pss_cons (ps_set (i := 6) scAl.nd rfl (Or.inl rfl) (pe_op Ab.op_catA (pv 6) (Ab.pe_lstA (pa_cons (Ab.pe_tupA (pa_cons (Ab.pe_tupA (pa_cons pe_str (pa_cons (pv 4) (pa_cons (Ab.pe_tupA pa_nil) (pa_cons (Ab.pe_tupA pa_nil) pa_nil))))) pa_nil)) (pa_cons (Ab.pe_tupA (pa_cons (Ab.pe_tupA (pa_cons pe_str (pa_cons (Ab.pe_tupA (pa_cons pe_str (pa_cons (pv 3) (pa_cons (Ab.pe_tupA (pa_cons pe_str pa_nil)) pa_nil)))) (pa_cons (Ab.pe_tupA (pa_cons (Ab.pe_tupA (pa_cons pe_str pa_nil)) pa_nil)) (pa_cons (Ab.pe_tupA pa_nil) pa_nil))))) pa_nil)) pa_nil)))))
      (pss_cons (ps_set (i := 6) scAl.nd rfl (Or.inl rfl) (pe_op Ab.op_catA (pv 6) (Ab.pe_lstA (pa_cons (pe_call GDi (hr.mono (by decide)) rfl TDi.mg TDi.kp bDi .nil pass0 (pa_cons (pe_call GPick (hr.mono (by decide)) rfl TPick.mg TPick.kp bPick .nil pass0 (pa_cons (pv 0) (pa_cons (Ab.pe_lstA (pa_cons pe_int (pa_cons pe_int (pa_cons pe_int pa_nil)))) pa_nil))) pa_nil)) (pa_cons (pe_op KRep.op_repA (Ab.pe_tupA (pa_cons (Ab.pe_tupA (pa_cons pe_str pa_nil)) pa_nil)) (pe_call GPick (hr.mono (by decide)) rfl TPick.mg TPick.kp bPick .nil pass0 (pa_cons (pv 0) (pa_cons (Ab.pe_lstA (pa_cons pe_int (pa_cons pe_int (pa_cons pe_int pa_nil)))) pa_nil)))) pa_nil)))))
      (pss_cons (ps_set (i := 7) scAl.nd rfl (Or.inl rfl) (pe_op KRep.op_repA (Ab.pe_tupA (pa_cons (Ab.pe_tupA (pa_cons pe_str (pa_cons pe_str (pa_cons (Ab.pe_tupA (pa_cons pe_str pa_nil)) pa_nil)))) pa_nil)) (pe_call GPick (hr.mono (by decide)) rfl TPick.mg TPick.kp bPick .nil pass0 (pa_cons (pv 0) (pa_cons (Ab.pe_lstA (pa_cons pe_int (pa_cons pe_int pa_nil))) pa_nil)))))
      (pss_cons (ps_expr (pe_bm PySem.F.plainAttrs_list PySem.F.slot_list_append PySem.F.type_list_append mt_append (pv 6) (pa_cons (pe_op L2.op_catA (Ab.pe_tupA (pa_cons (Ab.pe_tupA (pa_cons pe_str (pa_cons (pv 4) (pa_cons (pv 7) (pa_cons (pv 7) pa_nil))))) pa_nil)) (pe_op KRep.op_repA (Ab.pe_tupA (pa_cons (Ab.pe_tupA (pa_cons pe_str pa_nil)) pa_nil)) (pe_call GDraw (hr.mono (by decide)) rfl TDraw.mg TDraw.kp bDraw .nil pass0 (pa_cons (pv 0) (pa_cons pe_int pa_nil))))) pa_nil)))
      (pss_cons (ps_expr (pe_bm PySem.F.plainAttrs_list PySem.F.slot_list_append PySem.F.type_list_append mt_append (pv 6) (pa_cons (Ab.pe_tupA (pa_cons (Ab.pe_tupA (pa_cons pe_str (pa_cons pe_str (pa_cons (Ab.pe_tupA (pa_cons pe_str (pa_cons (pe_call GPick (hr.mono (by decide)) rfl TPick.mg TPick.kp bPick .nil pass0 (pa_cons (pv 0) (pa_cons (Ab.pe_lstA (pa_cons pe_int (pa_cons pe_int (pa_cons (pe_un un_neg pe_int) (pa_cons (pe_un un_neg pe_int) (pa_cons pe_bl (pa_cons pe_non pa_nil))))))) pa_nil))) pa_nil))) pa_nil)))) pa_nil)) pa_nil)))
      (pss_one (ps_ret (pe_call GPick (hr.mono (by decide)) rfl TPick.mg TPick.kp bPick .nil pass0 (pa_cons (pv 0) (pa_cons (pv 6) pa_nil)))))))))))))), ?_⟩
    refine ⟨_, rfl, ?_⟩
    refine ⟨sz (by simp), fun l1 G1 f1 n1 s1 e1 => ?_⟩
    have X2 := X0.trans (Same.X s1)
    have Q1 := P0.same s1
    refine ⟨p, cc, ns, _, l1, _, rfl, Q1, hn, by omega, e1, by simp, by simp, fun v1 K1 hv1 P1 x1 => ?_⟩
    have X3 := X2.trans x1
    obtain ⟨m1, rfl, lo1, hi1⟩ : ∃ m : Nat, v1 = .int m ∧ 5 ≤ m ∧ m ≤ 7 := by
      simp only [List.mem_cons, List.not_mem_nil, or_false] at hv1
      rcases hv1 with e | e | e <;> exact ⟨_, e, by decide, by decide⟩
    refine ⟨_, rfl, ?_⟩
    refine ⟨sz (by simp), fun l4 G4 f4 n4 s4 e4 => ?_⟩
    have X5 := X3.trans (Same.X s4)
    have Q4 := P1.same s4
    refine ⟨p, cc, ns, _, l4, _, rfl, Q4, hn, by omega, e4, by simp, by simp, fun v4 K4 hv4 P4 x4 => ?_⟩
    have X6 := X5.trans x4
    obtain ⟨z4, rfl, zl4⟩ : ∃ z : Str, v4 = .str z ∧ z.length ≤ 1000 := by
      simp only [List.mem_cons, List.not_mem_nil, or_false] at hv4
      rcases hv4 with e | e | e <;> exact ⟨_, e, by decide⟩
    refine ⟨_, _, rfl, ?_⟩
    refine ⟨_, rfl, ?_⟩
    refine ⟨_, rfl, ?_⟩
    obtain ⟨pp7, hp7⟩ := PenAt.at P4
    refine ⟨m1, z4, p, pp7, rfl, by omega, by omega, zl4, hp7, fun v7 w7 G7 d7 s7 => ?_⟩
    have X8 := X6.trans (Same.X s7)
    have Q7 := P4.same s7
    refine ⟨_, rfl, ?_⟩
    refine ⟨sz (by simp), fun l9 G9 f9 n9 s9 e9 => ?_⟩
    replace d7 := d7.same (Same.X s9)
    have X10 := X8.trans (Same.X s9)
    have Q9 := Q7.same s9
    refine ⟨p, cc, ns, _, l9, _, rfl, Q9, hn, by omega, e9, by simp, by simp, fun v9 K9 hv9 P9 x9 => ?_⟩
    replace d7 := d7.same x9
    have X11 := X10.trans x9
    obtain ⟨m9, rfl, lo9, hi9⟩ : ∃ m : Nat, v9 = .int m ∧ 5 ≤ m ∧ m ≤ 7 := by
      simp only [List.mem_cons, List.not_mem_nil, or_false] at hv9
      rcases hv9 with e | e | e <;> exact ⟨_, e, by decide, by decide⟩
    refine ⟨_, rfl, ?_⟩
    refine ⟨sz (by simp), fun l12 G12 f12 n12 s12 e12 => ?_⟩
    replace d7 := d7.same (Same.X s12)
    have X13 := X11.trans (Same.X s12)
    have Q12 := P9.same s12
    refine ⟨p, cc, ns, _, l12, _, rfl, Q12, hn, by omega, e12, by simp, by simp, fun v12 K12 hv12 P12 x12 => ?_⟩
    replace d7 := d7.same x12
    have X14 := X13.trans x12
    obtain ⟨z12, rfl, zl12⟩ : ∃ z : Str, v12 = .str z ∧ z.length ≤ 1000 := by
      simp only [List.mem_cons, List.not_mem_nil, or_false] at hv12
      rcases hv12 with e | e | e <;> exact ⟨_, e, by decide⟩
    obtain ⟨pp15, hp15⟩ := PenAt.at P12
    refine ⟨m9, z12, p, pp15, rfl, by omega, by omega, zl12, hp15, fun v15 w15 G15 d15 s15 => ?_⟩
    replace d7 := d7.same (Same.X s15)
    have X16 := X14.trans (Same.X s15)
    have Q15 := P12.same s15
    refine ⟨_, _, rfl, ?_⟩
    refine ⟨_, rfl, ?_⟩
    refine ⟨sz (by simp), fun l17 G17 f17 n17 s17 e17 => ?_⟩
    replace d7 := d7.same (Same.X s17)
    replace d15 := d15.same (Same.X s17)
    have X18 := X16.trans (Same.X s17)
    have Q17 := Q15.same s17
    refine ⟨p, cc, ns, _, l17, _, rfl, Q17, hn, by omega, e17, by simp, by simp, fun v17 K17 hv17 P17 x17 => ?_⟩
    replace d7 := d7.same x17
    replace d15 := d15.same x17
    have X19 := X18.trans x17
    obtain ⟨m17, rfl, lo17, hi17⟩ : ∃ m : Nat, v17 = .int m ∧ 1 ≤ m ∧ m ≤ 7 := by
      simp only [List.mem_cons, List.not_mem_nil, or_false] at hv17
      rcases hv17 with e | e | e | e <;> exact ⟨_, e, by decide, by decide⟩
    refine ⟨_, _, rfl, rfl, rfl, by omega, by omega, fun w20 wl20 => ?_⟩
    refine ⟨_, rfl, ?_⟩
    refine ⟨_, rfl, ?_⟩
    refine ⟨sz (by simp), fun t21 G21 f21 s21 e21 => ?_⟩
    have o21 := PenAt.off P17 f21
    replace d7 := d7.same (Same.X s21)
    replace d15 := d15.same (Same.X s21)
    have X22 := X19.trans (Same.X s21)
    have Q21 := P17.same s21
    have d21 : Dw K p G21 (12 + 1) (V.ref t21) (.tuple [.str "set", .str w20, w7]) := .tup (.cons (.str _ (by decide)) (.cons (.str w20 (by omega)) (.cons (d7.mono (by omega)) .nil))) (by simp) o21 e21
    refine ⟨sz (by simp), fun t23 G23 f23 s23 e23 => ?_⟩
    have o23 := PenAt.off Q21 f23
    replace d7 := d7.same (Same.X s23)
    replace d15 := d15.same (Same.X s23)
    replace d21 := d21.same (Same.X s23)
    have X24 := X22.trans (Same.X s23)
    have Q23 := Q21.same s23
    have d23 : Dw K p G23 (13 + 1) (V.ref t23) (.tuple [.tuple [.str "set", .str w20, w7]]) := .tup (.cons (d21.mono (by omega)) .nil) (by simp) o23 e23
    refine ⟨_, rfl, ?_⟩
    refine ⟨_, rfl, ?_⟩
    refine ⟨sz (by simp), fun t25 G25 f25 s25 e25 => ?_⟩
    have o25 := PenAt.off Q23 f25
    replace d7 := d7.same (Same.X s25)
    replace d15 := d15.same (Same.X s25)
    replace d21 := d21.same (Same.X s25)
    replace d23 := d23.same (Same.X s25)
    have X26 := X24.trans (Same.X s25)
    have Q25 := Q23.same s25
    have d25 : Dw K p G25 (12 + 1) (V.ref t25) (.tuple [.str "send", .str w20, .none, w7]) := .tup (.cons (.str _ (by decide)) (.cons (.str w20 (by omega)) (.cons (.non) (.cons (d7.mono (by omega)) .nil)))) (by simp) o25 e25
    refine ⟨sz (by simp), fun t27 G27 f27 s27 e27 => ?_⟩
    have o27 := PenAt.off Q25 f27
    replace d7 := d7.same (Same.X s27)
    replace d15 := d15.same (Same.X s27)
    replace d21 := d21.same (Same.X s27)
    replace d23 := d23.same (Same.X s27)
    replace d25 := d25.same (Same.X s27)
    have X28 := X26.trans (Same.X s27)
    have Q27 := Q25.same s27
    have d27 : Dw K p G27 (13 + 1) (V.ref t27) (.tuple [.tuple [.str "send", .str w20, .none, w7]]) := .tup (.cons (d25.mono (by omega)) .nil) (by simp) o27 e27
    refine ⟨_, rfl, ?_⟩
    refine ⟨sz (by simp), fun t29 G29 f29 s29 e29 => ?_⟩
    have o29 := PenAt.off Q27 f29
    replace d7 := d7.same (Same.X s29)
    replace d15 := d15.same (Same.X s29)
    replace d21 := d21.same (Same.X s29)
    replace d23 := d23.same (Same.X s29)
    replace d25 := d25.same (Same.X s29)
    replace d27 := d27.same (Same.X s29)
    have X30 := X28.trans (Same.X s29)
    have Q29 := Q27.same s29
    have d29 : Dw K p G29 (0 + 1) (V.ref t29) (.tuple [.str "value", .int 0]) := .tup (.cons (.str _ (by decide)) (.cons (.int _) .nil)) (by simp) o29 e29
    refine ⟨sz (by simp), fun t31 G31 f31 s31 e31 => ?_⟩
    have o31 := PenAt.off Q29 f31
    replace d7 := d7.same (Same.X s31)
    replace d15 := d15.same (Same.X s31)
    replace d21 := d21.same (Same.X s31)
    replace d23 := d23.same (Same.X s31)
    replace d25 := d25.same (Same.X s31)
    replace d27 := d27.same (Same.X s31)
    replace d29 := d29.same (Same.X s31)
    have X32 := X30.trans (Same.X s31)
    have Q31 := Q29.same s31
    have d31 : Dw K p G31 (1 + 1) (V.ref t31) (.tuple [.str "send", .str "a", .str w20, .tuple [.str "value", .int 0]]) := .tup (.cons (.str _ (by decide)) (.cons (.str _ (by decide)) (.cons (.str w20 (by omega)) (.cons (d29.mono (by omega)) .nil)))) (by simp) o31 e31
    refine ⟨sz (by simp), fun t33 G33 f33 s33 e33 => ?_⟩
    have o33 := PenAt.off Q31 f33
    replace d7 := d7.same (Same.X s33)
    replace d15 := d15.same (Same.X s33)
    replace d21 := d21.same (Same.X s33)
    replace d23 := d23.same (Same.X s33)
    replace d25 := d25.same (Same.X s33)
    replace d27 := d27.same (Same.X s33)
    replace d29 := d29.same (Same.X s33)
    replace d31 := d31.same (Same.X s33)
    have X34 := X32.trans (Same.X s33)
    have Q33 := Q31.same s33
    have d33 : Dw K p G33 (2 + 1) (V.ref t33) (.tuple [.tuple [.str "send", .str "a", .str w20, .tuple [.str "value", .int 0]]]) := .tup (.cons (d31.mono (by omega)) .nil) (by simp) o33 e33
    refine ⟨sz (by simp), fun l35 G35 f35 n35 s35 el35 => ?_⟩
    replace d7 := d7.same (Same.X s35)
    replace d15 := d15.same (Same.X s35)
    replace d21 := d21.same (Same.X s35)
    replace d23 := d23.same (Same.X s35)
    replace d25 := d25.same (Same.X s35)
    replace d27 := d27.same (Same.X s35)
    replace d29 := d29.same (Same.X s35)
    replace d31 := d31.same (Same.X s35)
    replace d33 := d33.same (Same.X s35)
    have X36 := X34.trans (Same.X s35)
    have Q35 := Q33.same s35
    have a35 : DwAll K p G35 24 [V.ref t23, V.ref t27, V.ref t33] [.tuple [.tuple [.str "set", .str w20, w7]], .tuple [.tuple [.str "send", .str w20, .none, w7]], .tuple [.tuple [.str "send", .str "a", .str w20, .tuple [.str "value", .int 0]]]] := (.cons (d23.mono (by omega)) (.cons (d27.mono (by omega)) (.cons (d33.mono (by omega)) .nil)))
    refine ⟨_, rfl, ?_⟩
    refine ⟨_, rfl, ?_⟩
    refine ⟨sz (by simp), fun t37 G37 f37 s37 e37 => ?_⟩
    have o37 := PenAt.off Q35 f37
    replace el35 := s37 _ _ el35
    replace d7 := d7.same (Same.X s37)
    replace d15 := d15.same (Same.X s37)
    replace d21 := d21.same (Same.X s37)
    replace d23 := d23.same (Same.X s37)
    replace d25 := d25.same (Same.X s37)
    replace d27 := d27.same (Same.X s37)
    replace d29 := d29.same (Same.X s37)
    replace d31 := d31.same (Same.X s37)
    replace d33 := d33.same (Same.X s37)
    replace a35 := DwAll.same (Same.X s37) a35
    have X38 := X36.trans (Same.X s37)
    have Q37 := Q35.same s37
    have d37 : Dw K p G37 (0 + 1) (V.ref t37) (.tuple []) := .tup .nil (by simp) o37 e37
    refine ⟨sz (by simp), fun t39 G39 f39 s39 e39 => ?_⟩
    have o39 := PenAt.off Q37 f39
    replace el35 := s39 _ _ el35
    replace d7 := d7.same (Same.X s39)
    replace d15 := d15.same (Same.X s39)
    replace d21 := d21.same (Same.X s39)
    replace d23 := d23.same (Same.X s39)
    replace d25 := d25.same (Same.X s39)
    replace d27 := d27.same (Same.X s39)
    replace d29 := d29.same (Same.X s39)
    replace d31 := d31.same (Same.X s39)
    replace d33 := d33.same (Same.X s39)
    replace a35 := DwAll.same (Same.X s39) a35
    replace d37 := d37.same (Same.X s39)
    have X40 := X38.trans (Same.X s39)
    have Q39 := Q37.same s39
    have d39 : Dw K p G39 (0 + 1) (V.ref t39) (.tuple []) := .tup .nil (by simp) o39 e39
    refine ⟨sz (by simp), fun t41 G41 f41 s41 e41 => ?_⟩
    have o41 := PenAt.off Q39 f41
    replace el35 := s41 _ _ el35
    replace d7 := d7.same (Same.X s41)
    replace d15 := d15.same (Same.X s41)
    replace d21 := d21.same (Same.X s41)
    replace d23 := d23.same (Same.X s41)
    replace d25 := d25.same (Same.X s41)
    replace d27 := d27.same (Same.X s41)
    replace d29 := d29.same (Same.X s41)
    replace d31 := d31.same (Same.X s41)
    replace d33 := d33.same (Same.X s41)
    replace a35 := DwAll.same (Same.X s41) a35
    replace d37 := d37.same (Same.X s41)
    replace d39 := d39.same (Same.X s41)
    have X42 := X40.trans (Same.X s41)
    have Q41 := Q39.same s41
    have d41 : Dw K p G41 (12 + 1) (V.ref t41) (.tuple [.str "if", w15, .tuple [], .tuple []]) := .tup (.cons (.str _ (by decide)) (.cons (d15.mono (by omega)) (.cons (d37.mono (by omega)) (.cons (d39.mono (by omega)) .nil)))) (by simp) o41 e41
    refine ⟨sz (by simp), fun t43 G43 f43 s43 e43 => ?_⟩
    have o43 := PenAt.off Q41 f43
    replace el35 := s43 _ _ el35
    replace d7 := d7.same (Same.X s43)
    replace d15 := d15.same (Same.X s43)
    replace d21 := d21.same (Same.X s43)
    replace d23 := d23.same (Same.X s43)
    replace d25 := d25.same (Same.X s43)
    replace d27 := d27.same (Same.X s43)
    replace d29 := d29.same (Same.X s43)
    replace d31 := d31.same (Same.X s43)
    replace d33 := d33.same (Same.X s43)
    replace a35 := DwAll.same (Same.X s43) a35
    replace d37 := d37.same (Same.X s43)
    replace d39 := d39.same (Same.X s43)
    replace d41 := d41.same (Same.X s43)
    have X44 := X42.trans (Same.X s43)
    have Q43 := Q41.same s43
    have d43 : Dw K p G43 (13 + 1) (V.ref t43) (.tuple [.tuple [.str "if", w15, .tuple [], .tuple []]]) := .tup (.cons (d41.mono (by omega)) .nil) (by simp) o43 e43
    refine ⟨_, rfl, ?_⟩
    refine ⟨sz (by simp), fun t45 G45 f45 s45 e45 => ?_⟩
    have o45 := PenAt.off Q43 f45
    replace el35 := s45 _ _ el35
    replace d7 := d7.same (Same.X s45)
    replace d15 := d15.same (Same.X s45)
    replace d21 := d21.same (Same.X s45)
    replace d23 := d23.same (Same.X s45)
    replace d25 := d25.same (Same.X s45)
    replace d27 := d27.same (Same.X s45)
    replace d29 := d29.same (Same.X s45)
    replace d31 := d31.same (Same.X s45)
    replace d33 := d33.same (Same.X s45)
    replace a35 := DwAll.same (Same.X s45) a35
    replace d37 := d37.same (Same.X s45)
    replace d39 := d39.same (Same.X s45)
    replace d41 := d41.same (Same.X s45)
    replace d43 := d43.same (Same.X s45)
    have X46 := X44.trans (Same.X s45)
    have Q45 := Q43.same s45
    have d45 : Dw K p G45 (0 + 1) (V.ref t45) (.tuple [.str "body"]) := .tup (.cons (.str _ (by decide)) .nil) (by simp) o45 e45
    refine ⟨sz (by simp), fun t47 G47 f47 s47 e47 => ?_⟩
    have o47 := PenAt.off Q45 f47
    replace el35 := s47 _ _ el35
    replace d7 := d7.same (Same.X s47)
    replace d15 := d15.same (Same.X s47)
    replace d21 := d21.same (Same.X s47)
    replace d23 := d23.same (Same.X s47)
    replace d25 := d25.same (Same.X s47)
    replace d27 := d27.same (Same.X s47)
    replace d29 := d29.same (Same.X s47)
    replace d31 := d31.same (Same.X s47)
    replace d33 := d33.same (Same.X s47)
    replace a35 := DwAll.same (Same.X s47) a35
    replace d37 := d37.same (Same.X s47)
    replace d39 := d39.same (Same.X s47)
    replace d41 := d41.same (Same.X s47)
    replace d43 := d43.same (Same.X s47)
    replace d45 := d45.same (Same.X s47)
    have X48 := X46.trans (Same.X s47)
    have Q47 := Q45.same s47
    have d47 : Dw K p G47 (12 + 1) (V.ref t47) (.tuple [.str "<", w7, .tuple [.str "body"]]) := .tup (.cons (.str _ (by decide)) (.cons (d7.mono (by omega)) (.cons (d45.mono (by omega)) .nil))) (by simp) o47 e47
    refine ⟨sz (by simp), fun t49 G49 f49 s49 e49 => ?_⟩
    have o49 := PenAt.off Q47 f49
    replace el35 := s49 _ _ el35
    replace d7 := d7.same (Same.X s49)
    replace d15 := d15.same (Same.X s49)
    replace d21 := d21.same (Same.X s49)
    replace d23 := d23.same (Same.X s49)
    replace d25 := d25.same (Same.X s49)
    replace d27 := d27.same (Same.X s49)
    replace d29 := d29.same (Same.X s49)
    replace d31 := d31.same (Same.X s49)
    replace d33 := d33.same (Same.X s49)
    replace a35 := DwAll.same (Same.X s49) a35
    replace d37 := d37.same (Same.X s49)
    replace d39 := d39.same (Same.X s49)
    replace d41 := d41.same (Same.X s49)
    replace d43 := d43.same (Same.X s49)
    replace d45 := d45.same (Same.X s49)
    replace d47 := d47.same (Same.X s49)
    have X50 := X48.trans (Same.X s49)
    have Q49 := Q47.same s49
    have d49 : Dw K p G49 (0 + 1) (V.ref t49) (.tuple [.str "fail"]) := .tup (.cons (.str _ (by decide)) .nil) (by simp) o49 e49
    refine ⟨sz (by simp), fun t51 G51 f51 s51 e51 => ?_⟩
    have o51 := PenAt.off Q49 f51
    replace el35 := s51 _ _ el35
    replace d7 := d7.same (Same.X s51)
    replace d15 := d15.same (Same.X s51)
    replace d21 := d21.same (Same.X s51)
    replace d23 := d23.same (Same.X s51)
    replace d25 := d25.same (Same.X s51)
    replace d27 := d27.same (Same.X s51)
    replace d29 := d29.same (Same.X s51)
    replace d31 := d31.same (Same.X s51)
    replace d33 := d33.same (Same.X s51)
    replace a35 := DwAll.same (Same.X s51) a35
    replace d37 := d37.same (Same.X s51)
    replace d39 := d39.same (Same.X s51)
    replace d41 := d41.same (Same.X s51)
    replace d43 := d43.same (Same.X s51)
    replace d45 := d45.same (Same.X s51)
    replace d47 := d47.same (Same.X s51)
    replace d49 := d49.same (Same.X s51)
    have X52 := X50.trans (Same.X s51)
    have Q51 := Q49.same s51
    have d51 : Dw K p G51 (1 + 1) (V.ref t51) (.tuple [.tuple [.str "fail"]]) := .tup (.cons (d49.mono (by omega)) .nil) (by simp) o51 e51
    refine ⟨sz (by simp), fun t53 G53 f53 s53 e53 => ?_⟩
    have o53 := PenAt.off Q51 f53
    replace el35 := s53 _ _ el35
    replace d7 := d7.same (Same.X s53)
    replace d15 := d15.same (Same.X s53)
    replace d21 := d21.same (Same.X s53)
    replace d23 := d23.same (Same.X s53)
    replace d25 := d25.same (Same.X s53)
    replace d27 := d27.same (Same.X s53)
    replace d29 := d29.same (Same.X s53)
    replace d31 := d31.same (Same.X s53)
    replace d33 := d33.same (Same.X s53)
    replace a35 := DwAll.same (Same.X s53) a35
    replace d37 := d37.same (Same.X s53)
    replace d39 := d39.same (Same.X s53)
    replace d41 := d41.same (Same.X s53)
    replace d43 := d43.same (Same.X s53)
    replace d45 := d45.same (Same.X s53)
    replace d47 := d47.same (Same.X s53)
    replace d49 := d49.same (Same.X s53)
    replace d51 := d51.same (Same.X s53)
    have X54 := X52.trans (Same.X s53)
    have Q53 := Q51.same s53
    have d53 : Dw K p G53 (0 + 1) (V.ref t53) (.tuple []) := .tup .nil (by simp) o53 e53
    refine ⟨sz (by simp), fun t55 G55 f55 s55 e55 => ?_⟩
    have o55 := PenAt.off Q53 f55
    replace el35 := s55 _ _ el35
    replace d7 := d7.same (Same.X s55)
    replace d15 := d15.same (Same.X s55)
    replace d21 := d21.same (Same.X s55)
    replace d23 := d23.same (Same.X s55)
    replace d25 := d25.same (Same.X s55)
    replace d27 := d27.same (Same.X s55)
    replace d29 := d29.same (Same.X s55)
    replace d31 := d31.same (Same.X s55)
    replace d33 := d33.same (Same.X s55)
    replace a35 := DwAll.same (Same.X s55) a35
    replace d37 := d37.same (Same.X s55)
    replace d39 := d39.same (Same.X s55)
    replace d41 := d41.same (Same.X s55)
    replace d43 := d43.same (Same.X s55)
    replace d45 := d45.same (Same.X s55)
    replace d47 := d47.same (Same.X s55)
    replace d49 := d49.same (Same.X s55)
    replace d51 := d51.same (Same.X s55)
    replace d53 := d53.same (Same.X s55)
    have X56 := X54.trans (Same.X s55)
    have Q55 := Q53.same s55
    have d55 : Dw K p G55 (13 + 1) (V.ref t55) (.tuple [.str "if", .tuple [.str "<", w7, .tuple [.str "body"]], .tuple [.tuple [.str "fail"]], .tuple []]) := .tup (.cons (.str _ (by decide)) (.cons (d47.mono (by omega)) (.cons (d51.mono (by omega)) (.cons (d53.mono (by omega)) .nil)))) (by simp) o55 e55
    refine ⟨sz (by simp), fun t57 G57 f57 s57 e57 => ?_⟩
    have o57 := PenAt.off Q55 f57
    replace el35 := s57 _ _ el35
    replace d7 := d7.same (Same.X s57)
    replace d15 := d15.same (Same.X s57)
    replace d21 := d21.same (Same.X s57)
    replace d23 := d23.same (Same.X s57)
    replace d25 := d25.same (Same.X s57)
    replace d27 := d27.same (Same.X s57)
    replace d29 := d29.same (Same.X s57)
    replace d31 := d31.same (Same.X s57)
    replace d33 := d33.same (Same.X s57)
    replace a35 := DwAll.same (Same.X s57) a35
    replace d37 := d37.same (Same.X s57)
    replace d39 := d39.same (Same.X s57)
    replace d41 := d41.same (Same.X s57)
    replace d43 := d43.same (Same.X s57)
    replace d45 := d45.same (Same.X s57)
    replace d47 := d47.same (Same.X s57)
    replace d49 := d49.same (Same.X s57)
    replace d51 := d51.same (Same.X s57)
    replace d53 := d53.same (Same.X s57)
    replace d55 := d55.same (Same.X s57)
    have X58 := X56.trans (Same.X s57)
    have Q57 := Q55.same s57
    have d57 : Dw K p G57 (14 + 1) (V.ref t57) (.tuple [.tuple [.str "if", .tuple [.str "<", w7, .tuple [.str "body"]], .tuple [.tuple [.str "fail"]], .tuple []]]) := .tup (.cons (d55.mono (by omega)) .nil) (by simp) o57 e57
    refine ⟨sz (by simp), fun l59 G59 f59 n59 s59 el59 => ?_⟩
    replace el35 := s59 _ _ el35
    replace d7 := d7.same (Same.X s59)
    replace d15 := d15.same (Same.X s59)
    replace d21 := d21.same (Same.X s59)
    replace d23 := d23.same (Same.X s59)
    replace d25 := d25.same (Same.X s59)
    replace d27 := d27.same (Same.X s59)
    replace d29 := d29.same (Same.X s59)
    replace d31 := d31.same (Same.X s59)
    replace d33 := d33.same (Same.X s59)
    replace a35 := DwAll.same (Same.X s59) a35
    replace d37 := d37.same (Same.X s59)
    replace d39 := d39.same (Same.X s59)
    replace d41 := d41.same (Same.X s59)
    replace d43 := d43.same (Same.X s59)
    replace d45 := d45.same (Same.X s59)
    replace d47 := d47.same (Same.X s59)
    replace d49 := d49.same (Same.X s59)
    replace d51 := d51.same (Same.X s59)
    replace d53 := d53.same (Same.X s59)
    replace d55 := d55.same (Same.X s59)
    replace d57 := d57.same (Same.X s59)
    have X60 := X58.trans (Same.X s59)
    have Q59 := Q57.same s59
    have a59 : DwAll K p G59 24 [V.ref t43, V.ref t57] [.tuple [.tuple [.str "if", w15, .tuple [], .tuple []]], .tuple [.tuple [.str "if", .tuple [.str "<", w7, .tuple [.str "body"]], .tuple [.tuple [.str "fail"]], .tuple []]]] := (.cons (d43.mono (by omega)) (.cons (d57.mono (by omega)) .nil))
    refine ⟨l35, l59, _, _, rfl, rfl, el35, el59, sz (by simp), fun l61 G61 f61 s61 el61 => ?_⟩
    have lp61 := PenAt.off Q59 f61
    have nc61 : cc ≠ l61 := ne_of_none (Q59).ce f61
    have fr61 : H l61 = none := free_of X60 lp61 f61
    replace el35 := s61 _ _ el35
    replace el59 := s61 _ _ el59
    replace d7 := d7.same (Same.X s61)
    replace d15 := d15.same (Same.X s61)
    replace d21 := d21.same (Same.X s61)
    replace d23 := d23.same (Same.X s61)
    replace d25 := d25.same (Same.X s61)
    replace d27 := d27.same (Same.X s61)
    replace d29 := d29.same (Same.X s61)
    replace d31 := d31.same (Same.X s61)
    replace d33 := d33.same (Same.X s61)
    replace a35 := DwAll.same (Same.X s61) a35
    replace d37 := d37.same (Same.X s61)
    replace d39 := d39.same (Same.X s61)
    replace d41 := d41.same (Same.X s61)
    replace d43 := d43.same (Same.X s61)
    replace d45 := d45.same (Same.X s61)
    replace d47 := d47.same (Same.X s61)
    replace d49 := d49.same (Same.X s61)
    replace d51 := d51.same (Same.X s61)
    replace d53 := d53.same (Same.X s61)
    replace d55 := d55.same (Same.X s61)
    replace d57 := d57.same (Same.X s61)
    replace a59 := DwAll.same (Same.X s61) a59
    have X62 := X60.trans (Same.X s61)
    have Q61 := Q59.same s61
    have a61 := a35.app a59
    refine ⟨_, rfl, ?_⟩
    refine ⟨_, rfl, ?_⟩
    refine ⟨sz (by simp), fun l63 G63 f63 n63 s63 e63 => ?_⟩
    replace el35 := s63 _ _ el35
    replace el59 := s63 _ _ el59
    replace el61 := s63 _ _ el61
    replace d7 := d7.same (Same.X s63)
    replace d15 := d15.same (Same.X s63)
    replace d21 := d21.same (Same.X s63)
    replace d23 := d23.same (Same.X s63)
    replace d25 := d25.same (Same.X s63)
    replace d27 := d27.same (Same.X s63)
    replace d29 := d29.same (Same.X s63)
    replace d31 := d31.same (Same.X s63)
    replace d33 := d33.same (Same.X s63)
    replace a35 := DwAll.same (Same.X s63) a35
    replace d37 := d37.same (Same.X s63)
    replace d39 := d39.same (Same.X s63)
    replace d41 := d41.same (Same.X s63)
    replace d43 := d43.same (Same.X s63)
    replace d45 := d45.same (Same.X s63)
    replace d47 := d47.same (Same.X s63)
    replace d49 := d49.same (Same.X s63)
    replace d51 := d51.same (Same.X s63)
    replace d53 := d53.same (Same.X s63)
    replace d55 := d55.same (Same.X s63)
    replace d57 := d57.same (Same.X s63)
    replace a59 := DwAll.same (Same.X s63) a59
    replace a61 := DwAll.same (Same.X s63) a61
    have X64 := X62.trans (Same.X s63)
    have Q63 := Q61.same s63
    refine ⟨p, cc, ns, _, l63, _, rfl, Q63, hn, by omega, e63, by simp, by simp, fun v63 K63 hv63 P63 x63 => ?_⟩
    replace el35 := x63 _ _ (lst_off Q63 el35) el35
    replace el59 := x63 _ _ (lst_off Q63 el59) el59
    replace el61 := x63 _ _ (lst_off Q63 el61) el61
    replace d7 := d7.same x63
    replace d15 := d15.same x63
    replace d21 := d21.same x63
    replace d23 := d23.same x63
    replace d25 := d25.same x63
    replace d27 := d27.same x63
    replace d29 := d29.same x63
    replace d31 := d31.same x63
    replace d33 := d33.same x63
    replace a35 := DwAll.same x63 a35
    replace d37 := d37.same x63
    replace d39 := d39.same x63
    replace d41 := d41.same x63
    replace d43 := d43.same x63
    replace d45 := d45.same x63
    replace d47 := d47.same x63
    replace d49 := d49.same x63
    replace d51 := d51.same x63
    replace d53 := d53.same x63
    replace d55 := d55.same x63
    replace d57 := d57.same x63
    replace a59 := DwAll.same x63 a59
    replace a61 := DwAll.same x63 a61
    have X65 := X64.trans x63
    obtain ⟨m63, rfl, lo63, hi63⟩ : ∃ m : Nat, v63 = .int m ∧ 2 ≤ m ∧ m ≤ 4 := by
      simp only [List.mem_cons, List.not_mem_nil, or_false] at hv63
      rcases hv63 with e | e | e <;> exact ⟨_, e, by decide, by decide⟩
    obtain ⟨pp66, hp66⟩ := PenAt.at P63
    refine ⟨m63, p, pp66, rfl, by omega, by omega, hp66, fun v66 w66 G66 d66 s66 => ?_⟩
    replace el35 := s66 _ _ el35
    replace el59 := s66 _ _ el59
    replace el61 := s66 _ _ el61
    replace d7 := d7.same (Same.X s66)
    replace d15 := d15.same (Same.X s66)
    replace d21 := d21.same (Same.X s66)
    replace d23 := d23.same (Same.X s66)
    replace d25 := d25.same (Same.X s66)
    replace d27 := d27.same (Same.X s66)
    replace d29 := d29.same (Same.X s66)
    replace d31 := d31.same (Same.X s66)
    replace d33 := d33.same (Same.X s66)
    replace a35 := DwAll.same (Same.X s66) a35
    replace d37 := d37.same (Same.X s66)
    replace d39 := d39.same (Same.X s66)
    replace d41 := d41.same (Same.X s66)
    replace d43 := d43.same (Same.X s66)
    replace d45 := d45.same (Same.X s66)
    replace d47 := d47.same (Same.X s66)
    replace d49 := d49.same (Same.X s66)
    replace d51 := d51.same (Same.X s66)
    replace d53 := d53.same (Same.X s66)
    replace d55 := d55.same (Same.X s66)
    replace d57 := d57.same (Same.X s66)
    replace a59 := DwAll.same (Same.X s66) a59
    replace a61 := DwAll.same (Same.X s66) a61
    have X67 := X65.trans (Same.X s66)
    have Q66 := P63.same s66
    refine ⟨sz (by simp), fun t68 G68 f68 s68 e68 => ?_⟩
    have o68 := PenAt.off Q66 f68
    replace el35 := s68 _ _ el35
    replace el59 := s68 _ _ el59
    replace el61 := s68 _ _ el61
    replace d7 := d7.same (Same.X s68)
    replace d15 := d15.same (Same.X s68)
    replace d21 := d21.same (Same.X s68)
    replace d23 := d23.same (Same.X s68)
    replace d25 := d25.same (Same.X s68)
    replace d27 := d27.same (Same.X s68)
    replace d29 := d29.same (Same.X s68)
    replace d31 := d31.same (Same.X s68)
    replace d33 := d33.same (Same.X s68)
    replace a35 := DwAll.same (Same.X s68) a35
    replace d37 := d37.same (Same.X s68)
    replace d39 := d39.same (Same.X s68)
    replace d41 := d41.same (Same.X s68)
    replace d43 := d43.same (Same.X s68)
    replace d45 := d45.same (Same.X s68)
    replace d47 := d47.same (Same.X s68)
    replace d49 := d49.same (Same.X s68)
    replace d51 := d51.same (Same.X s68)
    replace d53 := d53.same (Same.X s68)
    replace d55 := d55.same (Same.X s68)
    replace d57 := d57.same (Same.X s68)
    replace a59 := DwAll.same (Same.X s68) a59
    replace a61 := DwAll.same (Same.X s68) a61
    replace d66 := d66.same (Same.X s68)
    have X69 := X67.trans (Same.X s68)
    have Q68 := Q66.same s68
    have d68 : Dw K p G68 (0 + 1) (V.ref t68) (.tuple [.str "fail"]) := .tup (.cons (.str _ (by decide)) .nil) (by simp) o68 e68
    refine ⟨sz (by simp), fun t70 G70 f70 s70 e70 => ?_⟩
    have o70 := PenAt.off Q68 f70
    replace el35 := s70 _ _ el35
    replace el59 := s70 _ _ el59
    replace el61 := s70 _ _ el61
    replace d7 := d7.same (Same.X s70)
    replace d15 := d15.same (Same.X s70)
    replace d21 := d21.same (Same.X s70)
    replace d23 := d23.same (Same.X s70)
    replace d25 := d25.same (Same.X s70)
    replace d27 := d27.same (Same.X s70)
    replace d29 := d29.same (Same.X s70)
    replace d31 := d31.same (Same.X s70)
    replace d33 := d33.same (Same.X s70)
    replace a35 := DwAll.same (Same.X s70) a35
    replace d37 := d37.same (Same.X s70)
    replace d39 := d39.same (Same.X s70)
    replace d41 := d41.same (Same.X s70)
    replace d43 := d43.same (Same.X s70)
    replace d45 := d45.same (Same.X s70)
    replace d47 := d47.same (Same.X s70)
    replace d49 := d49.same (Same.X s70)
    replace d51 := d51.same (Same.X s70)
    replace d53 := d53.same (Same.X s70)
    replace d55 := d55.same (Same.X s70)
    replace d57 := d57.same (Same.X s70)
    replace a59 := DwAll.same (Same.X s70) a59
    replace a61 := DwAll.same (Same.X s70) a61
    replace d66 := d66.same (Same.X s70)
    replace d68 := d68.same (Same.X s70)
    have X71 := X69.trans (Same.X s70)
    have Q70 := Q68.same s70
    have d70 : Dw K p G70 (1 + 1) (V.ref t70) (.tuple [.tuple [.str "fail"]]) := .tup (.cons (d68.mono (by omega)) .nil) (by simp) o70 e70
    have ce70 := e70
    refine ⟨_, rfl, ?_⟩
    refine ⟨sz (by simp), fun l72 G72 f72 n72 s72 e72 => ?_⟩
    replace el35 := s72 _ _ el35
    replace el59 := s72 _ _ el59
    replace el61 := s72 _ _ el61
    replace ce70 := s72 _ _ ce70
    replace d7 := d7.same (Same.X s72)
    replace d15 := d15.same (Same.X s72)
    replace d21 := d21.same (Same.X s72)
    replace d23 := d23.same (Same.X s72)
    replace d25 := d25.same (Same.X s72)
    replace d27 := d27.same (Same.X s72)
    replace d29 := d29.same (Same.X s72)
    replace d31 := d31.same (Same.X s72)
    replace d33 := d33.same (Same.X s72)
    replace a35 := DwAll.same (Same.X s72) a35
    replace d37 := d37.same (Same.X s72)
    replace d39 := d39.same (Same.X s72)
    replace d41 := d41.same (Same.X s72)
    replace d43 := d43.same (Same.X s72)
    replace d45 := d45.same (Same.X s72)
    replace d47 := d47.same (Same.X s72)
    replace d49 := d49.same (Same.X s72)
    replace d51 := d51.same (Same.X s72)
    replace d53 := d53.same (Same.X s72)
    replace d55 := d55.same (Same.X s72)
    replace d57 := d57.same (Same.X s72)
    replace a59 := DwAll.same (Same.X s72) a59
    replace a61 := DwAll.same (Same.X s72) a61
    replace d66 := d66.same (Same.X s72)
    replace d68 := d68.same (Same.X s72)
    replace d70 := d70.same (Same.X s72)
    have X73 := X71.trans (Same.X s72)
    have Q72 := Q70.same s72
    refine ⟨p, cc, ns, _, l72, _, rfl, Q72, hn, by omega, e72, by simp, by simp, fun v72 K72 hv72 P72 x72 => ?_⟩
    replace el35 := x72 _ _ (lst_off Q72 el35) el35
    replace el59 := x72 _ _ (lst_off Q72 el59) el59
    replace el61 := x72 _ _ (lst_off Q72 el61) el61
    replace ce70 := x72 _ _ o70 ce70
    replace d7 := d7.same x72
    replace d15 := d15.same x72
    replace d21 := d21.same x72
    replace d23 := d23.same x72
    replace d25 := d25.same x72
    replace d27 := d27.same x72
    replace d29 := d29.same x72
    replace d31 := d31.same x72
    replace d33 := d33.same x72
    replace a35 := DwAll.same x72 a35
    replace d37 := d37.same x72
    replace d39 := d39.same x72
    replace d41 := d41.same x72
    replace d43 := d43.same x72
    replace d45 := d45.same x72
    replace d47 := d47.same x72
    replace d49 := d49.same x72
    replace d51 := d51.same x72
    replace d53 := d53.same x72
    replace d55 := d55.same x72
    replace d57 := d57.same x72
    replace a59 := DwAll.same x72 a59
    replace a61 := DwAll.same x72 a61
    replace d66 := d66.same x72
    replace d68 := d68.same x72
    replace d70 := d70.same x72
    have X74 := X73.trans x72
    obtain ⟨m72, rfl, lo72, hi72⟩ : ∃ m : Nat, v72 = .int m ∧ 11 ≤ m ∧ m ≤ 13 := by
      simp only [List.mem_cons, List.not_mem_nil, or_false] at hv72
      rcases hv72 with e | e | e <;> exact ⟨_, e, by decide, by decide⟩
    refine ⟨_, _, _, rfl, rfl, SqT.of ce70, by simp, by omega, by omega, by simp, fun z => absurd z (by omega), fun _ t75 f75 => ?_⟩
    have o75 := PenAt.off P72 f75
    have s75 : Same K72 (upd K72 t75 (.tup (List.replicate ((m72 : Nat) : Int).toNat [V.ref t68]).flatten)) := Ab.same_up f75
    have e75 : (upd K72 t75 (.tup (List.replicate ((m72 : Nat) : Int).toNat [V.ref t68]).flatten)) t75 = some (.tup (List.replicate ((m72 : Nat) : Int).toNat [V.ref t68]).flatten) := upd_same
    generalize upd K72 t75 (.tup (List.replicate ((m72 : Nat) : Int).toNat [V.ref t68]).flatten) = G75 at s75 e75 ⊢
    replace el35 := s75 _ _ el35
    replace el59 := s75 _ _ el59
    replace el61 := s75 _ _ el61
    replace ce70 := s75 _ _ ce70
    replace d7 := d7.same (Same.X s75)
    replace d15 := d15.same (Same.X s75)
    replace d21 := d21.same (Same.X s75)
    replace d23 := d23.same (Same.X s75)
    replace d25 := d25.same (Same.X s75)
    replace d27 := d27.same (Same.X s75)
    replace d29 := d29.same (Same.X s75)
    replace d31 := d31.same (Same.X s75)
    replace d33 := d33.same (Same.X s75)
    replace a35 := DwAll.same (Same.X s75) a35
    replace d37 := d37.same (Same.X s75)
    replace d39 := d39.same (Same.X s75)
    replace d41 := d41.same (Same.X s75)
    replace d43 := d43.same (Same.X s75)
    replace d45 := d45.same (Same.X s75)
    replace d47 := d47.same (Same.X s75)
    replace d49 := d49.same (Same.X s75)
    replace d51 := d51.same (Same.X s75)
    replace d53 := d53.same (Same.X s75)
    replace d55 := d55.same (Same.X s75)
    replace d57 := d57.same (Same.X s75)
    replace a59 := DwAll.same (Same.X s75) a59
    replace a61 := DwAll.same (Same.X s75) a61
    replace d66 := d66.same (Same.X s75)
    replace d68 := d68.same (Same.X s75)
    replace d70 := d70.same (Same.X s75)
    have X76 := X74.trans (Same.X s75)
    have Q75 := P72.same s75
    have d75 : Dw K p G75 (1 + 1) (V.ref t75) (.tuple (List.replicate ((m72 : Nat) : Int).toNat [.tuple [.str "fail"]]).flatten) := .tup (DwAll.rep d68 _) (by simp; omega) o75 e75
    refine ⟨sz (by simp), fun l77 G77 f77 n77 s77 el77 => ?_⟩
    replace el35 := s77 _ _ el35
    replace el59 := s77 _ _ el59
    replace el61 := s77 _ _ el61
    replace d7 := d7.same (Same.X s77)
    replace d15 := d15.same (Same.X s77)
    replace d21 := d21.same (Same.X s77)
    replace d23 := d23.same (Same.X s77)
    replace d25 := d25.same (Same.X s77)
    replace d27 := d27.same (Same.X s77)
    replace d29 := d29.same (Same.X s77)
    replace d31 := d31.same (Same.X s77)
    replace d33 := d33.same (Same.X s77)
    replace a35 := DwAll.same (Same.X s77) a35
    replace d37 := d37.same (Same.X s77)
    replace d39 := d39.same (Same.X s77)
    replace d41 := d41.same (Same.X s77)
    replace d43 := d43.same (Same.X s77)
    replace d45 := d45.same (Same.X s77)
    replace d47 := d47.same (Same.X s77)
    replace d49 := d49.same (Same.X s77)
    replace d51 := d51.same (Same.X s77)
    replace d53 := d53.same (Same.X s77)
    replace d55 := d55.same (Same.X s77)
    replace d57 := d57.same (Same.X s77)
    replace a59 := DwAll.same (Same.X s77) a59
    replace a61 := DwAll.same (Same.X s77) a61
    replace d66 := d66.same (Same.X s77)
    replace d68 := d68.same (Same.X s77)
    replace d70 := d70.same (Same.X s77)
    replace d75 := d75.same (Same.X s77)
    have X78 := X76.trans (Same.X s77)
    have Q77 := Q75.same s77
    have a77 : DwAll K p G77 24 [v66, V.ref t75] [w66, .tuple (List.replicate ((m72 : Nat) : Int).toNat [.tuple [.str "fail"]]).flatten] := (.cons (d66.mono (by omega)) (.cons (d75.mono (by omega)) .nil))
    refine ⟨l61, l77, _, _, rfl, rfl, el61, el77, sz (by simp), fun l79 G79 f79 s79 el79 => ?_⟩
    have lp79 := PenAt.off Q77 f79
    have nc79 : cc ≠ l79 := ne_of_none (Q77).ce f79
    have fr79 : H l79 = none := free_of X78 lp79 f79
    replace el35 := s79 _ _ el35
    replace el59 := s79 _ _ el59
    replace el61 := s79 _ _ el61
    replace el77 := s79 _ _ el77
    replace d7 := d7.same (Same.X s79)
    replace d15 := d15.same (Same.X s79)
    replace d21 := d21.same (Same.X s79)
    replace d23 := d23.same (Same.X s79)
    replace d25 := d25.same (Same.X s79)
    replace d27 := d27.same (Same.X s79)
    replace d29 := d29.same (Same.X s79)
    replace d31 := d31.same (Same.X s79)
    replace d33 := d33.same (Same.X s79)
    replace a35 := DwAll.same (Same.X s79) a35
    replace d37 := d37.same (Same.X s79)
    replace d39 := d39.same (Same.X s79)
    replace d41 := d41.same (Same.X s79)
    replace d43 := d43.same (Same.X s79)
    replace d45 := d45.same (Same.X s79)
    replace d47 := d47.same (Same.X s79)
    replace d49 := d49.same (Same.X s79)
    replace d51 := d51.same (Same.X s79)
    replace d53 := d53.same (Same.X s79)
    replace d55 := d55.same (Same.X s79)
    replace d57 := d57.same (Same.X s79)
    replace a59 := DwAll.same (Same.X s79) a59
    replace a61 := DwAll.same (Same.X s79) a61
    replace d66 := d66.same (Same.X s79)
    replace d68 := d68.same (Same.X s79)
    replace d70 := d70.same (Same.X s79)
    replace d75 := d75.same (Same.X s79)
    replace a77 := DwAll.same (Same.X s79) a77
    have X80 := X78.trans (Same.X s79)
    have Q79 := Q77.same s79
    have a79 := a61.app a77
    refine ⟨sz (by simp), fun t81 G81 f81 s81 e81 => ?_⟩
    have o81 := PenAt.off Q79 f81
    replace el35 := s81 _ _ el35
    replace el59 := s81 _ _ el59
    replace el61 := s81 _ _ el61
    replace el77 := s81 _ _ el77
    replace el79 := s81 _ _ el79
    replace d7 := d7.same (Same.X s81)
    replace d15 := d15.same (Same.X s81)
    replace d21 := d21.same (Same.X s81)
    replace d23 := d23.same (Same.X s81)
    replace d25 := d25.same (Same.X s81)
    replace d27 := d27.same (Same.X s81)
    replace d29 := d29.same (Same.X s81)
    replace d31 := d31.same (Same.X s81)
    replace d33 := d33.same (Same.X s81)
    replace a35 := DwAll.same (Same.X s81) a35
    replace d37 := d37.same (Same.X s81)
    replace d39 := d39.same (Same.X s81)
    replace d41 := d41.same (Same.X s81)
    replace d43 := d43.same (Same.X s81)
    replace d45 := d45.same (Same.X s81)
    replace d47 := d47.same (Same.X s81)
    replace d49 := d49.same (Same.X s81)
    replace d51 := d51.same (Same.X s81)
    replace d53 := d53.same (Same.X s81)
    replace d55 := d55.same (Same.X s81)
    replace d57 := d57.same (Same.X s81)
    replace a59 := DwAll.same (Same.X s81) a59
    replace a61 := DwAll.same (Same.X s81) a61
    replace d66 := d66.same (Same.X s81)
    replace d68 := d68.same (Same.X s81)
    replace d70 := d70.same (Same.X s81)
    replace d75 := d75.same (Same.X s81)
    replace a77 := DwAll.same (Same.X s81) a77
    replace a79 := DwAll.same (Same.X s81) a79
    have X82 := X80.trans (Same.X s81)
    have Q81 := Q79.same s81
    have d81 : Dw K p G81 (0 + 1) (V.ref t81) (.tuple [.str "body"]) := .tup (.cons (.str _ (by decide)) .nil) (by simp) o81 e81
    refine ⟨sz (by simp), fun t83 G83 f83 s83 e83 => ?_⟩
    have o83 := PenAt.off Q81 f83
    replace el35 := s83 _ _ el35
    replace el59 := s83 _ _ el59
    replace el61 := s83 _ _ el61
    replace el77 := s83 _ _ el77
    replace el79 := s83 _ _ el79
    replace d7 := d7.same (Same.X s83)
    replace d15 := d15.same (Same.X s83)
    replace d21 := d21.same (Same.X s83)
    replace d23 := d23.same (Same.X s83)
    replace d25 := d25.same (Same.X s83)
    replace d27 := d27.same (Same.X s83)
    replace d29 := d29.same (Same.X s83)
    replace d31 := d31.same (Same.X s83)
    replace d33 := d33.same (Same.X s83)
    replace a35 := DwAll.same (Same.X s83) a35
    replace d37 := d37.same (Same.X s83)
    replace d39 := d39.same (Same.X s83)
    replace d41 := d41.same (Same.X s83)
    replace d43 := d43.same (Same.X s83)
    replace d45 := d45.same (Same.X s83)
    replace d47 := d47.same (Same.X s83)
    replace d49 := d49.same (Same.X s83)
    replace d51 := d51.same (Same.X s83)
    replace d53 := d53.same (Same.X s83)
    replace d55 := d55.same (Same.X s83)
    replace d57 := d57.same (Same.X s83)
    replace a59 := DwAll.same (Same.X s83) a59
    replace a61 := DwAll.same (Same.X s83) a61
    replace d66 := d66.same (Same.X s83)
    replace d68 := d68.same (Same.X s83)
    replace d70 := d70.same (Same.X s83)
    replace d75 := d75.same (Same.X s83)
    replace a77 := DwAll.same (Same.X s83) a77
    replace a79 := DwAll.same (Same.X s83) a79
    replace d81 := d81.same (Same.X s83)
    have X84 := X82.trans (Same.X s83)
    have Q83 := Q81.same s83
    have d83 : Dw K p G83 (1 + 1) (V.ref t83) (.tuple [.str "set", .str "a", .tuple [.str "body"]]) := .tup (.cons (.str _ (by decide)) (.cons (.str _ (by decide)) (.cons (d81.mono (by omega)) .nil))) (by simp) o83 e83
    refine ⟨sz (by simp), fun t85 G85 f85 s85 e85 => ?_⟩
    have o85 := PenAt.off Q83 f85
    replace el35 := s85 _ _ el35
    replace el59 := s85 _ _ el59
    replace el61 := s85 _ _ el61
    replace el77 := s85 _ _ el77
    replace el79 := s85 _ _ el79
    replace d7 := d7.same (Same.X s85)
    replace d15 := d15.same (Same.X s85)
    replace d21 := d21.same (Same.X s85)
    replace d23 := d23.same (Same.X s85)
    replace d25 := d25.same (Same.X s85)
    replace d27 := d27.same (Same.X s85)
    replace d29 := d29.same (Same.X s85)
    replace d31 := d31.same (Same.X s85)
    replace d33 := d33.same (Same.X s85)
    replace a35 := DwAll.same (Same.X s85) a35
    replace d37 := d37.same (Same.X s85)
    replace d39 := d39.same (Same.X s85)
    replace d41 := d41.same (Same.X s85)
    replace d43 := d43.same (Same.X s85)
    replace d45 := d45.same (Same.X s85)
    replace d47 := d47.same (Same.X s85)
    replace d49 := d49.same (Same.X s85)
    replace d51 := d51.same (Same.X s85)
    replace d53 := d53.same (Same.X s85)
    replace d55 := d55.same (Same.X s85)
    replace d57 := d57.same (Same.X s85)
    replace a59 := DwAll.same (Same.X s85) a59
    replace a61 := DwAll.same (Same.X s85) a61
    replace d66 := d66.same (Same.X s85)
    replace d68 := d68.same (Same.X s85)
    replace d70 := d70.same (Same.X s85)
    replace d75 := d75.same (Same.X s85)
    replace a77 := DwAll.same (Same.X s85) a77
    replace a79 := DwAll.same (Same.X s85) a79
    replace d81 := d81.same (Same.X s85)
    replace d83 := d83.same (Same.X s85)
    have X86 := X84.trans (Same.X s85)
    have Q85 := Q83.same s85
    have d85 : Dw K p G85 (2 + 1) (V.ref t85) (.tuple [.tuple [.str "set", .str "a", .tuple [.str "body"]]]) := .tup (.cons (d83.mono (by omega)) .nil) (by simp) o85 e85
    have ce85 := e85
    refine ⟨_, rfl, ?_⟩
    refine ⟨sz (by simp), fun l87 G87 f87 n87 s87 e87 => ?_⟩
    replace el35 := s87 _ _ el35
    replace el59 := s87 _ _ el59
    replace el61 := s87 _ _ el61
    replace el77 := s87 _ _ el77
    replace el79 := s87 _ _ el79
    replace ce85 := s87 _ _ ce85
    replace d7 := d7.same (Same.X s87)
    replace d15 := d15.same (Same.X s87)
    replace d21 := d21.same (Same.X s87)
    replace d23 := d23.same (Same.X s87)
    replace d25 := d25.same (Same.X s87)
    replace d27 := d27.same (Same.X s87)
    replace d29 := d29.same (Same.X s87)
    replace d31 := d31.same (Same.X s87)
    replace d33 := d33.same (Same.X s87)
    replace a35 := DwAll.same (Same.X s87) a35
    replace d37 := d37.same (Same.X s87)
    replace d39 := d39.same (Same.X s87)
    replace d41 := d41.same (Same.X s87)
    replace d43 := d43.same (Same.X s87)
    replace d45 := d45.same (Same.X s87)
    replace d47 := d47.same (Same.X s87)
    replace d49 := d49.same (Same.X s87)
    replace d51 := d51.same (Same.X s87)
    replace d53 := d53.same (Same.X s87)
    replace d55 := d55.same (Same.X s87)
    replace d57 := d57.same (Same.X s87)
    replace a59 := DwAll.same (Same.X s87) a59
    replace a61 := DwAll.same (Same.X s87) a61
    replace d66 := d66.same (Same.X s87)
    replace d68 := d68.same (Same.X s87)
    replace d70 := d70.same (Same.X s87)
    replace d75 := d75.same (Same.X s87)
    replace a77 := DwAll.same (Same.X s87) a77
    replace a79 := DwAll.same (Same.X s87) a79
    replace d81 := d81.same (Same.X s87)
    replace d83 := d83.same (Same.X s87)
    replace d85 := d85.same (Same.X s87)
    have X88 := X86.trans (Same.X s87)
    have Q87 := Q85.same s87
    refine ⟨p, cc, ns, _, l87, _, rfl, Q87, hn, by omega, e87, by simp, by simp, fun v87 K87 hv87 P87 x87 => ?_⟩
    replace el35 := x87 _ _ (lst_off Q87 el35) el35
    replace el59 := x87 _ _ (lst_off Q87 el59) el59
    replace el61 := x87 _ _ (lst_off Q87 el61) el61
    replace el77 := x87 _ _ (lst_off Q87 el77) el77
    replace el79 := x87 _ _ (lst_off Q87 el79) el79
    replace ce85 := x87 _ _ o85 ce85
    replace d7 := d7.same x87
    replace d15 := d15.same x87
    replace d21 := d21.same x87
    replace d23 := d23.same x87
    replace d25 := d25.same x87
    replace d27 := d27.same x87
    replace d29 := d29.same x87
    replace d31 := d31.same x87
    replace d33 := d33.same x87
    replace a35 := DwAll.same x87 a35
    replace d37 := d37.same x87
    replace d39 := d39.same x87
    replace d41 := d41.same x87
    replace d43 := d43.same x87
    replace d45 := d45.same x87
    replace d47 := d47.same x87
    replace d49 := d49.same x87
    replace d51 := d51.same x87
    replace d53 := d53.same x87
    replace d55 := d55.same x87
    replace d57 := d57.same x87
    replace a59 := DwAll.same x87 a59
    replace a61 := DwAll.same x87 a61
    replace d66 := d66.same x87
    replace d68 := d68.same x87
    replace d70 := d70.same x87
    replace d75 := d75.same x87
    replace a77 := DwAll.same x87 a77
    replace a79 := DwAll.same x87 a79
    replace d81 := d81.same x87
    replace d83 := d83.same x87
    replace d85 := d85.same x87
    have X89 := X88.trans x87
    obtain ⟨m87, rfl, lo87, hi87⟩ : ∃ m : Nat, v87 = .int m ∧ 5 ≤ m ∧ m ≤ 6 := by
      simp only [List.mem_cons, List.not_mem_nil, or_false] at hv87
      rcases hv87 with e | e <;> exact ⟨_, e, by decide, by decide⟩
    refine ⟨_, _, _, rfl, rfl, SqT.of ce85, by simp, by omega, by omega, by simp, fun z => absurd z (by omega), fun _ t90 f90 => ?_⟩
    have o90 := PenAt.off P87 f90
    have s90 : Same K87 (upd K87 t90 (.tup (List.replicate ((m87 : Nat) : Int).toNat [V.ref t83]).flatten)) := Ab.same_up f90
    have e90 : (upd K87 t90 (.tup (List.replicate ((m87 : Nat) : Int).toNat [V.ref t83]).flatten)) t90 = some (.tup (List.replicate ((m87 : Nat) : Int).toNat [V.ref t83]).flatten) := upd_same
    generalize upd K87 t90 (.tup (List.replicate ((m87 : Nat) : Int).toNat [V.ref t83]).flatten) = G90 at s90 e90 ⊢
    replace el35 := s90 _ _ el35
    replace el59 := s90 _ _ el59
    replace el61 := s90 _ _ el61
    replace el77 := s90 _ _ el77
    replace el79 := s90 _ _ el79
    replace ce85 := s90 _ _ ce85
    replace d7 := d7.same (Same.X s90)
    replace d15 := d15.same (Same.X s90)
    replace d21 := d21.same (Same.X s90)
    replace d23 := d23.same (Same.X s90)
    replace d25 := d25.same (Same.X s90)
    replace d27 := d27.same (Same.X s90)
    replace d29 := d29.same (Same.X s90)
    replace d31 := d31.same (Same.X s90)
    replace d33 := d33.same (Same.X s90)
    replace a35 := DwAll.same (Same.X s90) a35
    replace d37 := d37.same (Same.X s90)
    replace d39 := d39.same (Same.X s90)
    replace d41 := d41.same (Same.X s90)
    replace d43 := d43.same (Same.X s90)
    replace d45 := d45.same (Same.X s90)
    replace d47 := d47.same (Same.X s90)
    replace d49 := d49.same (Same.X s90)
    replace d51 := d51.same (Same.X s90)
    replace d53 := d53.same (Same.X s90)
    replace d55 := d55.same (Same.X s90)
    replace d57 := d57.same (Same.X s90)
    replace a59 := DwAll.same (Same.X s90) a59
    replace a61 := DwAll.same (Same.X s90) a61
    replace d66 := d66.same (Same.X s90)
    replace d68 := d68.same (Same.X s90)
    replace d70 := d70.same (Same.X s90)
    replace d75 := d75.same (Same.X s90)
    replace a77 := DwAll.same (Same.X s90) a77
    replace a79 := DwAll.same (Same.X s90) a79
    replace d81 := d81.same (Same.X s90)
    replace d83 := d83.same (Same.X s90)
    replace d85 := d85.same (Same.X s90)
    have X91 := X89.trans (Same.X s90)
    have Q90 := P87.same s90
    have d90 : Dw K p G90 (2 + 1) (V.ref t90) (.tuple (List.replicate ((m87 : Nat) : Int).toNat [.tuple [.str "set", .str "a", .tuple [.str "body"]]]).flatten) := .tup (DwAll.rep d83 _) (by simp; omega) o90 e90
    refine ⟨_, rfl, .inl ⟨rfl, _, SqL.of el79⟩, ?_⟩
    refine ⟨_, rfl, ?_⟩
    refine ⟨_, rfl, ?_⟩
    refine ⟨_, rfl, ?_⟩
    refine ⟨sz (by simp), fun t92 G92 f92 s92 e92 => ?_⟩
    have o92 := PenAt.off Q90 f92
    replace el35 := s92 _ _ el35
    replace el59 := s92 _ _ el59
    replace el61 := s92 _ _ el61
    replace el77 := s92 _ _ el77
    replace el79 := s92 _ _ el79
    replace d7 := d7.same (Same.X s92)
    replace d15 := d15.same (Same.X s92)
    replace d21 := d21.same (Same.X s92)
    replace d23 := d23.same (Same.X s92)
    replace d25 := d25.same (Same.X s92)
    replace d27 := d27.same (Same.X s92)
    replace d29 := d29.same (Same.X s92)
    replace d31 := d31.same (Same.X s92)
    replace d33 := d33.same (Same.X s92)
    replace a35 := DwAll.same (Same.X s92) a35
    replace d37 := d37.same (Same.X s92)
    replace d39 := d39.same (Same.X s92)
    replace d41 := d41.same (Same.X s92)
    replace d43 := d43.same (Same.X s92)
    replace d45 := d45.same (Same.X s92)
    replace d47 := d47.same (Same.X s92)
    replace d49 := d49.same (Same.X s92)
    replace d51 := d51.same (Same.X s92)
    replace d53 := d53.same (Same.X s92)
    replace d55 := d55.same (Same.X s92)
    replace d57 := d57.same (Same.X s92)
    replace a59 := DwAll.same (Same.X s92) a59
    replace a61 := DwAll.same (Same.X s92) a61
    replace d66 := d66.same (Same.X s92)
    replace d68 := d68.same (Same.X s92)
    replace d70 := d70.same (Same.X s92)
    replace d75 := d75.same (Same.X s92)
    replace a77 := DwAll.same (Same.X s92) a77
    replace a79 := DwAll.same (Same.X s92) a79
    replace d81 := d81.same (Same.X s92)
    replace d83 := d83.same (Same.X s92)
    replace d85 := d85.same (Same.X s92)
    replace d90 := d90.same (Same.X s92)
    have X93 := X91.trans (Same.X s92)
    have Q92 := Q90.same s92
    have d92 : Dw K p G92 (12 + 1) (V.ref t92) (.tuple [.str "if", w15, .tuple (List.replicate ((m87 : Nat) : Int).toNat [.tuple [.str "set", .str "a", .tuple [.str "body"]]]).flatten, .tuple (List.replicate ((m87 : Nat) : Int).toNat [.tuple [.str "set", .str "a", .tuple [.str "body"]]]).flatten]) := .tup (.cons (.str _ (by decide)) (.cons (d15.mono (by omega)) (.cons (d90.mono (by omega)) (.cons (d90.mono (by omega)) .nil)))) (by simp) o92 e92
    refine ⟨sz (by simp), fun t94 G94 f94 s94 e94 => ?_⟩
    have o94 := PenAt.off Q92 f94
    replace el35 := s94 _ _ el35
    replace el59 := s94 _ _ el59
    replace el61 := s94 _ _ el61
    replace el77 := s94 _ _ el77
    replace el79 := s94 _ _ el79
    replace d7 := d7.same (Same.X s94)
    replace d15 := d15.same (Same.X s94)
    replace d21 := d21.same (Same.X s94)
    replace d23 := d23.same (Same.X s94)
    replace d25 := d25.same (Same.X s94)
    replace d27 := d27.same (Same.X s94)
    replace d29 := d29.same (Same.X s94)
    replace d31 := d31.same (Same.X s94)
    replace d33 := d33.same (Same.X s94)
    replace a35 := DwAll.same (Same.X s94) a35
    replace d37 := d37.same (Same.X s94)
    replace d39 := d39.same (Same.X s94)
    replace d41 := d41.same (Same.X s94)
    replace d43 := d43.same (Same.X s94)
    replace d45 := d45.same (Same.X s94)
    replace d47 := d47.same (Same.X s94)
    replace d49 := d49.same (Same.X s94)
    replace d51 := d51.same (Same.X s94)
    replace d53 := d53.same (Same.X s94)
    replace d55 := d55.same (Same.X s94)
    replace d57 := d57.same (Same.X s94)
    replace a59 := DwAll.same (Same.X s94) a59
    replace a61 := DwAll.same (Same.X s94) a61
    replace d66 := d66.same (Same.X s94)
    replace d68 := d68.same (Same.X s94)
    replace d70 := d70.same (Same.X s94)
    replace d75 := d75.same (Same.X s94)
    replace a77 := DwAll.same (Same.X s94) a77
    replace a79 := DwAll.same (Same.X s94) a79
    replace d81 := d81.same (Same.X s94)
    replace d83 := d83.same (Same.X s94)
    replace d85 := d85.same (Same.X s94)
    replace d90 := d90.same (Same.X s94)
    replace d92 := d92.same (Same.X s94)
    have X95 := X93.trans (Same.X s94)
    have Q94 := Q92.same s94
    have d94 : Dw K p G94 (13 + 1) (V.ref t94) (.tuple [.tuple [.str "if", w15, .tuple (List.replicate ((m87 : Nat) : Int).toNat [.tuple [.str "set", .str "a", .tuple [.str "body"]]]).flatten, .tuple (List.replicate ((m87 : Nat) : Int).toNat [.tuple [.str "set", .str "a", .tuple [.str "body"]]]).flatten]]) := .tup (.cons (d92.mono (by omega)) .nil) (by simp) o94 e94
    have ce94 := e94
    refine ⟨sz (by simp), fun t96 G96 f96 s96 e96 => ?_⟩
    have o96 := PenAt.off Q94 f96
    replace el35 := s96 _ _ el35
    replace el59 := s96 _ _ el59
    replace el61 := s96 _ _ el61
    replace el77 := s96 _ _ el77
    replace el79 := s96 _ _ el79
    replace ce94 := s96 _ _ ce94
    replace d7 := d7.same (Same.X s96)
    replace d15 := d15.same (Same.X s96)
    replace d21 := d21.same (Same.X s96)
    replace d23 := d23.same (Same.X s96)
    replace d25 := d25.same (Same.X s96)
    replace d27 := d27.same (Same.X s96)
    replace d29 := d29.same (Same.X s96)
    replace d31 := d31.same (Same.X s96)
    replace d33 := d33.same (Same.X s96)
    replace a35 := DwAll.same (Same.X s96) a35
    replace d37 := d37.same (Same.X s96)
    replace d39 := d39.same (Same.X s96)
    replace d41 := d41.same (Same.X s96)
    replace d43 := d43.same (Same.X s96)
    replace d45 := d45.same (Same.X s96)
    replace d47 := d47.same (Same.X s96)
    replace d49 := d49.same (Same.X s96)
    replace d51 := d51.same (Same.X s96)
    replace d53 := d53.same (Same.X s96)
    replace d55 := d55.same (Same.X s96)
    replace d57 := d57.same (Same.X s96)
    replace a59 := DwAll.same (Same.X s96) a59
    replace a61 := DwAll.same (Same.X s96) a61
    replace d66 := d66.same (Same.X s96)
    replace d68 := d68.same (Same.X s96)
    replace d70 := d70.same (Same.X s96)
    replace d75 := d75.same (Same.X s96)
    replace a77 := DwAll.same (Same.X s96) a77
    replace a79 := DwAll.same (Same.X s96) a79
    replace d81 := d81.same (Same.X s96)
    replace d83 := d83.same (Same.X s96)
    replace d85 := d85.same (Same.X s96)
    replace d90 := d90.same (Same.X s96)
    replace d92 := d92.same (Same.X s96)
    replace d94 := d94.same (Same.X s96)
    have X97 := X95.trans (Same.X s96)
    have Q96 := Q94.same s96
    have d96 : Dw K p G96 (0 + 1) (V.ref t96) (.tuple [.str "fail"]) := .tup (.cons (.str _ (by decide)) .nil) (by simp) o96 e96
    refine ⟨sz (by simp), fun t98 G98 f98 s98 e98 => ?_⟩
    have o98 := PenAt.off Q96 f98
    replace el35 := s98 _ _ el35
    replace el59 := s98 _ _ el59
    replace el61 := s98 _ _ el61
    replace el77 := s98 _ _ el77
    replace el79 := s98 _ _ el79
    replace ce94 := s98 _ _ ce94
    replace d7 := d7.same (Same.X s98)
    replace d15 := d15.same (Same.X s98)
    replace d21 := d21.same (Same.X s98)
    replace d23 := d23.same (Same.X s98)
    replace d25 := d25.same (Same.X s98)
    replace d27 := d27.same (Same.X s98)
    replace d29 := d29.same (Same.X s98)
    replace d31 := d31.same (Same.X s98)
    replace d33 := d33.same (Same.X s98)
    replace a35 := DwAll.same (Same.X s98) a35
    replace d37 := d37.same (Same.X s98)
    replace d39 := d39.same (Same.X s98)
    replace d41 := d41.same (Same.X s98)
    replace d43 := d43.same (Same.X s98)
    replace d45 := d45.same (Same.X s98)
    replace d47 := d47.same (Same.X s98)
    replace d49 := d49.same (Same.X s98)
    replace d51 := d51.same (Same.X s98)
    replace d53 := d53.same (Same.X s98)
    replace d55 := d55.same (Same.X s98)
    replace d57 := d57.same (Same.X s98)
    replace a59 := DwAll.same (Same.X s98) a59
    replace a61 := DwAll.same (Same.X s98) a61
    replace d66 := d66.same (Same.X s98)
    replace d68 := d68.same (Same.X s98)
    replace d70 := d70.same (Same.X s98)
    replace d75 := d75.same (Same.X s98)
    replace a77 := DwAll.same (Same.X s98) a77
    replace a79 := DwAll.same (Same.X s98) a79
    replace d81 := d81.same (Same.X s98)
    replace d83 := d83.same (Same.X s98)
    replace d85 := d85.same (Same.X s98)
    replace d90 := d90.same (Same.X s98)
    replace d92 := d92.same (Same.X s98)
    replace d94 := d94.same (Same.X s98)
    replace d96 := d96.same (Same.X s98)
    have X99 := X97.trans (Same.X s98)
    have Q98 := Q96.same s98
    have d98 : Dw K p G98 (1 + 1) (V.ref t98) (.tuple [.tuple [.str "fail"]]) := .tup (.cons (d96.mono (by omega)) .nil) (by simp) o98 e98
    have ce98 := e98
    refine ⟨_, rfl, p, cc, ns, _, 3, rfl, Q98, hn, by omega, by decide, by decide, fun r K100 r0 r3 P100 x100 => ?_⟩
    replace el35 := x100 _ _ (lst_off Q98 el35) el35
    replace el59 := x100 _ _ (lst_off Q98 el59) el59
    replace el61 := x100 _ _ (lst_off Q98 el61) el61
    replace el77 := x100 _ _ (lst_off Q98 el77) el77
    replace el79 := x100 _ _ (lst_off Q98 el79) el79
    replace ce94 := x100 _ _ o94 ce94
    replace ce98 := x100 _ _ o98 ce98
    replace d7 := d7.same x100
    replace d15 := d15.same x100
    replace d21 := d21.same x100
    replace d23 := d23.same x100
    replace d25 := d25.same x100
    replace d27 := d27.same x100
    replace d29 := d29.same x100
    replace d31 := d31.same x100
    replace d33 := d33.same x100
    replace a35 := DwAll.same x100 a35
    replace d37 := d37.same x100
    replace d39 := d39.same x100
    replace d41 := d41.same x100
    replace d43 := d43.same x100
    replace d45 := d45.same x100
    replace d47 := d47.same x100
    replace d49 := d49.same x100
    replace d51 := d51.same x100
    replace d53 := d53.same x100
    replace d55 := d55.same x100
    replace d57 := d57.same x100
    replace a59 := DwAll.same x100 a59
    replace a61 := DwAll.same x100 a61
    replace d66 := d66.same x100
    replace d68 := d68.same x100
    replace d70 := d70.same x100
    replace d75 := d75.same x100
    replace a77 := DwAll.same x100 a77
    replace a79 := DwAll.same x100 a79
    replace d81 := d81.same x100
    replace d83 := d83.same x100
    replace d85 := d85.same x100
    replace d90 := d90.same x100
    replace d92 := d92.same x100
    replace d94 := d94.same x100
    replace d96 := d96.same x100
    replace d98 := d98.same x100
    have X101 := X99.trans x100
    refine ⟨_, r, _, rfl, rfl, SqT.of ce98, by simp, r0, by omega, by simp, fun h1 => ?_, fun h1 t9 f9 => ?_⟩
    · refine ⟨_, _, _, _, rfl, rfl, SqT.of ce94, SqT.of ce98, sz (by simp), fun e => absurd e (by simp), fun _ e => absurd e (by simp), fun _ _ t8 f8 => ?_⟩
      have o102 := PenAt.off P100 f8
      have s102 : Same K100 (upd K100 t8 (.tup ([V.ref t92] ++ [V.ref t96]))) := Ab.same_up f8
      have e102 : (upd K100 t8 (.tup ([V.ref t92] ++ [V.ref t96]))) t8 = some (.tup ([V.ref t92] ++ [V.ref t96])) := upd_same
      generalize upd K100 t8 (.tup ([V.ref t92] ++ [V.ref t96])) = G102 at s102 e102 ⊢
      replace el35 := s102 _ _ el35
      replace el59 := s102 _ _ el59
      replace el61 := s102 _ _ el61
      replace el77 := s102 _ _ el77
      replace el79 := s102 _ _ el79
      replace ce94 := s102 _ _ ce94
      replace ce98 := s102 _ _ ce98
      replace d7 := d7.same (Same.X s102)
      replace d15 := d15.same (Same.X s102)
      replace d21 := d21.same (Same.X s102)
      replace d23 := d23.same (Same.X s102)
      replace d25 := d25.same (Same.X s102)
      replace d27 := d27.same (Same.X s102)
      replace d29 := d29.same (Same.X s102)
      replace d31 := d31.same (Same.X s102)
      replace d33 := d33.same (Same.X s102)
      replace a35 := DwAll.same (Same.X s102) a35
      replace d37 := d37.same (Same.X s102)
      replace d39 := d39.same (Same.X s102)
      replace d41 := d41.same (Same.X s102)
      replace d43 := d43.same (Same.X s102)
      replace d45 := d45.same (Same.X s102)
      replace d47 := d47.same (Same.X s102)
      replace d49 := d49.same (Same.X s102)
      replace d51 := d51.same (Same.X s102)
      replace d53 := d53.same (Same.X s102)
      replace d55 := d55.same (Same.X s102)
      replace d57 := d57.same (Same.X s102)
      replace a59 := DwAll.same (Same.X s102) a59
      replace a61 := DwAll.same (Same.X s102) a61
      replace d66 := d66.same (Same.X s102)
      replace d68 := d68.same (Same.X s102)
      replace d70 := d70.same (Same.X s102)
      replace d75 := d75.same (Same.X s102)
      replace a77 := DwAll.same (Same.X s102) a77
      replace a79 := DwAll.same (Same.X s102) a79
      replace d81 := d81.same (Same.X s102)
      replace d83 := d83.same (Same.X s102)
      replace d85 := d85.same (Same.X s102)
      replace d90 := d90.same (Same.X s102)
      replace d92 := d92.same (Same.X s102)
      replace d94 := d94.same (Same.X s102)
      replace d96 := d96.same (Same.X s102)
      replace d98 := d98.same (Same.X s102)
      have X103 := X101.trans (Same.X s102)
      have Q102 := P100.same s102
      have d102 : Dw K p G102 (21 + 1) (V.ref t8) (.tuple ([.tuple [.str "if", w15, .tuple (List.replicate ((m87 : Nat) : Int).toNat [.tuple [.str "set", .str "a", .tuple [.str "body"]]]).flatten, .tuple (List.replicate ((m87 : Nat) : Int).toNat [.tuple [.str "set", .str "a", .tuple [.str "body"]]]).flatten]] ++ [.tuple [.str "fail"]])) := .tup ((DwAll.cons (d92.mono (by omega)) .nil).app (.cons (d96.mono (by omega)) .nil)) (by simp <;> omega) o102 e102
      refine ⟨l79, _, _, rfl, rfl, el79, szl (by simp), ?_⟩
      have yl104 : SameY p l79 G102 (upd G102 l79 (.lst ((([V.ref t23, V.ref t27, V.ref t33] ++ [V.ref t43, V.ref t57]) ++ [v66, V.ref t75]) ++ [V.ref t8]))) := SameY.upd
      have b104 : DwAll K p G102 24 ((([V.ref t23, V.ref t27, V.ref t33] ++ [V.ref t43, V.ref t57]) ++ [v66, V.ref t75]) ++ [V.ref t8]) _ := a79.app (.cons (d102.mono (by omega)) .nil)
      have a104 := b104.put noT_lst el79 yl104
      replace d7 := d7.put noT_lst el79 yl104
      replace d15 := d15.put noT_lst el79 yl104
      replace d21 := d21.put noT_lst el79 yl104
      replace d23 := d23.put noT_lst el79 yl104
      replace d25 := d25.put noT_lst el79 yl104
      replace d27 := d27.put noT_lst el79 yl104
      replace d29 := d29.put noT_lst el79 yl104
      replace d31 := d31.put noT_lst el79 yl104
      replace d33 := d33.put noT_lst el79 yl104
      replace d37 := d37.put noT_lst el79 yl104
      replace d39 := d39.put noT_lst el79 yl104
      replace d41 := d41.put noT_lst el79 yl104
      replace d43 := d43.put noT_lst el79 yl104
      replace d45 := d45.put noT_lst el79 yl104
      replace d47 := d47.put noT_lst el79 yl104
      replace d49 := d49.put noT_lst el79 yl104
      replace d51 := d51.put noT_lst el79 yl104
      replace d53 := d53.put noT_lst el79 yl104
      replace d55 := d55.put noT_lst el79 yl104
      replace d57 := d57.put noT_lst el79 yl104
      replace d66 := d66.put noT_lst el79 yl104
      replace d68 := d68.put noT_lst el79 yl104
      replace d70 := d70.put noT_lst el79 yl104
      replace d75 := d75.put noT_lst el79 yl104
      replace d81 := d81.put noT_lst el79 yl104
      replace d83 := d83.put noT_lst el79 yl104
      replace d85 := d85.put noT_lst el79 yl104
      replace d90 := d90.put noT_lst el79 yl104
      replace d92 := d92.put noT_lst el79 yl104
      replace d94 := d94.put noT_lst el79 yl104
      replace d96 := d96.put noT_lst el79 yl104
      replace d98 := d98.put noT_lst el79 yl104
      replace d102 := d102.put noT_lst el79 yl104
      have Q104 := PenAt.upl Q102 lp79 nc79 (o := (.lst ((([V.ref t23, V.ref t27, V.ref t33] ++ [V.ref t43, V.ref t57]) ++ [v66, V.ref t75]) ++ [V.ref t8])))
      have X104x : SameX p H (upd G102 l79 (.lst ((([V.ref t23, V.ref t27, V.ref t33] ++ [V.ref t43, V.ref t57]) ++ [v66, V.ref t75]) ++ [V.ref t8]))) := fun x o n hx => (upd_ne (ne_of_none hx fr79)).trans (X103 x o n hx)
      have el104 : (upd G102 l79 (.lst ((([V.ref t23, V.ref t27, V.ref t33] ++ [V.ref t43, V.ref t57]) ++ [v66, V.ref t75]) ++ [V.ref t8]))) l79 = some (.lst ((([V.ref t23, V.ref t27, V.ref t33] ++ [V.ref t43, V.ref t57]) ++ [v66, V.ref t75]) ++ [V.ref t8])) := upd_same
      generalize upd G102 l79 (.lst ((([V.ref t23, V.ref t27, V.ref t33] ++ [V.ref t43, V.ref t57]) ++ [v66, V.ref t75]) ++ [V.ref t8])) = G104 at a104 Q104 X104x el104 d7 d15 d21 d23 d25 d27 d29 d31 d33 d37 d39 d41 d43 d45 d47 d49 d51 d53 d55 d57 d66 d68 d70 d75 d81 d83 d85 d90 d92 d94 d96 d98 d102 ⊢
      refine ⟨_, rfl, .inl ⟨rfl, _, SqL.of el104⟩, ?_⟩
      refine ⟨_, rfl, ?_⟩
      refine ⟨_, rfl, ?_⟩
      refine ⟨_, rfl, ?_⟩
      refine ⟨sz (by simp), fun l105 G105 f105 n105 s105 e105 => ?_⟩
      replace el104 := s105 _ _ el104
      replace d7 := d7.same (Same.X s105)
      replace d15 := d15.same (Same.X s105)
      replace d21 := d21.same (Same.X s105)
      replace d23 := d23.same (Same.X s105)
      replace d25 := d25.same (Same.X s105)
      replace d27 := d27.same (Same.X s105)
      replace d29 := d29.same (Same.X s105)
      replace d31 := d31.same (Same.X s105)
      replace d33 := d33.same (Same.X s105)
      replace d37 := d37.same (Same.X s105)
      replace d39 := d39.same (Same.X s105)
      replace d41 := d41.same (Same.X s105)
      replace d43 := d43.same (Same.X s105)
      replace d45 := d45.same (Same.X s105)
      replace d47 := d47.same (Same.X s105)
      replace d49 := d49.same (Same.X s105)
      replace d51 := d51.same (Same.X s105)
      replace d53 := d53.same (Same.X s105)
      replace d55 := d55.same (Same.X s105)
      replace d57 := d57.same (Same.X s105)
      replace d66 := d66.same (Same.X s105)
      replace d68 := d68.same (Same.X s105)
      replace d70 := d70.same (Same.X s105)
      replace d75 := d75.same (Same.X s105)
      replace d81 := d81.same (Same.X s105)
      replace d83 := d83.same (Same.X s105)
      replace d85 := d85.same (Same.X s105)
      replace d90 := d90.same (Same.X s105)
      replace d92 := d92.same (Same.X s105)
      replace d94 := d94.same (Same.X s105)
      replace d96 := d96.same (Same.X s105)
      replace d98 := d98.same (Same.X s105)
      replace d102 := d102.same (Same.X s105)
      replace a104 := DwAll.same (Same.X s105) a104
      have X106 := X104x.trans (Same.X s105)
      have Q105 := Q104.same s105
      refine ⟨p, cc, ns, _, l105, _, rfl, Q105, hn, by omega, e105, by simp, by simp, fun v105 K105 hv105 P105 x105 => ?_⟩
      replace el104 := x105 _ _ (lst_off Q105 el104) el104
      replace d7 := d7.same x105
      replace d15 := d15.same x105
      replace d21 := d21.same x105
      replace d23 := d23.same x105
      replace d25 := d25.same x105
      replace d27 := d27.same x105
      replace d29 := d29.same x105
      replace d31 := d31.same x105
      replace d33 := d33.same x105
      replace d37 := d37.same x105
      replace d39 := d39.same x105
      replace d41 := d41.same x105
      replace d43 := d43.same x105
      replace d45 := d45.same x105
      replace d47 := d47.same x105
      replace d49 := d49.same x105
      replace d51 := d51.same x105
      replace d53 := d53.same x105
      replace d55 := d55.same x105
      replace d57 := d57.same x105
      replace d66 := d66.same x105
      replace d68 := d68.same x105
      replace d70 := d70.same x105
      replace d75 := d75.same x105
      replace d81 := d81.same x105
      replace d83 := d83.same x105
      replace d85 := d85.same x105
      replace d90 := d90.same x105
      replace d92 := d92.same x105
      replace d94 := d94.same x105
      replace d96 := d96.same x105
      replace d98 := d98.same x105
      replace d102 := d102.same x105
      replace a104 := DwAll.same x105 a104
      have X107 := X106.trans x105
      obtain ⟨w105, d105⟩ : ∃ w, Dw K p K105 0 v105 w := by
        simp only [List.mem_cons, List.not_mem_nil, or_false] at hv105
        rcases hv105 with e | e | e | e | e | e
        · rw [e]
          exact ⟨_, .int _⟩
        · rw [e]
          exact ⟨_, .int _⟩
        · rw [e]
          exact ⟨_, .int _⟩
        · rw [e]
          exact ⟨_, .int _⟩
        · rw [e]
          exact ⟨_, Dw.bl true⟩
        · rw [e]
          exact ⟨_, .non⟩
      refine ⟨sz (by simp), fun t108 G108 f108 s108 e108 => ?_⟩
      have o108 := PenAt.off P105 f108
      replace el104 := s108 _ _ el104
      replace d7 := d7.same (Same.X s108)
      replace d15 := d15.same (Same.X s108)
      replace d21 := d21.same (Same.X s108)
      replace d23 := d23.same (Same.X s108)
      replace d25 := d25.same (Same.X s108)
      replace d27 := d27.same (Same.X s108)
      replace d29 := d29.same (Same.X s108)
      replace d31 := d31.same (Same.X s108)
      replace d33 := d33.same (Same.X s108)
      replace d37 := d37.same (Same.X s108)
      replace d39 := d39.same (Same.X s108)
      replace d41 := d41.same (Same.X s108)
      replace d43 := d43.same (Same.X s108)
      replace d45 := d45.same (Same.X s108)
      replace d47 := d47.same (Same.X s108)
      replace d49 := d49.same (Same.X s108)
      replace d51 := d51.same (Same.X s108)
      replace d53 := d53.same (Same.X s108)
      replace d55 := d55.same (Same.X s108)
      replace d57 := d57.same (Same.X s108)
      replace d66 := d66.same (Same.X s108)
      replace d68 := d68.same (Same.X s108)
      replace d70 := d70.same (Same.X s108)
      replace d75 := d75.same (Same.X s108)
      replace d81 := d81.same (Same.X s108)
      replace d83 := d83.same (Same.X s108)
      replace d85 := d85.same (Same.X s108)
      replace d90 := d90.same (Same.X s108)
      replace d92 := d92.same (Same.X s108)
      replace d94 := d94.same (Same.X s108)
      replace d96 := d96.same (Same.X s108)
      replace d98 := d98.same (Same.X s108)
      replace d102 := d102.same (Same.X s108)
      replace a104 := DwAll.same (Same.X s108) a104
      replace d105 := d105.same (Same.X s108)
      have X109 := X107.trans (Same.X s108)
      have Q108 := P105.same s108
      have d108 : Dw K p G108 (0 + 1) (V.ref t108) (.tuple [.str "value", w105]) := .tup (.cons (.str _ (by decide)) (.cons (d105.mono (by omega)) .nil)) (by simp) o108 e108
      refine ⟨sz (by simp), fun t110 G110 f110 s110 e110 => ?_⟩
      have o110 := PenAt.off Q108 f110
      replace el104 := s110 _ _ el104
      replace d7 := d7.same (Same.X s110)
      replace d15 := d15.same (Same.X s110)
      replace d21 := d21.same (Same.X s110)
      replace d23 := d23.same (Same.X s110)
      replace d25 := d25.same (Same.X s110)
      replace d27 := d27.same (Same.X s110)
      replace d29 := d29.same (Same.X s110)
      replace d31 := d31.same (Same.X s110)
      replace d33 := d33.same (Same.X s110)
      replace d37 := d37.same (Same.X s110)
      replace d39 := d39.same (Same.X s110)
      replace d41 := d41.same (Same.X s110)
      replace d43 := d43.same (Same.X s110)
      replace d45 := d45.same (Same.X s110)
      replace d47 := d47.same (Same.X s110)
      replace d49 := d49.same (Same.X s110)
      replace d51 := d51.same (Same.X s110)
      replace d53 := d53.same (Same.X s110)
      replace d55 := d55.same (Same.X s110)
      replace d57 := d57.same (Same.X s110)
      replace d66 := d66.same (Same.X s110)
      replace d68 := d68.same (Same.X s110)
      replace d70 := d70.same (Same.X s110)
      replace d75 := d75.same (Same.X s110)
      replace d81 := d81.same (Same.X s110)
      replace d83 := d83.same (Same.X s110)
      replace d85 := d85.same (Same.X s110)
      replace d90 := d90.same (Same.X s110)
      replace d92 := d92.same (Same.X s110)
      replace d94 := d94.same (Same.X s110)
      replace d96 := d96.same (Same.X s110)
      replace d98 := d98.same (Same.X s110)
      replace d102 := d102.same (Same.X s110)
      replace a104 := DwAll.same (Same.X s110) a104
      replace d105 := d105.same (Same.X s110)
      replace d108 := d108.same (Same.X s110)
      have X111 := X109.trans (Same.X s110)
      have Q110 := Q108.same s110
      have d110 : Dw K p G110 (1 + 1) (V.ref t110) (.tuple [.str "set", .str "a", .tuple [.str "value", w105]]) := .tup (.cons (.str _ (by decide)) (.cons (.str _ (by decide)) (.cons (d108.mono (by omega)) .nil))) (by simp) o110 e110
      refine ⟨sz (by simp), fun t112 G112 f112 s112 e112 => ?_⟩
      have o112 := PenAt.off Q110 f112
      replace el104 := s112 _ _ el104
      replace d7 := d7.same (Same.X s112)
      replace d15 := d15.same (Same.X s112)
      replace d21 := d21.same (Same.X s112)
      replace d23 := d23.same (Same.X s112)
      replace d25 := d25.same (Same.X s112)
      replace d27 := d27.same (Same.X s112)
      replace d29 := d29.same (Same.X s112)
      replace d31 := d31.same (Same.X s112)
      replace d33 := d33.same (Same.X s112)
      replace d37 := d37.same (Same.X s112)
      replace d39 := d39.same (Same.X s112)
      replace d41 := d41.same (Same.X s112)
      replace d43 := d43.same (Same.X s112)
      replace d45 := d45.same (Same.X s112)
      replace d47 := d47.same (Same.X s112)
      replace d49 := d49.same (Same.X s112)
      replace d51 := d51.same (Same.X s112)
      replace d53 := d53.same (Same.X s112)
      replace d55 := d55.same (Same.X s112)
      replace d57 := d57.same (Same.X s112)
      replace d66 := d66.same (Same.X s112)
      replace d68 := d68.same (Same.X s112)
      replace d70 := d70.same (Same.X s112)
      replace d75 := d75.same (Same.X s112)
      replace d81 := d81.same (Same.X s112)
      replace d83 := d83.same (Same.X s112)
      replace d85 := d85.same (Same.X s112)
      replace d90 := d90.same (Same.X s112)
      replace d92 := d92.same (Same.X s112)
      replace d94 := d94.same (Same.X s112)
      replace d96 := d96.same (Same.X s112)
      replace d98 := d98.same (Same.X s112)
      replace d102 := d102.same (Same.X s112)
      replace a104 := DwAll.same (Same.X s112) a104
      replace d105 := d105.same (Same.X s112)
      replace d108 := d108.same (Same.X s112)
      replace d110 := d110.same (Same.X s112)
      have X113 := X111.trans (Same.X s112)
      have Q112 := Q110.same s112
      have d112 : Dw K p G112 (2 + 1) (V.ref t112) (.tuple [.tuple [.str "set", .str "a", .tuple [.str "value", w105]]]) := .tup (.cons (d110.mono (by omega)) .nil) (by simp) o112 e112
      refine ⟨l79, _, _, rfl, rfl, el104, szl (by simp), ?_⟩
      have yl114 : SameY p l79 G112 (upd G112 l79 (.lst (((([V.ref t23, V.ref t27, V.ref t33] ++ [V.ref t43, V.ref t57]) ++ [v66, V.ref t75]) ++ [V.ref t8]) ++ [V.ref t112]))) := SameY.upd
      have b114 : DwAll K p G112 24 (((([V.ref t23, V.ref t27, V.ref t33] ++ [V.ref t43, V.ref t57]) ++ [v66, V.ref t75]) ++ [V.ref t8]) ++ [V.ref t112]) _ := a104.app (.cons (d112.mono (by omega)) .nil)
      have a114 := b114.put noT_lst el104 yl114
      replace d7 := d7.put noT_lst el104 yl114
      replace d15 := d15.put noT_lst el104 yl114
      replace d21 := d21.put noT_lst el104 yl114
      replace d23 := d23.put noT_lst el104 yl114
      replace d25 := d25.put noT_lst el104 yl114
      replace d27 := d27.put noT_lst el104 yl114
      replace d29 := d29.put noT_lst el104 yl114
      replace d31 := d31.put noT_lst el104 yl114
      replace d33 := d33.put noT_lst el104 yl114
      replace d37 := d37.put noT_lst el104 yl114
      replace d39 := d39.put noT_lst el104 yl114
      replace d41 := d41.put noT_lst el104 yl114
      replace d43 := d43.put noT_lst el104 yl114
      replace d45 := d45.put noT_lst el104 yl114
      replace d47 := d47.put noT_lst el104 yl114
      replace d49 := d49.put noT_lst el104 yl114
      replace d51 := d51.put noT_lst el104 yl114
      replace d53 := d53.put noT_lst el104 yl114
      replace d55 := d55.put noT_lst el104 yl114
      replace d57 := d57.put noT_lst el104 yl114
      replace d66 := d66.put noT_lst el104 yl114
      replace d68 := d68.put noT_lst el104 yl114
      replace d70 := d70.put noT_lst el104 yl114
      replace d75 := d75.put noT_lst el104 yl114
      replace d81 := d81.put noT_lst el104 yl114
      replace d83 := d83.put noT_lst el104 yl114
      replace d85 := d85.put noT_lst el104 yl114
      replace d90 := d90.put noT_lst el104 yl114
      replace d92 := d92.put noT_lst el104 yl114
      replace d94 := d94.put noT_lst el104 yl114
      replace d96 := d96.put noT_lst el104 yl114
      replace d98 := d98.put noT_lst el104 yl114
      replace d102 := d102.put noT_lst el104 yl114
      replace d105 := d105.put noT_lst el104 yl114
      replace d108 := d108.put noT_lst el104 yl114
      replace d110 := d110.put noT_lst el104 yl114
      replace d112 := d112.put noT_lst el104 yl114
      have Q114 := PenAt.upl Q112 lp79 nc79 (o := (.lst (((([V.ref t23, V.ref t27, V.ref t33] ++ [V.ref t43, V.ref t57]) ++ [v66, V.ref t75]) ++ [V.ref t8]) ++ [V.ref t112])))
      have X114x : SameX p H (upd G112 l79 (.lst (((([V.ref t23, V.ref t27, V.ref t33] ++ [V.ref t43, V.ref t57]) ++ [v66, V.ref t75]) ++ [V.ref t8]) ++ [V.ref t112]))) := fun x o n hx => (upd_ne (ne_of_none hx fr79)).trans (X113 x o n hx)
      have el114 : (upd G112 l79 (.lst (((([V.ref t23, V.ref t27, V.ref t33] ++ [V.ref t43, V.ref t57]) ++ [v66, V.ref t75]) ++ [V.ref t8]) ++ [V.ref t112]))) l79 = some (.lst (((([V.ref t23, V.ref t27, V.ref t33] ++ [V.ref t43, V.ref t57]) ++ [v66, V.ref t75]) ++ [V.ref t8]) ++ [V.ref t112])) := upd_same
      generalize upd G112 l79 (.lst (((([V.ref t23, V.ref t27, V.ref t33] ++ [V.ref t43, V.ref t57]) ++ [v66, V.ref t75]) ++ [V.ref t8]) ++ [V.ref t112])) = G114 at a114 Q114 X114x el114 d7 d15 d21 d23 d25 d27 d29 d31 d33 d37 d39 d41 d43 d45 d47 d49 d51 d53 d55 d57 d66 d68 d70 d75 d81 d83 d85 d90 d92 d94 d96 d98 d102 d105 d108 d110 d112 ⊢
      refine ⟨_, rfl, _, rfl, p, cc, ns, _, l79, _, rfl, Q114, hn, by omega, el114, by simp, by simp, fun vz Hz hz Pz xz => ?_⟩
      obtain ⟨dz, wz⟩ := (DwAll.same xz a114).mem hz
      exact k vz dz Hz wz (Pz.mono (by omega)) (X114x.trans xz)
    · have o102 := PenAt.off P100 f9
      have s102 : Same K100 (upd K100 t9 (.tup (List.replicate r.toNat [V.ref t96]).flatten)) := Ab.same_up f9
      have e102 : (upd K100 t9 (.tup (List.replicate r.toNat [V.ref t96]).flatten)) t9 = some (.tup (List.replicate r.toNat [V.ref t96]).flatten) := upd_same
      generalize upd K100 t9 (.tup (List.replicate r.toNat [V.ref t96]).flatten) = G102 at s102 e102 ⊢
      replace el35 := s102 _ _ el35
      replace el59 := s102 _ _ el59
      replace el61 := s102 _ _ el61
      replace el77 := s102 _ _ el77
      replace el79 := s102 _ _ el79
      replace ce94 := s102 _ _ ce94
      replace ce98 := s102 _ _ ce98
      replace d7 := d7.same (Same.X s102)
      replace d15 := d15.same (Same.X s102)
      replace d21 := d21.same (Same.X s102)
      replace d23 := d23.same (Same.X s102)
      replace d25 := d25.same (Same.X s102)
      replace d27 := d27.same (Same.X s102)
      replace d29 := d29.same (Same.X s102)
      replace d31 := d31.same (Same.X s102)
      replace d33 := d33.same (Same.X s102)
      replace a35 := DwAll.same (Same.X s102) a35
      replace d37 := d37.same (Same.X s102)
      replace d39 := d39.same (Same.X s102)
      replace d41 := d41.same (Same.X s102)
      replace d43 := d43.same (Same.X s102)
      replace d45 := d45.same (Same.X s102)
      replace d47 := d47.same (Same.X s102)
      replace d49 := d49.same (Same.X s102)
      replace d51 := d51.same (Same.X s102)
      replace d53 := d53.same (Same.X s102)
      replace d55 := d55.same (Same.X s102)
      replace d57 := d57.same (Same.X s102)
      replace a59 := DwAll.same (Same.X s102) a59
      replace a61 := DwAll.same (Same.X s102) a61
      replace d66 := d66.same (Same.X s102)
      replace d68 := d68.same (Same.X s102)
      replace d70 := d70.same (Same.X s102)
      replace d75 := d75.same (Same.X s102)
      replace a77 := DwAll.same (Same.X s102) a77
      replace a79 := DwAll.same (Same.X s102) a79
      replace d81 := d81.same (Same.X s102)
      replace d83 := d83.same (Same.X s102)
      replace d85 := d85.same (Same.X s102)
      replace d90 := d90.same (Same.X s102)
      replace d92 := d92.same (Same.X s102)
      replace d94 := d94.same (Same.X s102)
      replace d96 := d96.same (Same.X s102)
      replace d98 := d98.same (Same.X s102)
      have X103 := X101.trans (Same.X s102)
      have Q102 := P100.same s102
      refine ⟨_, _, _, _, rfl, rfl, SqT.of ce94, SqT.of e102, sz (by simp; omega), fun e => absurd e (by simp), fun _ _ => ?_, fun _ _ t8 f8 => ?_⟩
      · refine ⟨l79, _, _, rfl, rfl, el79, szl (by simp), ?_⟩
        have yl104 : SameY p l79 G102 (upd G102 l79 (.lst ((([V.ref t23, V.ref t27, V.ref t33] ++ [V.ref t43, V.ref t57]) ++ [v66, V.ref t75]) ++ [V.ref t94]))) := SameY.upd
        have b104 : DwAll K p G102 24 ((([V.ref t23, V.ref t27, V.ref t33] ++ [V.ref t43, V.ref t57]) ++ [v66, V.ref t75]) ++ [V.ref t94]) _ := a79.app (.cons (d94.mono (by omega)) .nil)
        have a104 := b104.put noT_lst el79 yl104
        replace d7 := d7.put noT_lst el79 yl104
        replace d15 := d15.put noT_lst el79 yl104
        replace d21 := d21.put noT_lst el79 yl104
        replace d23 := d23.put noT_lst el79 yl104
        replace d25 := d25.put noT_lst el79 yl104
        replace d27 := d27.put noT_lst el79 yl104
        replace d29 := d29.put noT_lst el79 yl104
        replace d31 := d31.put noT_lst el79 yl104
        replace d33 := d33.put noT_lst el79 yl104
        replace d37 := d37.put noT_lst el79 yl104
        replace d39 := d39.put noT_lst el79 yl104
        replace d41 := d41.put noT_lst el79 yl104
        replace d43 := d43.put noT_lst el79 yl104
        replace d45 := d45.put noT_lst el79 yl104
        replace d47 := d47.put noT_lst el79 yl104
        replace d49 := d49.put noT_lst el79 yl104
        replace d51 := d51.put noT_lst el79 yl104
        replace d53 := d53.put noT_lst el79 yl104
        replace d55 := d55.put noT_lst el79 yl104
        replace d57 := d57.put noT_lst el79 yl104
        replace d66 := d66.put noT_lst el79 yl104
        replace d68 := d68.put noT_lst el79 yl104
        replace d70 := d70.put noT_lst el79 yl104
        replace d75 := d75.put noT_lst el79 yl104
        replace d81 := d81.put noT_lst el79 yl104
        replace d83 := d83.put noT_lst el79 yl104
        replace d85 := d85.put noT_lst el79 yl104
        replace d90 := d90.put noT_lst el79 yl104
        replace d92 := d92.put noT_lst el79 yl104
        replace d94 := d94.put noT_lst el79 yl104
        replace d96 := d96.put noT_lst el79 yl104
        replace d98 := d98.put noT_lst el79 yl104
        have Q104 := PenAt.upl Q102 lp79 nc79 (o := (.lst ((([V.ref t23, V.ref t27, V.ref t33] ++ [V.ref t43, V.ref t57]) ++ [v66, V.ref t75]) ++ [V.ref t94])))
        have X104x : SameX p H (upd G102 l79 (.lst ((([V.ref t23, V.ref t27, V.ref t33] ++ [V.ref t43, V.ref t57]) ++ [v66, V.ref t75]) ++ [V.ref t94]))) := fun x o n hx => (upd_ne (ne_of_none hx fr79)).trans (X103 x o n hx)
        have el104 : (upd G102 l79 (.lst ((([V.ref t23, V.ref t27, V.ref t33] ++ [V.ref t43, V.ref t57]) ++ [v66, V.ref t75]) ++ [V.ref t94]))) l79 = some (.lst ((([V.ref t23, V.ref t27, V.ref t33] ++ [V.ref t43, V.ref t57]) ++ [v66, V.ref t75]) ++ [V.ref t94])) := upd_same
        generalize upd G102 l79 (.lst ((([V.ref t23, V.ref t27, V.ref t33] ++ [V.ref t43, V.ref t57]) ++ [v66, V.ref t75]) ++ [V.ref t94])) = G104 at a104 Q104 X104x el104 d7 d15 d21 d23 d25 d27 d29 d31 d33 d37 d39 d41 d43 d45 d47 d49 d51 d53 d55 d57 d66 d68 d70 d75 d81 d83 d85 d90 d92 d94 d96 d98 ⊢
        refine ⟨_, rfl, .inl ⟨rfl, _, SqL.of el104⟩, ?_⟩
        refine ⟨_, rfl, ?_⟩
        refine ⟨_, rfl, ?_⟩
        refine ⟨_, rfl, ?_⟩
        refine ⟨sz (by simp), fun l105 G105 f105 n105 s105 e105 => ?_⟩
        replace el104 := s105 _ _ el104
        replace d7 := d7.same (Same.X s105)
        replace d15 := d15.same (Same.X s105)
        replace d21 := d21.same (Same.X s105)
        replace d23 := d23.same (Same.X s105)
        replace d25 := d25.same (Same.X s105)
        replace d27 := d27.same (Same.X s105)
        replace d29 := d29.same (Same.X s105)
        replace d31 := d31.same (Same.X s105)
        replace d33 := d33.same (Same.X s105)
        replace d37 := d37.same (Same.X s105)
        replace d39 := d39.same (Same.X s105)
        replace d41 := d41.same (Same.X s105)
        replace d43 := d43.same (Same.X s105)
        replace d45 := d45.same (Same.X s105)
        replace d47 := d47.same (Same.X s105)
        replace d49 := d49.same (Same.X s105)
        replace d51 := d51.same (Same.X s105)
        replace d53 := d53.same (Same.X s105)
        replace d55 := d55.same (Same.X s105)
        replace d57 := d57.same (Same.X s105)
        replace d66 := d66.same (Same.X s105)
        replace d68 := d68.same (Same.X s105)
        replace d70 := d70.same (Same.X s105)
        replace d75 := d75.same (Same.X s105)
        replace d81 := d81.same (Same.X s105)
        replace d83 := d83.same (Same.X s105)
        replace d85 := d85.same (Same.X s105)
        replace d90 := d90.same (Same.X s105)
        replace d92 := d92.same (Same.X s105)
        replace d94 := d94.same (Same.X s105)
        replace d96 := d96.same (Same.X s105)
        replace d98 := d98.same (Same.X s105)
        replace a104 := DwAll.same (Same.X s105) a104
        have X106 := X104x.trans (Same.X s105)
        have Q105 := Q104.same s105
        refine ⟨p, cc, ns, _, l105, _, rfl, Q105, hn, by omega, e105, by simp, by simp, fun v105 K105 hv105 P105 x105 => ?_⟩
        replace el104 := x105 _ _ (lst_off Q105 el104) el104
        replace d7 := d7.same x105
        replace d15 := d15.same x105
        replace d21 := d21.same x105
        replace d23 := d23.same x105
        replace d25 := d25.same x105
        replace d27 := d27.same x105
        replace d29 := d29.same x105
        replace d31 := d31.same x105
        replace d33 := d33.same x105
        replace d37 := d37.same x105
        replace d39 := d39.same x105
        replace d41 := d41.same x105
        replace d43 := d43.same x105
        replace d45 := d45.same x105
        replace d47 := d47.same x105
        replace d49 := d49.same x105
        replace d51 := d51.same x105
        replace d53 := d53.same x105
        replace d55 := d55.same x105
        replace d57 := d57.same x105
        replace d66 := d66.same x105
        replace d68 := d68.same x105
        replace d70 := d70.same x105
        replace d75 := d75.same x105
        replace d81 := d81.same x105
        replace d83 := d83.same x105
        replace d85 := d85.same x105
        replace d90 := d90.same x105
        replace d92 := d92.same x105
        replace d94 := d94.same x105
        replace d96 := d96.same x105
        replace d98 := d98.same x105
        replace a104 := DwAll.same x105 a104
        have X107 := X106.trans x105
        obtain ⟨w105, d105⟩ : ∃ w, Dw K p K105 0 v105 w := by
          simp only [List.mem_cons, List.not_mem_nil, or_false] at hv105
          rcases hv105 with e | e | e | e | e | e
          · rw [e]
            exact ⟨_, .int _⟩
          · rw [e]
            exact ⟨_, .int _⟩
          · rw [e]
            exact ⟨_, .int _⟩
          · rw [e]
            exact ⟨_, .int _⟩
          · rw [e]
            exact ⟨_, Dw.bl true⟩
          · rw [e]
            exact ⟨_, .non⟩
        refine ⟨sz (by simp), fun t108 G108 f108 s108 e108 => ?_⟩
        have o108 := PenAt.off P105 f108
        replace el104 := s108 _ _ el104
        replace d7 := d7.same (Same.X s108)
        replace d15 := d15.same (Same.X s108)
        replace d21 := d21.same (Same.X s108)
        replace d23 := d23.same (Same.X s108)
        replace d25 := d25.same (Same.X s108)
        replace d27 := d27.same (Same.X s108)
        replace d29 := d29.same (Same.X s108)
        replace d31 := d31.same (Same.X s108)
        replace d33 := d33.same (Same.X s108)
        replace d37 := d37.same (Same.X s108)
        replace d39 := d39.same (Same.X s108)
        replace d41 := d41.same (Same.X s108)
        replace d43 := d43.same (Same.X s108)
        replace d45 := d45.same (Same.X s108)
        replace d47 := d47.same (Same.X s108)
        replace d49 := d49.same (Same.X s108)
        replace d51 := d51.same (Same.X s108)
        replace d53 := d53.same (Same.X s108)
        replace d55 := d55.same (Same.X s108)
        replace d57 := d57.same (Same.X s108)
        replace d66 := d66.same (Same.X s108)
        replace d68 := d68.same (Same.X s108)
        replace d70 := d70.same (Same.X s108)
        replace d75 := d75.same (Same.X s108)
        replace d81 := d81.same (Same.X s108)
        replace d83 := d83.same (Same.X s108)
        replace d85 := d85.same (Same.X s108)
        replace d90 := d90.same (Same.X s108)
        replace d92 := d92.same (Same.X s108)
        replace d94 := d94.same (Same.X s108)
        replace d96 := d96.same (Same.X s108)
        replace d98 := d98.same (Same.X s108)
        replace a104 := DwAll.same (Same.X s108) a104
        replace d105 := d105.same (Same.X s108)
        have X109 := X107.trans (Same.X s108)
        have Q108 := P105.same s108
        have d108 : Dw K p G108 (0 + 1) (V.ref t108) (.tuple [.str "value", w105]) := .tup (.cons (.str _ (by decide)) (.cons (d105.mono (by omega)) .nil)) (by simp) o108 e108
        refine ⟨sz (by simp), fun t110 G110 f110 s110 e110 => ?_⟩
        have o110 := PenAt.off Q108 f110
        replace el104 := s110 _ _ el104
        replace d7 := d7.same (Same.X s110)
        replace d15 := d15.same (Same.X s110)
        replace d21 := d21.same (Same.X s110)
        replace d23 := d23.same (Same.X s110)
        replace d25 := d25.same (Same.X s110)
        replace d27 := d27.same (Same.X s110)
        replace d29 := d29.same (Same.X s110)
        replace d31 := d31.same (Same.X s110)
        replace d33 := d33.same (Same.X s110)
        replace d37 := d37.same (Same.X s110)
        replace d39 := d39.same (Same.X s110)
        replace d41 := d41.same (Same.X s110)
        replace d43 := d43.same (Same.X s110)
        replace d45 := d45.same (Same.X s110)
        replace d47 := d47.same (Same.X s110)
        replace d49 := d49.same (Same.X s110)
        replace d51 := d51.same (Same.X s110)
        replace d53 := d53.same (Same.X s110)
        replace d55 := d55.same (Same.X s110)
        replace d57 := d57.same (Same.X s110)
        replace d66 := d66.same (Same.X s110)
        replace d68 := d68.same (Same.X s110)
        replace d70 := d70.same (Same.X s110)
        replace d75 := d75.same (Same.X s110)
        replace d81 := d81.same (Same.X s110)
        replace d83 := d83.same (Same.X s110)
        replace d85 := d85.same (Same.X s110)
        replace d90 := d90.same (Same.X s110)
        replace d92 := d92.same (Same.X s110)
        replace d94 := d94.same (Same.X s110)
        replace d96 := d96.same (Same.X s110)
        replace d98 := d98.same (Same.X s110)
        replace a104 := DwAll.same (Same.X s110) a104
        replace d105 := d105.same (Same.X s110)
        replace d108 := d108.same (Same.X s110)
        have X111 := X109.trans (Same.X s110)
        have Q110 := Q108.same s110
        have d110 : Dw K p G110 (1 + 1) (V.ref t110) (.tuple [.str "set", .str "a", .tuple [.str "value", w105]]) := .tup (.cons (.str _ (by decide)) (.cons (.str _ (by decide)) (.cons (d108.mono (by omega)) .nil))) (by simp) o110 e110
        refine ⟨sz (by simp), fun t112 G112 f112 s112 e112 => ?_⟩
        have o112 := PenAt.off Q110 f112
        replace el104 := s112 _ _ el104
        replace d7 := d7.same (Same.X s112)
        replace d15 := d15.same (Same.X s112)
        replace d21 := d21.same (Same.X s112)
        replace d23 := d23.same (Same.X s112)
        replace d25 := d25.same (Same.X s112)
        replace d27 := d27.same (Same.X s112)
        replace d29 := d29.same (Same.X s112)
        replace d31 := d31.same (Same.X s112)
        replace d33 := d33.same (Same.X s112)
        replace d37 := d37.same (Same.X s112)
        replace d39 := d39.same (Same.X s112)
        replace d41 := d41.same (Same.X s112)
        replace d43 := d43.same (Same.X s112)
        replace d45 := d45.same (Same.X s112)
        replace d47 := d47.same (Same.X s112)
        replace d49 := d49.same (Same.X s112)
        replace d51 := d51.same (Same.X s112)
        replace d53 := d53.same (Same.X s112)
        replace d55 := d55.same (Same.X s112)
        replace d57 := d57.same (Same.X s112)
        replace d66 := d66.same (Same.X s112)
        replace d68 := d68.same (Same.X s112)
        replace d70 := d70.same (Same.X s112)
        replace d75 := d75.same (Same.X s112)
        replace d81 := d81.same (Same.X s112)
        replace d83 := d83.same (Same.X s112)
        replace d85 := d85.same (Same.X s112)
        replace d90 := d90.same (Same.X s112)
        replace d92 := d92.same (Same.X s112)
        replace d94 := d94.same (Same.X s112)
        replace d96 := d96.same (Same.X s112)
        replace d98 := d98.same (Same.X s112)
        replace a104 := DwAll.same (Same.X s112) a104
        replace d105 := d105.same (Same.X s112)
        replace d108 := d108.same (Same.X s112)
        replace d110 := d110.same (Same.X s112)
        have X113 := X111.trans (Same.X s112)
        have Q112 := Q110.same s112
        have d112 : Dw K p G112 (2 + 1) (V.ref t112) (.tuple [.tuple [.str "set", .str "a", .tuple [.str "value", w105]]]) := .tup (.cons (d110.mono (by omega)) .nil) (by simp) o112 e112
        refine ⟨l79, _, _, rfl, rfl, el104, szl (by simp), ?_⟩
        have yl114 : SameY p l79 G112 (upd G112 l79 (.lst (((([V.ref t23, V.ref t27, V.ref t33] ++ [V.ref t43, V.ref t57]) ++ [v66, V.ref t75]) ++ [V.ref t94]) ++ [V.ref t112]))) := SameY.upd
        have b114 : DwAll K p G112 24 (((([V.ref t23, V.ref t27, V.ref t33] ++ [V.ref t43, V.ref t57]) ++ [v66, V.ref t75]) ++ [V.ref t94]) ++ [V.ref t112]) _ := a104.app (.cons (d112.mono (by omega)) .nil)
        have a114 := b114.put noT_lst el104 yl114
        replace d7 := d7.put noT_lst el104 yl114
        replace d15 := d15.put noT_lst el104 yl114
        replace d21 := d21.put noT_lst el104 yl114
        replace d23 := d23.put noT_lst el104 yl114
        replace d25 := d25.put noT_lst el104 yl114
        replace d27 := d27.put noT_lst el104 yl114
        replace d29 := d29.put noT_lst el104 yl114
        replace d31 := d31.put noT_lst el104 yl114
        replace d33 := d33.put noT_lst el104 yl114
        replace d37 := d37.put noT_lst el104 yl114
        replace d39 := d39.put noT_lst el104 yl114
        replace d41 := d41.put noT_lst el104 yl114
        replace d43 := d43.put noT_lst el104 yl114
        replace d45 := d45.put noT_lst el104 yl114
        replace d47 := d47.put noT_lst el104 yl114
        replace d49 := d49.put noT_lst el104 yl114
        replace d51 := d51.put noT_lst el104 yl114
        replace d53 := d53.put noT_lst el104 yl114
        replace d55 := d55.put noT_lst el104 yl114
        replace d57 := d57.put noT_lst el104 yl114
        replace d66 := d66.put noT_lst el104 yl114
        replace d68 := d68.put noT_lst el104 yl114
        replace d70 := d70.put noT_lst el104 yl114
        replace d75 := d75.put noT_lst el104 yl114
        replace d81 := d81.put noT_lst el104 yl114
        replace d83 := d83.put noT_lst el104 yl114
        replace d85 := d85.put noT_lst el104 yl114
        replace d90 := d90.put noT_lst el104 yl114
        replace d92 := d92.put noT_lst el104 yl114
        replace d94 := d94.put noT_lst el104 yl114
        replace d96 := d96.put noT_lst el104 yl114
        replace d98 := d98.put noT_lst el104 yl114
        replace d105 := d105.put noT_lst el104 yl114
        replace d108 := d108.put noT_lst el104 yl114
        replace d110 := d110.put noT_lst el104 yl114
        replace d112 := d112.put noT_lst el104 yl114
        have Q114 := PenAt.upl Q112 lp79 nc79 (o := (.lst (((([V.ref t23, V.ref t27, V.ref t33] ++ [V.ref t43, V.ref t57]) ++ [v66, V.ref t75]) ++ [V.ref t94]) ++ [V.ref t112])))
        have X114x : SameX p H (upd G112 l79 (.lst (((([V.ref t23, V.ref t27, V.ref t33] ++ [V.ref t43, V.ref t57]) ++ [v66, V.ref t75]) ++ [V.ref t94]) ++ [V.ref t112]))) := fun x o n hx => (upd_ne (ne_of_none hx fr79)).trans (X113 x o n hx)
        have el114 : (upd G112 l79 (.lst (((([V.ref t23, V.ref t27, V.ref t33] ++ [V.ref t43, V.ref t57]) ++ [v66, V.ref t75]) ++ [V.ref t94]) ++ [V.ref t112]))) l79 = some (.lst (((([V.ref t23, V.ref t27, V.ref t33] ++ [V.ref t43, V.ref t57]) ++ [v66, V.ref t75]) ++ [V.ref t94]) ++ [V.ref t112])) := upd_same
        generalize upd G112 l79 (.lst (((([V.ref t23, V.ref t27, V.ref t33] ++ [V.ref t43, V.ref t57]) ++ [v66, V.ref t75]) ++ [V.ref t94]) ++ [V.ref t112])) = G114 at a114 Q114 X114x el114 d7 d15 d21 d23 d25 d27 d29 d31 d33 d37 d39 d41 d43 d45 d47 d49 d51 d53 d55 d57 d66 d68 d70 d75 d81 d83 d85 d90 d92 d94 d96 d98 d105 d108 d110 d112 ⊢
        refine ⟨_, rfl, _, rfl, p, cc, ns, _, l79, _, rfl, Q114, hn, by omega, el114, by simp, by simp, fun vz Hz hz Pz xz => ?_⟩
        obtain ⟨dz, wz⟩ := (DwAll.same xz a114).mem hz
        exact k vz dz Hz wz (Pz.mono (by omega)) (X114x.trans xz)
      · have o104 := PenAt.off Q102 f8
        have s104 : Same G102 (upd G102 t8 (.tup ([V.ref t92] ++ (List.replicate r.toNat [V.ref t96]).flatten))) := Ab.same_up f8
        have e104 : (upd G102 t8 (.tup ([V.ref t92] ++ (List.replicate r.toNat [V.ref t96]).flatten))) t8 = some (.tup ([V.ref t92] ++ (List.replicate r.toNat [V.ref t96]).flatten)) := upd_same
        generalize upd G102 t8 (.tup ([V.ref t92] ++ (List.replicate r.toNat [V.ref t96]).flatten)) = G104 at s104 e104 ⊢
        replace el35 := s104 _ _ el35
        replace el59 := s104 _ _ el59
        replace el61 := s104 _ _ el61
        replace el77 := s104 _ _ el77
        replace el79 := s104 _ _ el79
        replace ce94 := s104 _ _ ce94
        replace ce98 := s104 _ _ ce98
        replace d7 := d7.same (Same.X s104)
        replace d15 := d15.same (Same.X s104)
        replace d21 := d21.same (Same.X s104)
        replace d23 := d23.same (Same.X s104)
        replace d25 := d25.same (Same.X s104)
        replace d27 := d27.same (Same.X s104)
        replace d29 := d29.same (Same.X s104)
        replace d31 := d31.same (Same.X s104)
        replace d33 := d33.same (Same.X s104)
        replace a35 := DwAll.same (Same.X s104) a35
        replace d37 := d37.same (Same.X s104)
        replace d39 := d39.same (Same.X s104)
        replace d41 := d41.same (Same.X s104)
        replace d43 := d43.same (Same.X s104)
        replace d45 := d45.same (Same.X s104)
        replace d47 := d47.same (Same.X s104)
        replace d49 := d49.same (Same.X s104)
        replace d51 := d51.same (Same.X s104)
        replace d53 := d53.same (Same.X s104)
        replace d55 := d55.same (Same.X s104)
        replace d57 := d57.same (Same.X s104)
        replace a59 := DwAll.same (Same.X s104) a59
        replace a61 := DwAll.same (Same.X s104) a61
        replace d66 := d66.same (Same.X s104)
        replace d68 := d68.same (Same.X s104)
        replace d70 := d70.same (Same.X s104)
        replace d75 := d75.same (Same.X s104)
        replace a77 := DwAll.same (Same.X s104) a77
        replace a79 := DwAll.same (Same.X s104) a79
        replace d81 := d81.same (Same.X s104)
        replace d83 := d83.same (Same.X s104)
        replace d85 := d85.same (Same.X s104)
        replace d90 := d90.same (Same.X s104)
        replace d92 := d92.same (Same.X s104)
        replace d94 := d94.same (Same.X s104)
        replace d96 := d96.same (Same.X s104)
        replace d98 := d98.same (Same.X s104)
        have X105 := X103.trans (Same.X s104)
        have Q104 := Q102.same s104
        have d104 : Dw K p G104 (21 + 1) (V.ref t8) (.tuple ([.tuple [.str "if", w15, .tuple (List.replicate ((m87 : Nat) : Int).toNat [.tuple [.str "set", .str "a", .tuple [.str "body"]]]).flatten, .tuple (List.replicate ((m87 : Nat) : Int).toNat [.tuple [.str "set", .str "a", .tuple [.str "body"]]]).flatten]] ++ (List.replicate r.toNat [.tuple [.str "fail"]]).flatten)) := .tup ((DwAll.cons (d92.mono (by omega)) .nil).app (DwAll.rep (d96.mono (by omega)) _)) (by simp <;> omega) o104 e104
        refine ⟨l79, _, _, rfl, rfl, el79, szl (by simp), ?_⟩
        have yl106 : SameY p l79 G104 (upd G104 l79 (.lst ((([V.ref t23, V.ref t27, V.ref t33] ++ [V.ref t43, V.ref t57]) ++ [v66, V.ref t75]) ++ [V.ref t8]))) := SameY.upd
        have b106 : DwAll K p G104 24 ((([V.ref t23, V.ref t27, V.ref t33] ++ [V.ref t43, V.ref t57]) ++ [v66, V.ref t75]) ++ [V.ref t8]) _ := a79.app (.cons (d104.mono (by omega)) .nil)
        have a106 := b106.put noT_lst el79 yl106
        replace d7 := d7.put noT_lst el79 yl106
        replace d15 := d15.put noT_lst el79 yl106
        replace d21 := d21.put noT_lst el79 yl106
        replace d23 := d23.put noT_lst el79 yl106
        replace d25 := d25.put noT_lst el79 yl106
        replace d27 := d27.put noT_lst el79 yl106
        replace d29 := d29.put noT_lst el79 yl106
        replace d31 := d31.put noT_lst el79 yl106
        replace d33 := d33.put noT_lst el79 yl106
        replace d37 := d37.put noT_lst el79 yl106
        replace d39 := d39.put noT_lst el79 yl106
        replace d41 := d41.put noT_lst el79 yl106
        replace d43 := d43.put noT_lst el79 yl106
        replace d45 := d45.put noT_lst el79 yl106
        replace d47 := d47.put noT_lst el79 yl106
        replace d49 := d49.put noT_lst el79 yl106
        replace d51 := d51.put noT_lst el79 yl106
        replace d53 := d53.put noT_lst el79 yl106
        replace d55 := d55.put noT_lst el79 yl106
        replace d57 := d57.put noT_lst el79 yl106
        replace d66 := d66.put noT_lst el79 yl106
        replace d68 := d68.put noT_lst el79 yl106
        replace d70 := d70.put noT_lst el79 yl106
        replace d75 := d75.put noT_lst el79 yl106
        replace d81 := d81.put noT_lst el79 yl106
        replace d83 := d83.put noT_lst el79 yl106
        replace d85 := d85.put noT_lst el79 yl106
        replace d90 := d90.put noT_lst el79 yl106
        replace d92 := d92.put noT_lst el79 yl106
        replace d94 := d94.put noT_lst el79 yl106
        replace d96 := d96.put noT_lst el79 yl106
        replace d98 := d98.put noT_lst el79 yl106
        replace d104 := d104.put noT_lst el79 yl106
        have Q106 := PenAt.upl Q104 lp79 nc79 (o := (.lst ((([V.ref t23, V.ref t27, V.ref t33] ++ [V.ref t43, V.ref t57]) ++ [v66, V.ref t75]) ++ [V.ref t8])))
        have X106x : SameX p H (upd G104 l79 (.lst ((([V.ref t23, V.ref t27, V.ref t33] ++ [V.ref t43, V.ref t57]) ++ [v66, V.ref t75]) ++ [V.ref t8]))) := fun x o n hx => (upd_ne (ne_of_none hx fr79)).trans (X105 x o n hx)
        have el106 : (upd G104 l79 (.lst ((([V.ref t23, V.ref t27, V.ref t33] ++ [V.ref t43, V.ref t57]) ++ [v66, V.ref t75]) ++ [V.ref t8]))) l79 = some (.lst ((([V.ref t23, V.ref t27, V.ref t33] ++ [V.ref t43, V.ref t57]) ++ [v66, V.ref t75]) ++ [V.ref t8])) := upd_same
        generalize upd G104 l79 (.lst ((([V.ref t23, V.ref t27, V.ref t33] ++ [V.ref t43, V.ref t57]) ++ [v66, V.ref t75]) ++ [V.ref t8])) = G106 at a106 Q106 X106x el106 d7 d15 d21 d23 d25 d27 d29 d31 d33 d37 d39 d41 d43 d45 d47 d49 d51 d53 d55 d57 d66 d68 d70 d75 d81 d83 d85 d90 d92 d94 d96 d98 d104 ⊢
        refine ⟨_, rfl, .inl ⟨rfl, _, SqL.of el106⟩, ?_⟩
        refine ⟨_, rfl, ?_⟩
        refine ⟨_, rfl, ?_⟩
        refine ⟨_, rfl, ?_⟩
        refine ⟨sz (by simp), fun l107 G107 f107 n107 s107 e107 => ?_⟩
        replace el106 := s107 _ _ el106
        replace d7 := d7.same (Same.X s107)
        replace d15 := d15.same (Same.X s107)
        replace d21 := d21.same (Same.X s107)
        replace d23 := d23.same (Same.X s107)
        replace d25 := d25.same (Same.X s107)
        replace d27 := d27.same (Same.X s107)
        replace d29 := d29.same (Same.X s107)
        replace d31 := d31.same (Same.X s107)
        replace d33 := d33.same (Same.X s107)
        replace d37 := d37.same (Same.X s107)
        replace d39 := d39.same (Same.X s107)
        replace d41 := d41.same (Same.X s107)
        replace d43 := d43.same (Same.X s107)
        replace d45 := d45.same (Same.X s107)
        replace d47 := d47.same (Same.X s107)
        replace d49 := d49.same (Same.X s107)
        replace d51 := d51.same (Same.X s107)
        replace d53 := d53.same (Same.X s107)
        replace d55 := d55.same (Same.X s107)
        replace d57 := d57.same (Same.X s107)
        replace d66 := d66.same (Same.X s107)
        replace d68 := d68.same (Same.X s107)
        replace d70 := d70.same (Same.X s107)
        replace d75 := d75.same (Same.X s107)
        replace d81 := d81.same (Same.X s107)
        replace d83 := d83.same (Same.X s107)
        replace d85 := d85.same (Same.X s107)
        replace d90 := d90.same (Same.X s107)
        replace d92 := d92.same (Same.X s107)
        replace d94 := d94.same (Same.X s107)
        replace d96 := d96.same (Same.X s107)
        replace d98 := d98.same (Same.X s107)
        replace d104 := d104.same (Same.X s107)
        replace a106 := DwAll.same (Same.X s107) a106
        have X108 := X106x.trans (Same.X s107)
        have Q107 := Q106.same s107
        refine ⟨p, cc, ns, _, l107, _, rfl, Q107, hn, by omega, e107, by simp, by simp, fun v107 K107 hv107 P107 x107 => ?_⟩
        replace el106 := x107 _ _ (lst_off Q107 el106) el106
        replace d7 := d7.same x107
        replace d15 := d15.same x107
        replace d21 := d21.same x107
        replace d23 := d23.same x107
        replace d25 := d25.same x107
        replace d27 := d27.same x107
        replace d29 := d29.same x107
        replace d31 := d31.same x107
        replace d33 := d33.same x107
        replace d37 := d37.same x107
        replace d39 := d39.same x107
        replace d41 := d41.same x107
        replace d43 := d43.same x107
        replace d45 := d45.same x107
        replace d47 := d47.same x107
        replace d49 := d49.same x107
        replace d51 := d51.same x107
        replace d53 := d53.same x107
        replace d55 := d55.same x107
        replace d57 := d57.same x107
        replace d66 := d66.same x107
        replace d68 := d68.same x107
        replace d70 := d70.same x107
        replace d75 := d75.same x107
        replace d81 := d81.same x107
        replace d83 := d83.same x107
        replace d85 := d85.same x107
        replace d90 := d90.same x107
        replace d92 := d92.same x107
        replace d94 := d94.same x107
        replace d96 := d96.same x107
        replace d98 := d98.same x107
        replace d104 := d104.same x107
        replace a106 := DwAll.same x107 a106
        have X109 := X108.trans x107
        obtain ⟨w107, d107⟩ : ∃ w, Dw K p K107 0 v107 w := by
          simp only [List.mem_cons, List.not_mem_nil, or_false] at hv107
          rcases hv107 with e | e | e | e | e | e
          · rw [e]
            exact ⟨_, .int _⟩
          · rw [e]
            exact ⟨_, .int _⟩
          · rw [e]
            exact ⟨_, .int _⟩
          · rw [e]
            exact ⟨_, .int _⟩
          · rw [e]
            exact ⟨_, Dw.bl true⟩
          · rw [e]
            exact ⟨_, .non⟩
        refine ⟨sz (by simp), fun t110 G110 f110 s110 e110 => ?_⟩
        have o110 := PenAt.off P107 f110
        replace el106 := s110 _ _ el106
        replace d7 := d7.same (Same.X s110)
        replace d15 := d15.same (Same.X s110)
        replace d21 := d21.same (Same.X s110)
        replace d23 := d23.same (Same.X s110)
        replace d25 := d25.same (Same.X s110)
        replace d27 := d27.same (Same.X s110)
        replace d29 := d29.same (Same.X s110)
        replace d31 := d31.same (Same.X s110)
        replace d33 := d33.same (Same.X s110)
        replace d37 := d37.same (Same.X s110)
        replace d39 := d39.same (Same.X s110)
        replace d41 := d41.same (Same.X s110)
        replace d43 := d43.same (Same.X s110)
        replace d45 := d45.same (Same.X s110)
        replace d47 := d47.same (Same.X s110)
        replace d49 := d49.same (Same.X s110)
        replace d51 := d51.same (Same.X s110)
        replace d53 := d53.same (Same.X s110)
        replace d55 := d55.same (Same.X s110)
        replace d57 := d57.same (Same.X s110)
        replace d66 := d66.same (Same.X s110)
        replace d68 := d68.same (Same.X s110)
        replace d70 := d70.same (Same.X s110)
        replace d75 := d75.same (Same.X s110)
        replace d81 := d81.same (Same.X s110)
        replace d83 := d83.same (Same.X s110)
        replace d85 := d85.same (Same.X s110)
        replace d90 := d90.same (Same.X s110)
        replace d92 := d92.same (Same.X s110)
        replace d94 := d94.same (Same.X s110)
        replace d96 := d96.same (Same.X s110)
        replace d98 := d98.same (Same.X s110)
        replace d104 := d104.same (Same.X s110)
        replace a106 := DwAll.same (Same.X s110) a106
        replace d107 := d107.same (Same.X s110)
        have X111 := X109.trans (Same.X s110)
        have Q110 := P107.same s110
        have d110 : Dw K p G110 (0 + 1) (V.ref t110) (.tuple [.str "value", w107]) := .tup (.cons (.str _ (by decide)) (.cons (d107.mono (by omega)) .nil)) (by simp) o110 e110
        refine ⟨sz (by simp), fun t112 G112 f112 s112 e112 => ?_⟩
        have o112 := PenAt.off Q110 f112
        replace el106 := s112 _ _ el106
        replace d7 := d7.same (Same.X s112)
        replace d15 := d15.same (Same.X s112)
        replace d21 := d21.same (Same.X s112)
        replace d23 := d23.same (Same.X s112)
        replace d25 := d25.same (Same.X s112)
        replace d27 := d27.same (Same.X s112)
        replace d29 := d29.same (Same.X s112)
        replace d31 := d31.same (Same.X s112)
        replace d33 := d33.same (Same.X s112)
        replace d37 := d37.same (Same.X s112)
        replace d39 := d39.same (Same.X s112)
        replace d41 := d41.same (Same.X s112)
        replace d43 := d43.same (Same.X s112)
        replace d45 := d45.same (Same.X s112)
        replace d47 := d47.same (Same.X s112)
        replace d49 := d49.same (Same.X s112)
        replace d51 := d51.same (Same.X s112)
        replace d53 := d53.same (Same.X s112)
        replace d55 := d55.same (Same.X s112)
        replace d57 := d57.same (Same.X s112)
        replace d66 := d66.same (Same.X s112)
        replace d68 := d68.same (Same.X s112)
        replace d70 := d70.same (Same.X s112)
        replace d75 := d75.same (Same.X s112)
        replace d81 := d81.same (Same.X s112)
        replace d83 := d83.same (Same.X s112)
        replace d85 := d85.same (Same.X s112)
        replace d90 := d90.same (Same.X s112)
        replace d92 := d92.same (Same.X s112)
        replace d94 := d94.same (Same.X s112)
        replace d96 := d96.same (Same.X s112)
        replace d98 := d98.same (Same.X s112)
        replace d104 := d104.same (Same.X s112)
        replace a106 := DwAll.same (Same.X s112) a106
        replace d107 := d107.same (Same.X s112)
        replace d110 := d110.same (Same.X s112)
        have X113 := X111.trans (Same.X s112)
        have Q112 := Q110.same s112
        have d112 : Dw K p G112 (1 + 1) (V.ref t112) (.tuple [.str "set", .str "a", .tuple [.str "value", w107]]) := .tup (.cons (.str _ (by decide)) (.cons (.str _ (by decide)) (.cons (d110.mono (by omega)) .nil))) (by simp) o112 e112
        refine ⟨sz (by simp), fun t114 G114 f114 s114 e114 => ?_⟩
        have o114 := PenAt.off Q112 f114
        replace el106 := s114 _ _ el106
        replace d7 := d7.same (Same.X s114)
        replace d15 := d15.same (Same.X s114)
        replace d21 := d21.same (Same.X s114)
        replace d23 := d23.same (Same.X s114)
        replace d25 := d25.same (Same.X s114)
        replace d27 := d27.same (Same.X s114)
        replace d29 := d29.same (Same.X s114)
        replace d31 := d31.same (Same.X s114)
        replace d33 := d33.same (Same.X s114)
        replace d37 := d37.same (Same.X s114)
        replace d39 := d39.same (Same.X s114)
        replace d41 := d41.same (Same.X s114)
        replace d43 := d43.same (Same.X s114)
        replace d45 := d45.same (Same.X s114)
        replace d47 := d47.same (Same.X s114)
        replace d49 := d49.same (Same.X s114)
        replace d51 := d51.same (Same.X s114)
        replace d53 := d53.same (Same.X s114)
        replace d55 := d55.same (Same.X s114)
        replace d57 := d57.same (Same.X s114)
        replace d66 := d66.same (Same.X s114)
        replace d68 := d68.same (Same.X s114)
        replace d70 := d70.same (Same.X s114)
        replace d75 := d75.same (Same.X s114)
        replace d81 := d81.same (Same.X s114)
        replace d83 := d83.same (Same.X s114)
        replace d85 := d85.same (Same.X s114)
        replace d90 := d90.same (Same.X s114)
        replace d92 := d92.same (Same.X s114)
        replace d94 := d94.same (Same.X s114)
        replace d96 := d96.same (Same.X s114)
        replace d98 := d98.same (Same.X s114)
        replace d104 := d104.same (Same.X s114)
        replace a106 := DwAll.same (Same.X s114) a106
        replace d107 := d107.same (Same.X s114)
        replace d110 := d110.same (Same.X s114)
        replace d112 := d112.same (Same.X s114)
        have X115 := X113.trans (Same.X s114)
        have Q114 := Q112.same s114
        have d114 : Dw K p G114 (2 + 1) (V.ref t114) (.tuple [.tuple [.str "set", .str "a", .tuple [.str "value", w107]]]) := .tup (.cons (d112.mono (by omega)) .nil) (by simp) o114 e114
        refine ⟨l79, _, _, rfl, rfl, el106, szl (by simp), ?_⟩
        have yl116 : SameY p l79 G114 (upd G114 l79 (.lst (((([V.ref t23, V.ref t27, V.ref t33] ++ [V.ref t43, V.ref t57]) ++ [v66, V.ref t75]) ++ [V.ref t8]) ++ [V.ref t114]))) := SameY.upd
        have b116 : DwAll K p G114 24 (((([V.ref t23, V.ref t27, V.ref t33] ++ [V.ref t43, V.ref t57]) ++ [v66, V.ref t75]) ++ [V.ref t8]) ++ [V.ref t114]) _ := a106.app (.cons (d114.mono (by omega)) .nil)
        have a116 := b116.put noT_lst el106 yl116
        replace d7 := d7.put noT_lst el106 yl116
        replace d15 := d15.put noT_lst el106 yl116
        replace d21 := d21.put noT_lst el106 yl116
        replace d23 := d23.put noT_lst el106 yl116
        replace d25 := d25.put noT_lst el106 yl116
        replace d27 := d27.put noT_lst el106 yl116
        replace d29 := d29.put noT_lst el106 yl116
        replace d31 := d31.put noT_lst el106 yl116
        replace d33 := d33.put noT_lst el106 yl116
        replace d37 := d37.put noT_lst el106 yl116
        replace d39 := d39.put noT_lst el106 yl116
        replace d41 := d41.put noT_lst el106 yl116
        replace d43 := d43.put noT_lst el106 yl116
        replace d45 := d45.put noT_lst el106 yl116
        replace d47 := d47.put noT_lst el106 yl116
        replace d49 := d49.put noT_lst el106 yl116
        replace d51 := d51.put noT_lst el106 yl116
        replace d53 := d53.put noT_lst el106 yl116
        replace d55 := d55.put noT_lst el106 yl116
        replace d57 := d57.put noT_lst el106 yl116
        replace d66 := d66.put noT_lst el106 yl116
        replace d68 := d68.put noT_lst el106 yl116
        replace d70 := d70.put noT_lst el106 yl116
        replace d75 := d75.put noT_lst el106 yl116
        replace d81 := d81.put noT_lst el106 yl116
        replace d83 := d83.put noT_lst el106 yl116
        replace d85 := d85.put noT_lst el106 yl116
        replace d90 := d90.put noT_lst el106 yl116
        replace d92 := d92.put noT_lst el106 yl116
        replace d94 := d94.put noT_lst el106 yl116
        replace d96 := d96.put noT_lst el106 yl116
        replace d98 := d98.put noT_lst el106 yl116
        replace d104 := d104.put noT_lst el106 yl116
        replace d107 := d107.put noT_lst el106 yl116
        replace d110 := d110.put noT_lst el106 yl116
        replace d112 := d112.put noT_lst el106 yl116
        replace d114 := d114.put noT_lst el106 yl116
        have Q116 := PenAt.upl Q114 lp79 nc79 (o := (.lst (((([V.ref t23, V.ref t27, V.ref t33] ++ [V.ref t43, V.ref t57]) ++ [v66, V.ref t75]) ++ [V.ref t8]) ++ [V.ref t114])))
        have X116x : SameX p H (upd G114 l79 (.lst (((([V.ref t23, V.ref t27, V.ref t33] ++ [V.ref t43, V.ref t57]) ++ [v66, V.ref t75]) ++ [V.ref t8]) ++ [V.ref t114]))) := fun x o n hx => (upd_ne (ne_of_none hx fr79)).trans (X115 x o n hx)
        have el116 : (upd G114 l79 (.lst (((([V.ref t23, V.ref t27, V.ref t33] ++ [V.ref t43, V.ref t57]) ++ [v66, V.ref t75]) ++ [V.ref t8]) ++ [V.ref t114]))) l79 = some (.lst (((([V.ref t23, V.ref t27, V.ref t33] ++ [V.ref t43, V.ref t57]) ++ [v66, V.ref t75]) ++ [V.ref t8]) ++ [V.ref t114])) := upd_same
        generalize upd G114 l79 (.lst (((([V.ref t23, V.ref t27, V.ref t33] ++ [V.ref t43, V.ref t57]) ++ [v66, V.ref t75]) ++ [V.ref t8]) ++ [V.ref t114])) = G116 at a116 Q116 X116x el116 d7 d15 d21 d23 d25 d27 d29 d31 d33 d37 d39 d41 d43 d45 d47 d49 d51 d53 d55 d57 d66 d68 d70 d75 d81 d83 d85 d90 d92 d94 d96 d98 d104 d107 d110 d112 d114 ⊢
        refine ⟨_, rfl, _, rfl, p, cc, ns, _, l79, _, rfl, Q116, hn, by omega, el116, by simp, by simp, fun vz Hz hz Pz xz => ?_⟩
        obtain ⟨dz, wz⟩ := (DwAll.same xz a116).mem hz
        exact k vz dz Hz wz (Pz.mono (by omega)) (X116x.trans xz)
end
end Hd

set_option Elab.async false
set_option linter.all false
set_option maxRecDepth 100000
set_option maxHeartbeats 8000000
namespace Hd
open PySem L2 Pen RG Dat KEq
abbrev sBt : Stmt := top 42
/-- data of any kind beside the pen, no deeper than n, no tuple longer than m -/
def De (K : PySem.W.Frag) (p : Addr) (H : Hp) (n m : Nat) (v : V) (d : PyData) : Prop := Rp K (delp p H) v d ∧ sm d = true ∧ d.depth ≤ n ∧ tl d ≤ m
inductive DeAll (K : PySem.W.Frag) (p : Addr) (H : Hp) (n m : Nat) : List V → List PyData → Prop
  | nil : DeAll K p H n m [] []
  | cons {v : V} {vs : List V} {d : PyData} {ds : List PyData} : De K p H n m v d → DeAll K p H n m vs ds → DeAll K p H n m (v :: vs) (d :: ds)
theorem De.same {K : PySem.W.Frag} {p : Addr} {H H' : Hp} {n m : Nat} {v : V} {d : PyData} (x : De K p H n m v d) (s : SameX p H H') : De K p H' n m v d := ⟨Rp.same (delp_same s) x.1, x.2⟩
theorem De.mono {K : PySem.W.Frag} {p : Addr} {H : Hp} {n m n2 m2 : Nat} {v : V} {d : PyData} (x : De K p H n m v d) (h : n ≤ n2) (h2 : m ≤ m2) : De K p H n2 m2 v d := ⟨x.1, x.2.1, Nat.le_trans x.2.2.1 h, Nat.le_trans x.2.2.2 h2⟩
theorem DeAll.same {K : PySem.W.Frag} {p : Addr} {H H' : Hp} {n m : Nat} (s : SameX p H H') : ∀ {vs : List V} {ds : List PyData}, DeAll K p H n m vs ds → DeAll K p H' n m vs ds
  | _, _, .nil => .nil
  | _, _, .cons x t => .cons (x.same s) (DeAll.same s t)
theorem DeAll.mono {K : PySem.W.Frag} {p : Addr} {H : Hp} {n m n2 m2 : Nat} (h : n ≤ n2) (h2 : m ≤ m2) : ∀ {vs : List V} {ds : List PyData}, DeAll K p H n m vs ds → DeAll K p H n2 m2 vs ds
  | _, _, .nil => .nil
  | _, _, .cons x t => .cons (x.mono h h2) (DeAll.mono h h2 t)
theorem DeAll.mem {K : PySem.W.Frag} {p : Addr} {H : Hp} {n m : Nat} {v : V} : ∀ {vs : List V} {ds : List PyData}, DeAll K p H n m vs ds → v ∈ vs → ∃ d, De K p H n m v d
  | _, _, .nil, h => by cases h
  | _, _, .cons x t, h => by
    rcases List.mem_cons.mp h with e | h
    · rw [e]
      exact ⟨_, x⟩
    · exact DeAll.mem t h
theorem DeAll.len {K : PySem.W.Frag} {p : Addr} {H : Hp} {n m : Nat} : ∀ {vs : List V} {ds : List PyData}, DeAll K p H n m vs ds → vs.length = ds.length
  | _, _, .nil => rfl
  | _, _, .cons _ t => congrArg (· + 1) (DeAll.len t)
theorem DeAll.app {K : PySem.W.Frag} {p : Addr} {H : Hp} {n m : Nat} : ∀ {vs ws : List V} {ds es : List PyData}, DeAll K p H n m vs ds → DeAll K p H n m ws es → DeAll K p H n m (vs ++ ws) (ds ++ es)
  | _, _, _, _, .nil, r => r
  | _, _, _, _, .cons x t, r => .cons x (DeAll.app t r)
theorem DeAll.take {K : PySem.W.Frag} {p : Addr} {H : Hp} {n m : Nat} : ∀ {vs : List V} {ds : List PyData} (i : Nat), DeAll K p H n m vs ds → DeAll K p H n m (vs.take i) (ds.take i)
  | _, _, 0, _ => by
    rw [List.take_zero, List.take_zero]
    exact .nil
  | _, _, i + 1, .nil => .nil
  | _, _, i + 1, .cons x t => .cons x (DeAll.take i t)
theorem DeAll.drop {K : PySem.W.Frag} {p : Addr} {H : Hp} {n m : Nat} : ∀ {vs : List V} {ds : List PyData} (i : Nat), DeAll K p H n m vs ds → DeAll K p H n m (vs.drop i) (ds.drop i)
  | _, _, 0, x => x
  | _, _, i + 1, .nil => .nil
  | _, _, i + 1, .cons x t => DeAll.drop i t
theorem DeAll.rev {K : PySem.W.Frag} {p : Addr} {H : Hp} {n m : Nat} : ∀ {vs : List V} {ds : List PyData}, DeAll K p H n m vs ds → DeAll K p H n m vs.reverse ds.reverse
  | _, _, .nil => .nil
  | _, _, .cons x t => by
    rw [List.reverse_cons, List.reverse_cons]
    exact (DeAll.rev t).app (.cons x .nil)
theorem DeAll.all {K : PySem.W.Frag} {p : Addr} {H : Hp} {n m : Nat} : ∀ {vs : List V} {ds : List PyData}, DeAll K p H n m vs ds → RpAll K (delp p H) vs ds ∧ smAll ds = true ∧ PyData.depthAll ds ≤ n ∧ tlAll ds ≤ m
  | _, _, .nil => ⟨.nil, rfl, Nat.zero_le _, Nat.zero_le _⟩
  | _, _, .cons x t => by
    obtain ⟨a, b, c, e⟩ := DeAll.all t
    refine ⟨.cons x.1 a, ?_, Nat.max_le.mpr ⟨x.2.2.1, c⟩, Nat.max_le.mpr ⟨x.2.2.2, e⟩⟩
    show (sm _ && smAll _) = true
    rw [x.2.1, b]
    rfl
theorem De.tup {K : PySem.W.Frag} {p t : Addr} {H : Hp} {n m : Nat} {vs : List V} {ds : List PyData} (x : DeAll K p H n m vs ds) (e : SqT K (delp p H) t vs) (hl : ds.length ≤ m) (hm : m ≤ 1000) : De K p H (n + 1) m (.ref t) (.tuple ds) := by
  obtain ⟨a, b, c, g⟩ := x.all
  refine ⟨.tup e a, ?_, Nat.succ_le_succ c, Nat.max_le.mpr ⟨hl, g⟩⟩
  show (decide (ds.length ≤ 1000) && smAll ds) = true
  rw [b, decide_eq_true (Nat.le_trans hl hm)]
  rfl
theorem de_all {K : PySem.W.Frag} {p : Addr} {H : Hp} {n m : Nat} : ∀ {vs : List V} {ds : List PyData}, RpAll K (delp p H) vs ds → smAll ds = true → PyData.depthAll ds ≤ n → tlAll ds ≤ m → DeAll K p H n m vs ds
  | _, _, .nil, _, _, _ => .nil
  | _, _, .cons x t, s1, s2, s3 => by
    have a1 := sm_cons s1
    have a2 := Nat.max_le.mp s2
    have a3 := Nat.max_le.mp s3
    exact .cons ⟨x, a1.1, a2.1, a3.1⟩ (de_all t a1.2 a2.2 a3.2)
theorem De.within {K : PySem.W.Frag} {p a : Addr} {H : Hp} {n m : Nat} {ds : List PyData} (x : De K p H n m (.ref a) (.tuple ds)) : ∃ (n' : Nat) (xs : List V), n = n' + 1 ∧ SqT K (delp p H) a xs ∧ DeAll K p H n' m xs ds ∧ ds.length ≤ m := by
  obtain ⟨r, s1, s2, s3⟩ := x
  have z : PyData.depthAll ds + 1 ≤ n := s2
  have y := Nat.max_le.mp (show max ds.length (tlAll ds) ≤ m from s3)
  cases r with
  | tup q rr => exact ⟨n - 1, _, by omega, q, de_all rr (sm_tup s1) (by omega) y.2, y.1⟩
theorem Dw.de {K : PySem.W.Frag} {p : Addr} {H : Hp} {n : Nat} {v : V} {d : PyData} (x : Dw K p H n v d) : De K p H n 20 v d := ⟨x.1, x.2.1, x.2.2.1, x.2.2.2.2⟩
theorem odd_de {K : PySem.W.Frag} {p : Addr} {H : Hp} {v : V} {d : PyData} (h : d ∈ oddL) (r : Rp K (delp p H) v d) : De K p H 4 4 v d := by
  have all : (oddL.all fun d => sm d && decide (d.depth ≤ 4) && decide (tl d ≤ 4)) = true := by decide +kernel
  have := List.all_eq_true.mp all d h
  simp only [Bool.and_eq_true, decide_eq_true_eq] at this
  exact ⟨r, this.1.1, this.1.2, this.2⟩
theorem sz9 {n : Nat} (h : n ≤ 9999) : n ≤ sizeLine := Nat.le_trans h (by decide)
def spBt (K : PySem.W.Frag) (N : Nat) : Sp := fun vs H Q _ => ∃ (p cc : Addr) (ns : List Int) (k : Nat) (v : V) (d : PyData) (n m : Nat), vs = [.ref p, v] ∧ n < N ∧ n ≤ 100 ∧ 20 ≤ m ∧ m ≤ 500 ∧ De K p H n m v d ∧ PenAt H p cc ns k ∧ ns.length ≤ 63 ∧ k ≤ 2 ^ 37 - 10 * n ∧
  ∀ (v' : V) (d' : PyData) (H' : Hp), De K p H' (n + 5) (m + 1) v' d' → PenAt H' p cc ns (k + 10 * (n + 1)) → SameX p H H' → Q v' H'
section
variable {P : Program} {w : World} {K : PySem.W.Frag} {mg : Str → Option Value} {base : Heap}
theorem scBt : FnScope ["_law_pen_here", "_law_thing", "_law_at", "_law_way"] ["_law_pen_here", "_law_thing"] (defScope sBt) := ⟨rfl, rfl, rfl, by decide +kernel, rfl, by decide +kernel, by decide +kernel⟩
theorem ok_bt {f fD fP fo : Addr} {fd fdD fdP fdo : FuncData} (F : Fun K "_law_bent" "_law_bent" sBt f fd) (T : TxtH mg) (TBent : DefT K mg "_law_bent" f) (bBent : Binds K fd ["_law_pen_here", "_law_thing"] [])
    (GDraw : FnOk P w K mg base CX0 1 fD fdD ["_law_pen_here", "_law_many"] spDraw) (TDraw : DefT K mg "_law_draw" fD) (bDraw : Binds K fdD ["_law_pen_here", "_law_many"] [])
    (GPick : FnOk P w K mg base CX0 2 fP fdP ["_law_pen_here", "_law_items"] (spPick K)) (TPick : DefT K mg "_law_pick" fP) (bPick : Binds K fdP ["_law_pen_here", "_law_items"] [])
    (GOdd : FnOk P w K mg base CX0 3 fo fdo ["_law_pen_here"] (spOdd K)) (TOdd : DefT K mg "_law_odd" fo) (bOdd : Binds K fdo ["_law_pen_here"] []) : ∀ N, FnOk P w K mg base CX0 (N + 4) f fd ["_law_pen_here", "_law_thing"] (spBt K N)
  | 0 => by
    refine F.ok scBt (fun vs H Q E h => ?_) (fun cdv A outer s H vs Q E hr h => ?_)
    · obtain ⟨p, cc, ns, k, v, d, n, m, rfl, _⟩ := h
      rfl
    · obtain ⟨p, cc, ns, k, v, d, n, m, rfl, lt, _⟩ := h
      exact absurd lt (Nat.not_lt_zero _)
  | N + 1 => by
    have GBent := ok_bt F T TBent bBent GDraw TDraw bDraw GPick TPick bPick GOdd TOdd bOdd N
    refine F.ok scBt (fun vs H Q E h => ?_) (fun cdv A outer s H vs Q E hr h => ?_)
    · obtain ⟨p, cc, ns, k, v, d, n, m, rfl, _⟩ := h
      rfl
    · obtain ⟨p, cc, ns, b0, v, d, n, m, rfl, lt, n100, m20, m500, w0, P0, hn, hb, k⟩ := h
      have X0 : SameX p H H := .refl
      have rp0 : Rp K H v d := Rp.same delp_le w0.1
      refine ⟨_, (pss_cons (ps_if (PW.pt (pw_or (pt_not (pt_val (pe_callB call_isi (by rfl) T.isinstance (by decide +kernel) (pa_cons (pv 1) (pa_cons (pe_bltn (v := V.ty "tuple") (by rfl) T.tuple (by decide +kernel) rfl) pa_nil))))) (pw_or (pt_cmpR op_eq (pe_callB call_len_seq (by rfl) T.len PySem.boot_len (pa_cons (pv 1) pa_nil)) pe_int (nomark _)) (pw_or1 (pt_cmpR op_eq (pe_call GDraw (hr.mono (by omega)) rfl TDraw.mg TDraw.kp bDraw .nil pass0 (pa_cons (pv 0) (pa_cons pe_int pa_nil))) pe_int (nomark _)))))) (pss_one (ps_ret (pe_call GPick (hr.mono (by omega)) rfl TPick.mg TPick.kp bPick .nil pass0 (pa_cons (pv 0) (pa_cons (Ab.pe_lstA (pa_cons (pe_call GOdd (hr.mono (by omega)) rfl TOdd.mg TOdd.kp bOdd .nil pass0 (pa_cons (pv 0) pa_nil)) (pa_cons (Ab.pe_tupA (pa_cons (pv 1) pa_nil)) (pa_cons (pe_call GOdd (hr.mono (by omega)) rfl TOdd.mg TOdd.kp bOdd .nil pass0 (pa_cons (pv 0) pa_nil)) pa_nil)))) pa_nil))))) pss_nil)
      (pss_cons (ps_par (i := 2) (j := 3) (by rfl) scBt.nd rfl rfl (by decide) rfl rfl (pa_cons (pe_call GDraw (hr.mono (by omega)) rfl TDraw.mg TDraw.kp bDraw .nil pass0 (pa_cons (pv 0) (pa_cons (pe_callB call_len_seq (by rfl) T.len PySem.boot_len (pa_cons (pv 1) pa_nil)) pa_nil))) (pa_cons (pe_call GDraw (hr.mono (by omega)) rfl TDraw.mg TDraw.kp bDraw .nil pass0 (pa_cons (pv 0) (pa_cons pe_int pa_nil))) pa_nil)) (by rfl))
      (pss_cons (ps_if (pt_cmpR op_lt (pv 3) pe_int (nomark _)) (pss_one (ps_ret (pe_op KCut.op_catU (pe_op KCut.op_catU (pe_slice KCut.sl_tupU (pv 1) po_none (po_some (pv 2))) (Ab.pe_tupA (pa_cons (pe_call GBent (hr.mono (by omega)) rfl TBent.mg TBent.kp bBent .nil pass0 (pa_cons (pv 0) (pa_cons (pe_ix ix_tup (pv 1) (pv 2) (fun _ _ => rfl)) pa_nil))) pa_nil))) (pe_slice KCut.sl_tupU (pv 1) (po_some (pe_op op_add (pv 2) pe_int)) po_none)))) pss_nil)
      (pss_cons (ps_if (pt_cmpR op_eq (pv 3) pe_int (nomark _)) (pss_one (ps_ret (pe_op KCut.op_catU (pe_slice KCut.sl_tupU (pv 1) po_none (po_some (pv 2))) (pe_slice KCut.sl_tupU (pv 1) (po_some (pe_op op_add (pv 2) pe_int)) po_none)))) pss_nil)
      (pss_cons (ps_if (pt_cmpR op_eq (pv 3) pe_int (nomark _)) (pss_one (ps_ret (pe_op KCut.op_catU (pe_slice KCut.sl_tupU (pv 1) po_none (po_some (pe_op op_add (pv 2) pe_int))) (pe_slice KCut.sl_tupU (pv 1) (po_some (pv 2)) po_none)))) pss_nil)
      (pss_one (ps_ret (pe_op KCut.op_catU (pe_op KCut.op_catU (pe_slice KCut.sl_tupU (pv 1) po_none (po_some (pv 2))) (KRev.pe_revT (pe_slice KCut.sl_tupU (pv 1) (po_some (pv 2)) (po_some (pe_op op_add (pv 2) pe_int))))) (pe_slice KCut.sl_tupU (pv 1) (po_some (pe_op op_add (pv 2) pe_int)) po_none))))))))), ?_⟩
      refine ⟨_, rfl, v, .ty "tuple", _, _, _, rfl, .ty _, rp_ty rp0, kit_tup d, _, rfl, ite2 (fun h1 => ?_) (fun h1 => ?_)⟩
      · refine iteT ?_
        refine ⟨_, rfl, _, rfl, p, cc, ns, _, rfl, P0, hn, by omega, fun o1 d1 Ha m1 ra Pa xa => ⟨_, rfl, sz (by simp), fun t Gt ft st et => ?_⟩⟩
        refine ⟨_, rfl, p, cc, ns, _, rfl, Pa.same st, hn, by omega, fun o2 d2 Hb m2 rb Pb xb => ⟨sz (by simp), fun l Gl fl nl sl el => ?_⟩⟩
        have ot := PenAt.off Pa ft
        have x1' : SameX p H Ha := X0.trans xa
        have A1 : De K p Gl (n + 5) (m + 1) o1 d1 := ((odd_de m1 ra).mono (by omega) (by omega)).same (((Same.X st).trans xb).trans (Same.X sl))
        have A2 : De K p Gl (n + 5) (m + 1) o2 d2 := ((odd_de m2 rb).mono (by omega) (by omega)).same (Same.X sl)
        have A3 : De K p Gt (n + 1) m (.ref t) (.tuple [d]) := De.tup (.cons (w0.same (x1'.trans (Same.X st))) .nil) (SqT.of ((delp_ne ot).trans et)) (by simp; omega) (by omega)
        have A4 : De K p Gl (n + 5) (m + 1) (.ref t) (.tuple [d]) := (A3.mono (by omega) (by omega)).same (xb.trans (Same.X sl))
        refine ⟨p, cc, ns, _, l, _, rfl, Pb.same sl, hn, by omega, el, by simp, by simp, fun u Hc hu' Pc xc => ?_⟩
        have all : DeAll K p Gl (n + 5) (m + 1) [o1, .ref t, o2] [d1, .tuple [d], d2] := .cons A1 (.cons A4 (.cons A2 .nil))
        obtain ⟨du, wu⟩ := all.mem hu'
        exact k u du Hc (wu.same xc) (Pc.mono (by omega)) ((((x1'.trans (Same.X st)).trans xb).trans (Same.X sl)).trans xc)
      have wx := w0
      have ht : isTup d = true := by simpa using h1
      cases d with
      | tuple ds =>
        obtain ⟨r0, _⟩ := w0
        cases r0 with
        | @tup a _ _ q9 _ =>
          obtain ⟨n', xs, rfl, q, da, dl⟩ := wx.within
          have w0 := wx
          have qH : SqT K H a xs := sqT_same delp_le q
          refine ⟨_, rfl, a, xs, rfl, .inr qH, rfl, _, rfl, ite2 (fun h2 => ?_) (fun h2 => ?_)⟩
          · refine iteT ?_
            refine ⟨_, rfl, _, rfl, p, cc, ns, _, rfl, P0, hn, by omega, fun o1 d1 Ha m1 ra Pa xa => ⟨_, rfl, sz (by simp), fun t Gt ft st et => ?_⟩⟩
            refine ⟨_, rfl, p, cc, ns, _, rfl, Pa.same st, hn, by omega, fun o2 d2 Hb m2 rb Pb xb => ⟨sz (by simp), fun l Gl fl nl sl el => ?_⟩⟩
            have ot := PenAt.off Pa ft
            have x1' : SameX p H Ha := X0.trans xa
            have A1 : De K p Gl ((n' + 1) + 5) (m + 1) o1 d1 := ((odd_de m1 ra).mono (by omega) (by omega)).same (((Same.X st).trans xb).trans (Same.X sl))
            have A2 : De K p Gl ((n' + 1) + 5) (m + 1) o2 d2 := ((odd_de m2 rb).mono (by omega) (by omega)).same (Same.X sl)
            have A3 : De K p Gt ((n' + 1) + 1) m (.ref t) (.tuple [.tuple ds]) := De.tup (.cons (w0.same (x1'.trans (Same.X st))) .nil) (SqT.of ((delp_ne ot).trans et)) (by simp; omega) (by omega)
            have A4 : De K p Gl ((n' + 1) + 5) (m + 1) (.ref t) (.tuple [.tuple ds]) := (A3.mono (by omega) (by omega)).same (xb.trans (Same.X sl))
            refine ⟨p, cc, ns, _, l, _, rfl, Pb.same sl, hn, by omega, el, by simp, by simp, fun u Hc hu' Pc xc => ?_⟩
            have all : DeAll K p Gl ((n' + 1) + 5) (m + 1) [o1, .ref t, o2] [d1, .tuple [.tuple ds], d2] := .cons A1 (.cons A4 (.cons A2 .nil))
            obtain ⟨du, wu⟩ := all.mem hu'
            exact k u du Hc (wu.same xc) (Pc.mono (by omega)) ((((x1'.trans (Same.X st)).trans xb).trans (Same.X sl)).trans xc)
          refine ⟨_, rfl, p, cc, ns, _, 5, rfl, P0, hn, by omega, by decide, by decide, fun r5 H5 _ _ P5 x5 => ⟨rfl, _, rfl, ite2 (fun h3 => ?_) (fun h3 => ?_)⟩⟩
          · refine ⟨_, rfl, _, rfl, p, cc, ns, _, rfl, P5, hn, by omega, fun o1 d1 Ha m1 ra Pa xa => ⟨_, rfl, sz (by simp), fun t Gt ft st et => ?_⟩⟩
            refine ⟨_, rfl, p, cc, ns, _, rfl, Pa.same st, hn, by omega, fun o2 d2 Hb m2 rb Pb xb => ⟨sz (by simp), fun l Gl fl nl sl el => ?_⟩⟩
            have ot := PenAt.off Pa ft
            have x1' : SameX p H Ha := x5.trans xa
            have A1 : De K p Gl ((n' + 1) + 5) (m + 1) o1 d1 := ((odd_de m1 ra).mono (by omega) (by omega)).same (((Same.X st).trans xb).trans (Same.X sl))
            have A2 : De K p Gl ((n' + 1) + 5) (m + 1) o2 d2 := ((odd_de m2 rb).mono (by omega) (by omega)).same (Same.X sl)
            have A3 : De K p Gt ((n' + 1) + 1) m (.ref t) (.tuple [.tuple ds]) := De.tup (.cons (w0.same (x1'.trans (Same.X st))) .nil) (SqT.of ((delp_ne ot).trans et)) (by simp; omega) (by omega)
            have A4 : De K p Gl ((n' + 1) + 5) (m + 1) (.ref t) (.tuple [.tuple ds]) := (A3.mono (by omega) (by omega)).same (xb.trans (Same.X sl))
            refine ⟨p, cc, ns, _, l, _, rfl, Pb.same sl, hn, by omega, el, by simp, by simp, fun u Hc hu' Pc xc => ?_⟩
            have all : DeAll K p Gl ((n' + 1) + 5) (m + 1) [o1, .ref t, o2] [d1, .tuple [.tuple ds], d2] := .cons A1 (.cons A4 (.cons A2 .nil))
            obtain ⟨du, wu⟩ := all.mem hu'
            exact k u du Hc (wu.same xc) (Pc.mono (by omega)) ((((x1'.trans (Same.X st)).trans xb).trans (Same.X sl)).trans xc)
          have lpos : 0 < xs.length := by
            have := len_ne h2
            omega
          have lxs := da.len
          have q5 : SqT K H5 a xs := sqT_same delp_le (sqT_same (delp_same x5) q)
          refine ⟨_, rfl, _, rfl, a, xs, rfl, .inr q5, p, cc, ns, _, _, rfl, P5, hn, by omega, by omega, by omega, fun ra H6 a0 a1 P6 x6 => ?_⟩
          refine ⟨_, rfl, p, cc, ns, _, 9, rfl, P6, hn, by omega, by decide, by decide, fun rw' H7 _ _ P7 x7 => ⟨_, _, rfl, ?_⟩⟩
          obtain ⟨i, rfl⟩ : ∃ i : Nat, ra = i := ⟨ra.toNat, by omega⟩
          have hi : i < xs.length := by omega
          have X7 := (x5.trans x6).trans x7
          obtain ⟨o7, hp7⟩ := PenAt.at P7
          have q7 := sqT_same (delp_same X7) q
          have a7 := DeAll.same X7 da
          refine ⟨_, rfl, _, _, rfl, rfl, _, rfl, ite2 (fun h4 => ?_) (fun h4 => ?_)⟩
          · refine ⟨_, rfl, _, rfl, _, rfl, p, _, a, xs, hp7, rfl, q7, fun r21 G21 s21 c21 => ?_⟩
            replace q7 := sqT_same (delp_same (Same.X s21)) q7
            replace a7 := DeAll.same (Same.X s21) a7
            replace hp7 := s21 _ _ hp7
            have Pn22 := P7.same s21
            have Xn22 := X7.trans (Same.X s21)
            rw [KCut.cut_to (by omega)] at c21
            have w21 := a7.take i
            have hxi : xs[i]? = some xs[i] := List.getElem?_eq_getElem (by omega)
            obtain ⟨di, wi⟩ := DeAll.mem a7 (List.mem_of_getElem? hxi)
            refine ⟨_, rfl, _, rfl, _, rfl, a, xs, _, _, rfl, rfl, sqT_same delp_le q7, atI_nat hxi, p, cc, ns, _, _, di, n', m, rfl, by omega, by omega, m20, m500, wi, Pn22, hn, by omega, fun v8 d8 G8 w8 P8 x8 => ?_⟩
            replace q7 := sqT_same (delp_same x8) q7
            replace c21 := sqT_same (delp_same x8) c21
            replace a7 := DeAll.same x8 a7
            replace w21 := DeAll.same x8 w21
            obtain ⟨o8, hp8⟩ := PenAt.at P8
            clear hp7
            have X8 := Xn22.trans x8
            refine ⟨sz (by simp), fun t9 G9 f9 s9 e9 => ?_⟩
            have o9 := PenAt.off P8 f9
            have w9 := w8.same (Same.X s9)
            replace q7 := sqT_same (delp_same (Same.X s9)) q7
            replace c21 := sqT_same (delp_same (Same.X s9)) c21
            replace a7 := DeAll.same (Same.X s9) a7
            replace w21 := DeAll.same (Same.X s9) w21
            replace hp8 := s9 _ _ hp8
            have Pn23 := P8.same s9
            have Xn23 := X8.trans (Same.X s9)
            have c9 : SqT K (delp p G9) t9 [v8] := SqT.of ((delp_ne o9).trans e9)
            have wt : DeAll K p G9 (n' + 5) (m + 1) [v8] [d8] := .cons w9 .nil
            refine ⟨p, _, _, _, _, _, hp8, rfl, rfl, c21, c9, sz9 (by rw [DeAll.len w21, DeAll.len wt]; simp; omega), fun r24 G24 s24 c24 => ?_⟩
            replace q7 := sqT_same (delp_same (Same.X s24)) q7
            replace c21 := sqT_same (delp_same (Same.X s24)) c21
            replace c9 := sqT_same (delp_same (Same.X s24)) c9
            replace a7 := DeAll.same (Same.X s24) a7
            replace w21 := DeAll.same (Same.X s24) w21
            replace wt := DeAll.same (Same.X s24) wt
            replace hp8 := s24 _ _ hp8
            have Pn25 := Pn23.same s24
            have Xn25 := Xn23.trans (Same.X s24)
            have w24 := (DeAll.mono (n2 := n' + 5) (m2 := m + 1) (by omega) (by omega) w21).app (DeAll.mono (n2 := n' + 5) (m2 := m + 1) (by omega) (by omega) wt)
            refine ⟨_, rfl, _, rfl, _, _, rfl, rfl, _, rfl, p, _, a, xs, hp8, rfl, q7, fun r26 G26 s26 c26 => ?_⟩
            replace q7 := sqT_same (delp_same (Same.X s26)) q7
            replace c21 := sqT_same (delp_same (Same.X s26)) c21
            replace c9 := sqT_same (delp_same (Same.X s26)) c9
            replace c24 := sqT_same (delp_same (Same.X s26)) c24
            replace a7 := DeAll.same (Same.X s26) a7
            replace w21 := DeAll.same (Same.X s26) w21
            replace wt := DeAll.same (Same.X s26) wt
            replace w24 := DeAll.same (Same.X s26) w24
            replace hp8 := s26 _ _ hp8
            have Pn27 := Pn25.same s26
            have Xn27 := Xn25.trans (Same.X s26)
            rw [show ((i : Int) + 1) = ((i + 1 : Nat) : Int) by omega] at c26
            rw [KCut.cut_from] at c26
            have w26 := a7.drop (i + 1)
            refine ⟨p, _, _, _, _, _, hp8, rfl, rfl, c24, c26, sz9 (by rw [DeAll.len w24, DeAll.len w26]; simp; omega), fun r28 G28 s28 c28 => ?_⟩
            replace q7 := sqT_same (delp_same (Same.X s28)) q7
            replace c21 := sqT_same (delp_same (Same.X s28)) c21
            replace c9 := sqT_same (delp_same (Same.X s28)) c9
            replace c24 := sqT_same (delp_same (Same.X s28)) c24
            replace c26 := sqT_same (delp_same (Same.X s28)) c26
            replace a7 := DeAll.same (Same.X s28) a7
            replace w21 := DeAll.same (Same.X s28) w21
            replace wt := DeAll.same (Same.X s28) wt
            replace w24 := DeAll.same (Same.X s28) w24
            replace w26 := DeAll.same (Same.X s28) w26
            replace hp8 := s28 _ _ hp8
            have Pn29 := Pn27.same s28
            have Xn29 := Xn27.trans (Same.X s28)
            have w28 := (DeAll.mono (n2 := n' + 5) (m2 := m + 1) (by omega) (by omega) w24).app (DeAll.mono (n2 := n' + 5) (m2 := m + 1) (by omega) (by omega) w26)
            exact k _ _ _ (De.tup w28 c28 (by simp; omega) (by omega)) (Pn29.mono (by omega)) Xn29
          refine ⟨_, rfl, rfl, _, rfl, ite2 (fun h5 => ?_) (fun h5 => ?_)⟩
          · refine ⟨_, rfl, _, rfl, _, rfl, p, o7, a, xs, hp7, rfl, q7, fun r21 G21 s21 c21 => ?_⟩
            replace q7 := sqT_same (delp_same (Same.X s21)) q7
            replace a7 := DeAll.same (Same.X s21) a7
            replace hp7 := s21 _ _ hp7
            have Pn22 := P7.same s21
            have Xn22 := X7.trans (Same.X s21)
            rw [KCut.cut_to (by omega)] at c21
            have w21 := a7.take i
            refine ⟨_, rfl, _, rfl, _, _, rfl, rfl, _, rfl, p, o7, a, xs, hp7, rfl, q7, fun r23 G23 s23 c23 => ?_⟩
            replace q7 := sqT_same (delp_same (Same.X s23)) q7
            replace c21 := sqT_same (delp_same (Same.X s23)) c21
            replace a7 := DeAll.same (Same.X s23) a7
            replace w21 := DeAll.same (Same.X s23) w21
            replace hp7 := s23 _ _ hp7
            have Pn24 := Pn22.same s23
            have Xn24 := Xn22.trans (Same.X s23)
            rw [show ((i : Int) + 1) = ((i + 1 : Nat) : Int) by omega] at c23
            rw [KCut.cut_from] at c23
            have w23 := a7.drop (i + 1)
            refine ⟨p, o7, _, _, _, _, hp7, rfl, rfl, c21, c23, sz9 (by rw [DeAll.len w21, DeAll.len w23]; simp; omega), fun r25 G25 s25 c25 => ?_⟩
            replace q7 := sqT_same (delp_same (Same.X s25)) q7
            replace c21 := sqT_same (delp_same (Same.X s25)) c21
            replace c23 := sqT_same (delp_same (Same.X s25)) c23
            replace a7 := DeAll.same (Same.X s25) a7
            replace w21 := DeAll.same (Same.X s25) w21
            replace w23 := DeAll.same (Same.X s25) w23
            replace hp7 := s25 _ _ hp7
            have Pn26 := Pn24.same s25
            have Xn26 := Xn24.trans (Same.X s25)
            have w25 := (DeAll.mono (n2 := n' + 5) (m2 := m + 1) (by omega) (by omega) w21).app (DeAll.mono (n2 := n' + 5) (m2 := m + 1) (by omega) (by omega) w23)
            exact k _ _ _ (De.tup w25 c25 (by simp; omega) (by omega)) (Pn26.mono (by omega)) Xn26
          refine ⟨_, rfl, rfl, _, rfl, ite2 (fun h6 => ?_) (fun h6 => ?_)⟩
          · refine ⟨_, rfl, _, rfl, _, _, rfl, rfl, _, rfl, p, o7, a, xs, hp7, rfl, q7, fun r21 G21 s21 c21 => ?_⟩
            replace q7 := sqT_same (delp_same (Same.X s21)) q7
            replace a7 := DeAll.same (Same.X s21) a7
            replace hp7 := s21 _ _ hp7
            have Pn22 := P7.same s21
            have Xn22 := X7.trans (Same.X s21)
            rw [show ((i : Int) + 1) = ((i + 1 : Nat) : Int) by omega] at c21
            rw [KCut.cut_to (by omega)] at c21
            have w21 := a7.take (i + 1)
            refine ⟨_, rfl, _, rfl, _, rfl, p, o7, a, xs, hp7, rfl, q7, fun r23 G23 s23 c23 => ?_⟩
            replace q7 := sqT_same (delp_same (Same.X s23)) q7
            replace c21 := sqT_same (delp_same (Same.X s23)) c21
            replace a7 := DeAll.same (Same.X s23) a7
            replace w21 := DeAll.same (Same.X s23) w21
            replace hp7 := s23 _ _ hp7
            have Pn24 := Pn22.same s23
            have Xn24 := Xn22.trans (Same.X s23)
            rw [KCut.cut_from] at c23
            have w23 := a7.drop i
            refine ⟨p, o7, _, _, _, _, hp7, rfl, rfl, c21, c23, sz9 (by rw [DeAll.len w21, DeAll.len w23]; simp; omega), fun r25 G25 s25 c25 => ?_⟩
            replace q7 := sqT_same (delp_same (Same.X s25)) q7
            replace c21 := sqT_same (delp_same (Same.X s25)) c21
            replace c23 := sqT_same (delp_same (Same.X s25)) c23
            replace a7 := DeAll.same (Same.X s25) a7
            replace w21 := DeAll.same (Same.X s25) w21
            replace w23 := DeAll.same (Same.X s25) w23
            replace hp7 := s25 _ _ hp7
            have Pn26 := Pn24.same s25
            have Xn26 := Xn24.trans (Same.X s25)
            have w25 := (DeAll.mono (n2 := n' + 5) (m2 := m + 1) (by omega) (by omega) w21).app (DeAll.mono (n2 := n' + 5) (m2 := m + 1) (by omega) (by omega) w23)
            exact k _ _ _ (De.tup w25 c25 (by simp; omega) (by omega)) (Pn26.mono (by omega)) Xn26
          · refine ⟨_, rfl, _, rfl, _, rfl, p, o7, a, xs, hp7, rfl, q7, fun r21 G21 s21 c21 => ?_⟩
            replace q7 := sqT_same (delp_same (Same.X s21)) q7
            replace a7 := DeAll.same (Same.X s21) a7
            replace hp7 := s21 _ _ hp7
            have Pn22 := P7.same s21
            have Xn22 := X7.trans (Same.X s21)
            rw [KCut.cut_to (by omega)] at c21
            have w21 := a7.take i
            refine ⟨_, rfl, _, rfl, _, rfl, _, rfl, _, _, rfl, rfl, _, rfl, p, o7, a, xs, hp7, rfl, q7, fun r23 G23 s23 c23 => ?_⟩
            replace q7 := sqT_same (delp_same (Same.X s23)) q7
            replace c21 := sqT_same (delp_same (Same.X s23)) c21
            replace a7 := DeAll.same (Same.X s23) a7
            replace w21 := DeAll.same (Same.X s23) w21
            replace hp7 := s23 _ _ hp7
            have Pn24 := Pn22.same s23
            have Xn24 := Xn22.trans (Same.X s23)
            rw [show ((i : Int) + 2) = ((i + 2 : Nat) : Int) by omega, KCut.cut_two (by omega)] at c23
            have w23 := (a7.drop i).take 2
            refine ⟨_, _, rfl, sqT_same delp_le c23, by simp; omega, fun t9 f9 => ?_⟩
            have o9 := PenAt.off Pn24 f9
            have s9 : Same G23 (upd G23 t9 (.tup ((xs.drop i).take 2).reverse)) := Ab.same_up f9
            have e9 : (upd G23 t9 (.tup ((xs.drop i).take 2).reverse)) t9 = some (.tup ((xs.drop i).take 2).reverse) := upd_same
            generalize upd G23 t9 (.tup ((xs.drop i).take 2).reverse) = G9 at s9 e9 ⊢
            replace q7 := sqT_same (delp_same (Same.X s9)) q7
            replace c21 := sqT_same (delp_same (Same.X s9)) c21
            replace c23 := sqT_same (delp_same (Same.X s9)) c23
            replace a7 := DeAll.same (Same.X s9) a7
            replace w21 := DeAll.same (Same.X s9) w21
            replace w23 := DeAll.same (Same.X s9) w23
            replace hp7 := s9 _ _ hp7
            have Pn26 := Pn24.same s9
            have Xn26 := Xn24.trans (Same.X s9)
            have c9 : SqT K (delp p G9) t9 ((xs.drop i).take 2).reverse := SqT.of ((delp_ne o9).trans e9)
            have wt := DeAll.rev w23
            refine ⟨p, o7, _, _, _, _, hp7, rfl, rfl, c21, c9, sz9 (by rw [DeAll.len w21, DeAll.len wt]; simp; omega), fun r27 G27 s27 c27 => ?_⟩
            replace q7 := sqT_same (delp_same (Same.X s27)) q7
            replace c21 := sqT_same (delp_same (Same.X s27)) c21
            replace c23 := sqT_same (delp_same (Same.X s27)) c23
            replace c9 := sqT_same (delp_same (Same.X s27)) c9
            replace a7 := DeAll.same (Same.X s27) a7
            replace w21 := DeAll.same (Same.X s27) w21
            replace w23 := DeAll.same (Same.X s27) w23
            replace wt := DeAll.same (Same.X s27) wt
            replace hp7 := s27 _ _ hp7
            have Pn28 := Pn26.same s27
            have Xn28 := Xn26.trans (Same.X s27)
            have w27 := (DeAll.mono (n2 := n' + 5) (m2 := m + 1) (by omega) (by omega) w21).app (DeAll.mono (n2 := n' + 5) (m2 := m + 1) (by omega) (by omega) wt)
            refine ⟨_, rfl, _, rfl, _, _, rfl, rfl, _, rfl, p, o7, a, xs, hp7, rfl, q7, fun r29 G29 s29 c29 => ?_⟩
            replace q7 := sqT_same (delp_same (Same.X s29)) q7
            replace c21 := sqT_same (delp_same (Same.X s29)) c21
            replace c23 := sqT_same (delp_same (Same.X s29)) c23
            replace c9 := sqT_same (delp_same (Same.X s29)) c9
            replace c27 := sqT_same (delp_same (Same.X s29)) c27
            replace a7 := DeAll.same (Same.X s29) a7
            replace w21 := DeAll.same (Same.X s29) w21
            replace w23 := DeAll.same (Same.X s29) w23
            replace wt := DeAll.same (Same.X s29) wt
            replace w27 := DeAll.same (Same.X s29) w27
            replace hp7 := s29 _ _ hp7
            have Pn30 := Pn28.same s29
            have Xn30 := Xn28.trans (Same.X s29)
            rw [show ((i : Int) + 2) = ((i + 2 : Nat) : Int) by omega] at c29
            rw [KCut.cut_from] at c29
            have w29 := a7.drop (i + 2)
            refine ⟨p, o7, _, _, _, _, hp7, rfl, rfl, c27, c29, sz9 (by rw [DeAll.len w27, DeAll.len w29]; simp; omega), fun r31 G31 s31 c31 => ?_⟩
            replace q7 := sqT_same (delp_same (Same.X s31)) q7
            replace c21 := sqT_same (delp_same (Same.X s31)) c21
            replace c23 := sqT_same (delp_same (Same.X s31)) c23
            replace c9 := sqT_same (delp_same (Same.X s31)) c9
            replace c27 := sqT_same (delp_same (Same.X s31)) c27
            replace c29 := sqT_same (delp_same (Same.X s31)) c29
            replace a7 := DeAll.same (Same.X s31) a7
            replace w21 := DeAll.same (Same.X s31) w21
            replace w23 := DeAll.same (Same.X s31) w23
            replace wt := DeAll.same (Same.X s31) wt
            replace w27 := DeAll.same (Same.X s31) w27
            replace w29 := DeAll.same (Same.X s31) w29
            replace hp7 := s31 _ _ hp7
            have Pn32 := Pn30.same s31
            have Xn32 := Xn30.trans (Same.X s31)
            have w31 := (DeAll.mono (n2 := n' + 5) (m2 := m + 1) (by omega) (by omega) w27).app (DeAll.mono (n2 := n' + 5) (m2 := m + 1) (by omega) (by omega) w29)
            exact k _ _ _ (De.tup w31 c31 (by simp; omega) (by omega)) (Pn32.mono (by omega)) Xn32
      | _ => cases ht
end
end Hd

set_option Elab.async false
set_option linter.all false
set_option maxRecDepth 100000
set_option maxHeartbeats 8000000
namespace Hd
open PySem L2 Pen RG Dat KEq
abbrev sLaw : Stmt := top 47
/-- list(t), behind the modules' dict -/
theorem call_listT {X : Cx} : CallR X (.type "list") (fun xs G Want => ∃ (p : Addr) (ys : List V), xs = [.ref p] ∧ SqT X.K G p ys ∧ ∀ l G2, G l = none → l ≠ sysModules → Same G G2 → G2 l = some (.lst ys) → Want (.ref l) G2) := by
  intro pins st σ G xs us Want I r h
  obtain ⟨p, ys, rfl, hq, q⟩ := h
  obtain ⟨u, rfl, rx⟩ := vals1 r
  cases rx
  obtain ⟨its, rv, ⟨ob, there, oc, n, od⟩, hz⟩ := I.tuple hq
  have same := rv.length
  refine call_list_seq p (.inr rfl) there oc od (fun h' c' keep at_ => ?_) (by simp only [List.size_toArray]; omega)
  have free := I.hok.fresh (Nat.le_refl st.heap.objs.size)
  exact ⟨.ref st.heap.objs.size, _, I.laid (t' := st.toks) (o := .lst ys) keep (Nat.le_refl _) ⟨hz, its, c', rv, at_⟩, rfl, q _ _ free (Nat.ne_of_gt I.big) (Ab.same_up free) upd_same⟩
def spLaw (K : PySem.W.Frag) : Sp := fun vs H Q _ => ∃ (a : Addr) (ns : List Int), vs = [.ref a] ∧ SqL K H a (ns.map V.int) ∧ ns.length ≤ 63 ∧ ∀ G', Q (.bl true) G'
theorem shown_bl (b : Bool) : (PyData.bool b).showable = true ∧ (PyData.bool b).depth ≤ 64 ∧ (PyData.bool b).shown.length ≤ sizeLine := by
  cases b <;> exact ⟨rfl, by decide, by decide⟩
section
variable {P : Program} {w : World} {K : PySem.W.Frag} {mg : Str → Option Value} {base : Heap}
theorem scLaw : FnScope ["_law_script", "_law_pen_here", "_law_turn", "_law_handler_here", "_law_tried", "_law_again", "_law_bent_here", "_law_thing"] ["_law_script"] (defScope sLaw) := ⟨rfl, rfl, rfl, by decide +kernel, rfl, by decide +kernel, by decide +kernel⟩
theorem ok_law {fL f1 f2 f3 f4 f5 f6 f7 f8 f9 : Addr} {dL d1 d2 d3 d4 d5 d6 d7 d8 d9 : FuncData} (F : Fun K "law" "law" sLaw fL dL) (TP : TxtP mg) (TR : mg "range" = none) (TRp : mg "repr" = none)
    (GPen : FnOk P w K mg base CX0 1 f1 d1 ["_law_script"] (spPen K)) (TPen : DefT K mg "_law_pen" f1) (bPen : Binds K d1 ["_law_script"] [])
    (GWd : FnOk P w K mg base CX0 3 f2 d2 ["_law_pen_here", "_law_many"] spWd) (TWd : DefT K mg "_law_words" f2) (bWd : Binds K d2 ["_law_pen_here", "_law_many"] [])
    (GHn : FnOk P w K mg base CX0 25 f3 d3 ["_law_pen_here", "_law_names", "_law_keys", "_law_kinds", "_law_sends"] (spHn K)) (THn : DefT K mg "_law_handler" f3) (bHn : Binds K d3 ["_law_pen_here", "_law_names", "_law_keys", "_law_kinds", "_law_sends"] [])
    (GOdd : FnOk P w K mg base CX0 3 f4 d4 ["_law_pen_here"] (spOdd K)) (TOdd : DefT K mg "_law_odd" f4) (bOdd : Binds K d4 ["_law_pen_here"] [])
    (GAl : FnOk P w K mg base CX0 3 f5 d5 ["_law_pen_here"] (spAl K)) (TAl : DefT K mg "_law_at_limits" f5) (bAl : Binds K d5 ["_law_pen_here"] [])
    (GBt : FnOk P w K mg base CX0 35 f6 d6 ["_law_pen_here", "_law_thing"] (spBt K 31)) (TBt : DefT K mg "_law_bent" f6) (bBt : Binds K d6 ["_law_pen_here", "_law_thing"] [])
    (GPick : FnOk P w K mg base CX0 2 f7 d7 ["_law_pen_here", "_law_items"] (spPick K)) (TPick : DefT K mg "_law_pick" f7) (bPick : Binds K d7 ["_law_pen_here", "_law_items"] [])
    (GHand : FnOk P w K mg base CX0 27 f8 d8 ["value"] (spHand K)) (THand : DefT K mg "is_handler" f8) (bHand : Binds K d8 ["value"] [])
    (GLI : FnOk P w K mg base CX0 27 f9 d9 ["_law_thing"] (spHand K)) (TLI : DefT K mg "_law_is_handler" f9) (bLI : Binds K d9 ["_law_thing"] []) : FnG P w K mg base CX0 41 fL dL ["_law_script"] (spLaw K) := by
  refine okG (n := 40) F scLaw (fun ys G Want Err h => ?_) (fun cd B up st G ys Want Err hg hr told => ?_)
  · obtain ⟨a, ns, rfl, _⟩ := h
    rfl
  · obtain ⟨a, ns, rfl, hS, hlen, kk⟩ := told
    refine ⟨_, (pss_cons (ps_set (i := 1) scLaw.nd rfl (Or.inl rfl) (pe_call GPen (hr.mono (by decide)) rfl TPen.mg TPen.kp bPen .nil pass0 (pa_cons (pv 0) pa_nil)))
      (pss_cons (ps_for PassesOwn.never rfl (pi_range1 (by rfl) TR (pa_cons pe_int pa_nil)) (pg_name (i := 2) scLaw.nd rfl (Or.inl rfl)) (pss_cons (ps_set (i := 3) scLaw.nd rfl (Or.inl rfl) (pe_call GHn (hr.mono (by decide)) rfl THn.mg THn.kp bHn .nil pass0 (pa_cons (pv 1) (pa_cons (pe_call GWd (hr.mono (by decide)) rfl TWd.mg TWd.kp bWd .nil pass0 (pa_cons (pv 1) (pa_cons pe_int pa_nil))) (pa_cons (pe_call GWd (hr.mono (by decide)) rfl TWd.mg TWd.kp bWd .nil pass0 (pa_cons (pv 1) (pa_cons pe_int pa_nil))) (pa_cons (pe_call GWd (hr.mono (by decide)) rfl TWd.mg TWd.kp bWd .nil pass0 (pa_cons (pv 1) (pa_cons pe_int pa_nil))) (pa_cons pe_int pa_nil)))))))
      (pss_cons (ps_set (i := 4) scLaw.nd rfl (Or.inl rfl) (Ab.pe_lstA (pa_cons (pv 3) (pa_cons (pe_call GOdd (hr.mono (by decide)) rfl TOdd.mg TOdd.kp bOdd .nil pass0 (pa_cons (pv 1) pa_nil)) (pa_cons (pe_call GAl (hr.mono (by decide)) rfl TAl.mg TAl.kp bAl .nil pass0 (pa_cons (pv 1) pa_nil)) (pa_cons (pe_callTy call_listT (by rfl) TP.list PyProof.Rows.boot_list (pa_cons (pv 3) pa_nil)) pa_nil))))))
      (pss_cons (ps_for PassesOwn.never rfl (pi_range1 (by rfl) TR (pa_cons pe_int pa_nil)) (pg_name (i := 5) scLaw.nd rfl (Or.inl rfl)) (pss_cons (ps_set (i := 6) scLaw.nd rfl (Or.inl rfl) (pe_call GBt (hr.mono (by decide)) rfl TBt.mg TBt.kp bBt .nil pass0 (pa_cons (pv 1) (pa_cons (pe_call GPick (hr.mono (by decide)) rfl TPick.mg TPick.kp bPick .nil pass0 (pa_cons (pv 1) (pa_cons (Ab.pe_lstA (pa_cons (pv 3) (pa_cons (pv 3) (pa_cons (pe_call GAl (hr.mono (by decide)) rfl TAl.mg TAl.kp bAl .nil pass0 (pa_cons (pv 1) pa_nil)) pa_nil)))) pa_nil))) pa_nil))))
      (pss_one (ps_set (i := 4) scLaw.nd rfl (Or.inl rfl) (pe_op Ab.op_catA (pv 4) (Ab.pe_lstA (pa_cons (pv 6) (pa_cons (pe_call GBt (hr.mono (by decide)) rfl TBt.mg TBt.kp bBt .nil pass0 (pa_cons (pv 1) (pa_cons (pv 6) pa_nil))) pa_nil))))))))
      (pss_one (ps_for PassesOwn.never rfl (pi_list (pv 4)) (pg_name (i := 7) scLaw.nd rfl (Or.inl rfl)) (pss_one (ps_if (pt_cmpR op_ne (pe_callB (call_repr hg hr) (by rfl) TRp (by decide +kernel) (pa_cons (pe_call GHand (hr.mono (by decide)) rfl THand.mg THand.kp bHand .nil pass0 (pa_cons (pv 7) pa_nil)) pa_nil)) (pe_callB (call_repr hg hr) (by rfl) TRp (by decide +kernel) (pa_cons (pe_call GLI (hr.mono (by decide)) rfl TLI.mg TLI.kp bLI .nil pass0 (pa_cons (pv 7) pa_nil)) pa_nil)) (nomark _)) (pss_one (ps_ret pe_bl)) pss_nil))))))))
      (pss_one (ps_ret (pe_cmpR op_isBl (pe_call GHand (hr.mono (by decide)) rfl THand.mg THand.kp bHand .nil pass0 (pa_cons (Ab.pe_tupA pa_nil) pa_nil)) pe_bl (nomark _)))))), ?_⟩
    refine ⟨_, rfl, a, ns, rfl, hS, hlen, fun p c H1 np Pn s1 => ?_⟩
    refine ⟨14, rfl, by decide, by decide, for_range (n := 14) (fun i σ H => σ.length = 8 ∧ σ[1]? = some (some (.ref p)) ∧ PenAt H p c ns (2 ^ 28 * i)) ⟨rfl, rfl, Pn⟩ ?_ ?_⟩
    · intro i σ G hi ⟨L0, v1, P0⟩
      have z1 : (σ.set 2 (some (V.int (0 + (i : Int)))))[1]? = some (some (.ref p)) := by simp [v1]
      refine ⟨_, z1, _, z1, p, c, ns, _, 2, rfl, P0, hlen, by omega, by omega, by omega, fun la Ga fa na Pa xa => ?_⟩
      refine ⟨_, z1, p, c, ns, _, 2, rfl, Pa, hlen, by omega, by omega, by omega, fun lb Gb fb nb Pb xb => ?_⟩
      refine ⟨_, z1, p, c, ns, _, 2, rfl, Pb, hlen, by omega, by omega, by omega, fun lc Gc fc nc Pc xc => ?_⟩
      refine ⟨p, c, ns, _, la, lb, lc, 12, rfl, Pc, hlen, by omega, na.same Pa (xb.trans xc), nb.same Pb xc, nc, fun hv hds Gd wd hl5 Pd xd => ?_⟩
      have y1 : ((σ.set 2 (some (V.int (0 + (i : Int))))).set 3 (some hv))[1]? = some (some (.ref p)) := by simp [v1]
      have y3 : ((σ.set 2 (some (V.int (0 + (i : Int))))).set 3 (some hv))[3]? = some (some hv) := by simp [L0]
      refine ⟨_, y3, _, y1, p, c, ns, _, rfl, Pd, hlen, by omega, fun o1 od Ge me re Pe xe => ?_⟩
      refine ⟨_, y1, p, c, ns, _, rfl, Pe, hlen, by omega, fun av ad Gf wf Pf xf => ?_⟩
      have wd1 := wd.de
      have hq0 : ∃ (ha : Addr) (hxs : List V), hv = .ref ha ∧ SqT K (delp p Gd) ha hxs ∧ RpAll K (delp p Gd) hxs hds := by
        obtain ⟨rr, _⟩ := wd1
        cases rr with
        | tup q r => exact ⟨_, _, rfl, q, r⟩
      obtain ⟨ha, hxs, rfl, qd, rd⟩ := hq0
      refine ⟨_, y3, ha, hxs, rfl, sqT_same delp_le (sqT_same (delp_same (xe.trans xf)) qd), fun ll Gg fg ng sg eg => ?_⟩
      have ol := PenAt.off Pf fg
      refine ⟨sz (by simp), fun lt Gh fh nh sh eh => ?_⟩
      have xgh : SameX p Gd Gh := (xe.trans xf).trans (Same.X (sg.trans sh))
      have wlist : De K p Gh 40 30 (.ref ll) (.list hds) := by
        refine ⟨.lst (SqL.of ((delp_ne ol).trans (sh _ _ eg))) (RpAll.same (delp_same xgh) rd) ng, rfl, ?_, Nat.zero_le _⟩
        have z : PyData.depthAll hds + 1 ≤ 16 := wd1.2.2.1
        show PyData.depthAll hds + 1 ≤ 40
        omega
      have whn : De K p Gh 24 20 (.ref ha) (.tuple hds) := (wd1.mono (by omega) (by omega)).same xgh
      have tr0 : DeAll K p Gh 40 30 [.ref ha, o1, av, .ref ll] [.tuple hds, od, ad, .list hds] :=
        .cons (whn.mono (by omega) (by omega)) (.cons (((odd_de me re).mono (by omega) (by omega)).same (xf.trans (Same.X (sg.trans sh)))) (.cons ((wf.de.mono (by omega) (by omega)).same (Same.X (sg.trans sh))) (.cons wlist .nil)))
      have Ph := (Pf.same sg).same sh
      have q0 : (((σ.set 2 (some (V.int (0 + (i : Int))))).set 3 (some (V.ref ha))).set 4 (some (V.ref lt))).length = 8 := by simp [L0]
      have q1 : (((σ.set 2 (some (V.int (0 + (i : Int))))).set 3 (some (V.ref ha))).set 4 (some (V.ref lt)))[1]? = some (some (V.ref p)) := by simp [v1]
      have q3 : (((σ.set 2 (some (V.int (0 + (i : Int))))).set 3 (some (V.ref ha))).set 4 (some (V.ref lt)))[3]? = some (some (V.ref ha)) := by simp [L0]
      have q4 : (((σ.set 2 (some (V.int (0 + (i : Int))))).set 3 (some (V.ref ha))).set 4 (some (V.ref lt)))[4]? = some (some (V.ref lt)) := by simp [L0]
      refine ⟨6, rfl, by decide, by decide, for_range (n := 6) (fun j τ H => τ.length = 8 ∧ τ[1]? = some (some (.ref p)) ∧ τ[3]? = some (some (.ref ha)) ∧ (∃ (l : Addr) (xs : List V) (ds : List PyData), τ[4]? = some (some (.ref l)) ∧ H l = some (.lst xs) ∧ l ≠ p ∧ xs.length ≤ 4 + 2 * j ∧ DeAll K p H 40 30 xs ds) ∧ De K p H 24 20 (.ref ha) (.tuple hds) ∧ PenAt H p c ns (2 ^ 28 * i + 2 ^ 27 + 1000 * j)) ⟨q0, q1, q3, ⟨lt, _, _, q4, eh, PenAt.off (Pf.same sg) fh, by simp, tr0⟩, whn, Ph.mono (by omega)⟩ ?_ ?_⟩
      · intro j τ H hj ⟨t0, t1, t3, ⟨l, xs, ds, t4, el, ol', lx, dl⟩, wh, P7⟩
        have u0 : (τ.set 5 (some (V.int (0 + (j : Int))))).length = 8 := by simp [t0]
        have u1 : (τ.set 5 (some (V.int (0 + (j : Int)))))[1]? = some (some (V.ref p)) := by simp [t1]
        have u3 : (τ.set 5 (some (V.int (0 + (j : Int)))))[3]? = some (some (V.ref ha)) := by simp [t3]
        have u4 : (τ.set 5 (some (V.int (0 + (j : Int)))))[4]? = some (some (V.ref l)) := by simp [t4]
        refine ⟨_, u1, _, u1, _, u3, _, u3, _, u1, p, c, ns, _, rfl, P7, hlen, by omega, fun a2 ad2 Ha wa Pa2 xa2 => ⟨sz (by simp), fun lp Hb fb2 nb2 sb2 eb2 => ?_⟩⟩
        refine ⟨p, c, ns, _, lp, _, rfl, Pa2.same sb2, hlen, by omega, eb2, by simp, by simp, fun pv Hc hpv Pc2 xc2 => ?_⟩
        have xac := (xa2.trans (Same.X sb2)).trans xc2
        have three : DeAll K p Hc 24 20 [.ref ha, .ref ha, a2] [.tuple hds, .tuple hds, ad2] := .cons (wh.same xac) (.cons (wh.same xac) (.cons (wa.de.same ((Same.X sb2).trans xc2)) .nil))
        obtain ⟨pd, wp⟩ := three.mem hpv
        refine ⟨p, c, ns, _, pv, pd, 24, 20, rfl, by omega, by omega, by omega, by omega, wp, Pc2, hlen, by omega, fun bv bd Hd' wb Pd2 xd2 => ?_⟩
        have e1 : ((τ.set 5 (some (V.int (0 + (j : Int))))).set 6 (some bv))[1]? = some (some (V.ref p)) := by simp [t1]
        have e4 : ((τ.set 5 (some (V.int (0 + (j : Int))))).set 6 (some bv))[4]? = some (some (V.ref l)) := by simp [t4]
        have e6 : ((τ.set 5 (some (V.int (0 + (j : Int))))).set 6 (some bv))[6]? = some (some bv) := by simp [t0]
        refine ⟨_, e4, _, e6, _, e1, _, e6, p, c, ns, _, bv, bd, 29, 21, rfl, by omega, by omega, by omega, by omega, wb, Pd2, hlen, by omega, fun cv cdd He wc Pe2 xe2 => ⟨sz (by simp), fun ln Hf ff nf sf ef => ?_⟩⟩
        have xall := ((xac.trans xd2).trans xe2).trans (Same.X sf)
        have elf := xall _ _ ol' el
        refine ⟨l, ln, xs, _, rfl, rfl, elf, ef, sz (by simp; omega), fun lr Hg fgr sgr egr => ?_⟩
        have Pf2 := Pe2.same sf
        have both : DeAll K p Hg 40 30 (xs ++ [bv, cv]) (ds ++ [bd, cdd]) := (DeAll.same (xall.trans (Same.X sgr)) dl).app (.cons ((wb.mono (by omega) (by omega)).same (xe2.trans (Same.X (sf.trans sgr)))) (.cons ((wc.mono (by omega) (by omega)).same (Same.X (sf.trans sgr))) .nil))
        exact ⟨by simp [t0], by simp [t1], by simp [t3], ⟨lr, _, _, by simp [t0], egr, PenAt.off Pf2 fgr, by simp; omega, both⟩, wh.same (xall.trans (Same.X sgr)), (Pf2.same sgr).mono (by omega)⟩
      · intro τ H ⟨t0, t1, t3, ⟨l, xs, ds, t4, el, ol', lx, dl⟩, wh, P7⟩
        refine ⟨_, t4, l, rfl, ⟨_, SqL.of el⟩, for_list (xs := xs) (fun j ρ G2 => ρ.length = 8 ∧ ρ[1]? = some (some (.ref p)) ∧ Same H G2) ⟨t0, t1, .refl _⟩ ?_ ?_ ?_⟩
        · intro j ρ G2 _ ⟨_, _, s⟩
          exact SqL.of (s _ _ el)
        · intro j x ρ G2 hx ⟨p0, p1, s⟩
          obtain ⟨dx, wx⟩ := dl.mem (List.mem_of_getElem? hx)
          have e7 : (ρ.set 7 (some x))[7]? = some (some x) := by simp [p0]
          have rx : Rp K G2 x dx := Rp.same s (Rp.same delp_le wx.1)
          obtain ⟨b1, b2, b3⟩ := shown_bl (hOk dx)
          refine ⟨_, e7, x, dx, rfl, rx, wx.2.1, fun Ha sa => ⟨.bl _, .bool _, rfl, .bl _, b1, b2, b3, ?_⟩⟩
          refine ⟨_, e7, x, dx, rfl, Rp.same sa rx, wx.2.1, fun Hb sb => ⟨.bl _, .bool _, rfl, .bl _, b1, b2, b3, rfl, false, by simp, iteF ?_⟩⟩
          exact ⟨by simp [p0], by simp [p1], (s.trans sa).trans sb⟩
        · intro ρ G2 ⟨p0, p1, s⟩
          exact ⟨p0, p1, (P7.same s).mono (by omega)⟩
    · intro σ G ⟨L0, v1, P0⟩
      refine ⟨sz (by simp), fun t Gt ft st et => ?_⟩
      refine ⟨.ref t, .tuple [], rfl, .tup (SqT.of et) .nil, rfl, fun Ga sa => ⟨_, _, rfl, rfl, ?_⟩⟩
      have : decide (hOk (.tuple []) = true) = true := by decide
      rw [this]
      exact kk _
end
end Hd

set_option Elab.async false
set_option linter.all false
set_option maxRecDepth 100000
set_option maxHeartbeats 8000000
namespace Hd
open PySem L2 Pen RG Dat KEq
theorem all_mk {l : PySem.W.OpenLaw} {w : World} {K : PySem.W.Frag} {h : Heap} {mg : Str → Option Value} {fa g0 g1 g2 g3 g4 g5 g6 g7 g8 g9 g10 g11 g12 g13 g14 g15 g16 g17 g18 g19 g20 g21 g22 g23 g24 g25 g26 g27 g28 g29 g30 g31 g32 g33 g34 g35 g36 g37 dt4 dt5 : Addr} {god0 gan0 god1 gan1 god2 gan2 god3 gan3 god4 gan4 god5 gan5 god6 gan6 god7 gan7 god8 gan8 god9 gan9 god10 gan10 god11 gan11 god12 gan12 god13 gan13 god14 gan14 god15 gan15 god16 gan16 god17 gan17 god18 gan18 god19 gan19 god20 gan20 god21 gan21 god22 gan22 god23 gan23 god24 gan24 god25 gan25 god26 gan26 god27 gan27 god28 gan28 god29 gan29 god30 gan30 god31 gan31 god32 gan32 god33 gan33 god34 gan34 god35 gan35 god36 gan36 god37 gan37 dod4 dod5 : Option Addr} {goc0 gkV0 gdc0 gpm0 gcd0 gct0 goc1 gkV1 gdc1 gpm1 gcd1 gct1 goc2 gkV2 gdc2 gpm2 gcd2 gct2 goc3 gkV3 gdc3 gpm3 gcd3 gct3 goc4 gkV4 gdc4 gpm4 gcd4 gct4 goc5 gkV5 gdc5 gpm5 gcd5 gct5 goc6 gkV6 gdc6 gpm6 gcd6 gct6 goc7 gkV7 gdc7 gpm7 gcd7 gct7 goc8 gkV8 gdc8 gpm8 gcd8 gct8 goc9 gkV9 gdc9 gpm9 gcd9 gct9 goc10 gkV10 gdc10 gpm10 gcd10 gct10 goc11 gkV11 gdc11 gpm11 gcd11 gct11 goc12 gkV12 gdc12 gpm12 gcd12 gct12 goc13 gkV13 gdc13 gpm13 gcd13 gct13 goc14 gkV14 gdc14 gpm14 gcd14 gct14 goc15 gkV15 gdc15 gpm15 gcd15 gct15 goc16 gkV16 gdc16 gpm16 gcd16 gct16 goc17 gkV17 gdc17 gpm17 gcd17 gct17 goc18 gkV18 gdc18 gpm18 gcd18 gct18 goc19 gkV19 gdc19 gpm19 gcd19 gct19 goc20 gkV20 gdc20 gpm20 gcd20 gct20 goc21 gkV21 gdc21 gpm21 gcd21 gct21 goc22 gkV22 gdc22 gpm22 gcd22 gct22 goc23 gkV23 gdc23 gpm23 gcd23 gct23 goc24 gkV24 gdc24 gpm24 gcd24 gct24 goc25 gkV25 gdc25 gpm25 gcd25 gct25 goc26 gkV26 gdc26 gpm26 gcd26 gct26 goc27 gkV27 gdc27 gpm27 gcd27 gct27 goc28 gkV28 gdc28 gpm28 gcd28 gct28 goc29 gkV29 gdc29 gpm29 gcd29 gct29 goc30 gkV30 gdc30 gpm30 gcd30 gct30 goc31 gkV31 gdc31 gpm31 gcd31 gct31 goc32 gkV32 gdc32 gpm32 gcd32 gct32 goc33 gkV33 gdc33 gpm33 gcd33 gct33 goc34 gkV34 gdc34 gpm34 gcd34 gct34 goc35 gkV35 gdc35 gpm35 gcd35 gct35 goc36 gkV36 gdc36 gpm36 gcd36 gct36 goc37 gkV37 gdc37 gpm37 gcd37 gct37 doc4 doc5 : Value} {gsl0 gsl1 gsl2 gsl3 gsl4 gsl5 gsl6 gsl7 gsl8 gsl9 gsl10 gsl11 gsl12 gsl13 gsl14 gsl15 gsl16 gsl17 gsl18 gsl19 gsl20 gsl21 gsl22 gsl23 gsl24 gsl25 gsl26 gsl27 gsl28 gsl29 gsl30 gsl31 gsl32 gsl33 gsl34 gsl35 gsl36 gsl37 dsl4 dsl5 : Array (Option Value)} {tB1 tB2 tB3 tB4 tB5 dtk4 dtk5 : Tok} {dn4 dn5 : Nat} (X : K.In h) (G : h.Ns mainGlobals mg) (hfa : mg "law" = some (.ref fa))
    (z_isinstance : PySem.W.nsIn K mainGlobals "isinstance" = some none)
    (z_len : PySem.W.nsIn K mainGlobals "len" = some none)
    (z_all : PySem.W.nsIn K mainGlobals "all" = some none)
    (z_int : PySem.W.nsIn K mainGlobals "int" = some none)
    (z_bool : PySem.W.nsIn K mainGlobals "bool" = some none)
    (z_str : PySem.W.nsIn K mainGlobals "str" = some none)
    (z_tuple : PySem.W.nsIn K mainGlobals "tuple" = some none)
    (z_abs : PySem.W.nsIn K mainGlobals "abs" = some none)
    (z_list : PySem.W.nsIn K mainGlobals "list" = some none)
    (z_range : PySem.W.nsIn K mainGlobals "range" = some none)
    (z_repr : PySem.W.nsIn K mainGlobals "repr" = some none)
    (z_sum : PySem.W.nsIn K mainGlobals "sum" = some none)
    (cB : PySem.W.nsIn K mainGlobals "BOUND" = some (some (.int 99 tB1)))
    (cL : PySem.W.nsIn K mainGlobals "LONGEST_WORD" = some (some (.int 6 tB2)))
    (cA : PySem.W.nsIn K mainGlobals "LETTERS" = some (some (.str abc tB3)))
    (cM : PySem.W.nsIn K mainGlobals "MOST_DEEDS" = some (some (.int 12 tB4)))
    (cI : PySem.W.nsIn K mainGlobals "MOST_IFS" = some (some (.int 3 tB5)))
    (aD0 : PySem.W.nsIn K mainGlobals "is_number" = some (some (.ref g0)))
    (lD0 : K.lookup g0 = some ⟨goc0, god0, .func (PySem.W.fnOf "is_number" "is_number" (defArgs sNum) (defBody sNum) (defScope sNum) .none gkV0 gdc0 gpm0 gan0 gcd0 gct0), gsl0⟩)
    (cD0 : PySem.W.codeIn K gcd0 "is_number" = true)
    (kD0 : PySem.W.keepIn K (.ref g0) = true)
    (aD1 : PySem.W.nsIn K mainGlobals "is_value" = some (some (.ref g1)))
    (lD1 : K.lookup g1 = some ⟨goc1, god1, .func (PySem.W.fnOf "is_value" "is_value" (defArgs sVal) (defBody sVal) (defScope sVal) .none gkV1 gdc1 gpm1 gan1 gcd1 gct1), gsl1⟩)
    (cD1 : PySem.W.codeIn K gcd1 "is_value" = true)
    (kD1 : PySem.W.keepIn K (.ref g1) = true)
    (aD2 : PySem.W.nsIn K mainGlobals "is_word" = some (some (.ref g2)))
    (lD2 : K.lookup g2 = some ⟨goc2, god2, .func (PySem.W.fnOf "is_word" "is_word" (defArgs sWord) (defBody sWord) (defScope sWord) .none gkV2 gdc2 gpm2 gan2 gcd2 gct2), gsl2⟩)
    (cD2 : PySem.W.codeIn K gcd2 "is_word" = true)
    (kD2 : PySem.W.keepIn K (.ref g2) = true)
    (aD3 : PySem.W.nsIn K mainGlobals "is_tuple_of" = some (some (.ref g3)))
    (lD3 : K.lookup g3 = some ⟨goc3, god3, .func (PySem.W.fnOf "is_tuple_of" "is_tuple_of" (defArgs sTof) (defBody sTof) (defScope sTof) .none gkV3 gdc3 gpm3 gan3 gcd3 gct3), gsl3⟩)
    (cD3 : PySem.W.codeIn K gcd3 "is_tuple_of" = true)
    (kD3 : PySem.W.keepIn K (.ref g3) = true)
    (aD4 : PySem.W.nsIn K mainGlobals "is_expression" = some (some (.ref g4)))
    (lD4 : K.lookup g4 = some ⟨goc4, god4, .func (PySem.W.fnOf "is_expression" "is_expression" (defArgs sExp) (defBody sExp) (defScope sExp) (.ref dt4) gkV4 gdc4 gpm4 gan4 gcd4 gct4), gsl4⟩)
    (cD4 : PySem.W.codeIn K gcd4 "is_expression" = true)
    (kD4 : PySem.W.keepIn K (.ref g4) = true)
    (aD5 : PySem.W.nsIn K mainGlobals "is_condition" = some (some (.ref g5)))
    (lD5 : K.lookup g5 = some ⟨goc5, god5, .func (PySem.W.fnOf "is_condition" "is_condition" (defArgs sCon) (defBody sCon) (defScope sCon) (.ref dt5) gkV5 gdc5 gpm5 gan5 gcd5 gct5), gsl5⟩)
    (cD5 : PySem.W.codeIn K gcd5 "is_condition" = true)
    (kD5 : PySem.W.keepIn K (.ref g5) = true)
    (aD6 : PySem.W.nsIn K mainGlobals "is_handler" = some (some (.ref g6)))
    (lD6 : K.lookup g6 = some ⟨goc6, god6, .func (PySem.W.fnOf "is_handler" "is_handler" (defArgs sHand) (defBody sHand) (defScope sHand) .none gkV6 gdc6 gpm6 gan6 gcd6 gct6), gsl6⟩)
    (cD6 : PySem.W.codeIn K gcd6 "is_handler" = true)
    (kD6 : PySem.W.keepIn K (.ref g6) = true)
    (aD7 : PySem.W.nsIn K mainGlobals "room_after" = some (some (.ref g7)))
    (lD7 : K.lookup g7 = some ⟨goc7, god7, .func (PySem.W.fnOf "room_after" "room_after" (defArgs sRoom) (defBody sRoom) (defScope sRoom) .none gkV7 gdc7 gpm7 gan7 gcd7 gct7), gsl7⟩)
    (cD7 : PySem.W.codeIn K gcd7 "room_after" = true)
    (kD7 : PySem.W.keepIn K (.ref g7) = true)
    (aD8 : PySem.W.nsIn K mainGlobals "room_after_deed" = some (some (.ref g8)))
    (lD8 : K.lookup g8 = some ⟨goc8, god8, .func (PySem.W.fnOf "room_after_deed" "room_after_deed" (defArgs sDeed) (defBody sDeed) (defScope sDeed) .none gkV8 gdc8 gpm8 gan8 gcd8 gct8), gsl8⟩)
    (cD8 : PySem.W.codeIn K gcd8 "room_after_deed" = true)
    (kD8 : PySem.W.keepIn K (.ref g8) = true)
    (aD9 : PySem.W.nsIn K mainGlobals "is_single_deed" = some (some (.ref g9)))
    (lD9 : K.lookup g9 = some ⟨goc9, god9, .func (PySem.W.fnOf "is_single_deed" "is_single_deed" (defArgs sOne) (defBody sOne) (defScope sOne) .none gkV9 gdc9 gpm9 gan9 gcd9 gct9), gsl9⟩)
    (cD9 : PySem.W.codeIn K gcd9 "is_single_deed" = true)
    (kD9 : PySem.W.keepIn K (.ref g9) = true)
    (aD10 : PySem.W.nsIn K mainGlobals "is_key" = some (some (.ref g10)))
    (lD10 : K.lookup g10 = some ⟨goc10, god10, .func (PySem.W.fnOf "is_key" "is_key" (defArgs sKey) (defBody sKey) (defScope sKey) .none gkV10 gdc10 gpm10 gan10 gcd10 gct10), gsl10⟩)
    (cD10 : PySem.W.codeIn K gcd10 "is_key" = true)
    (kD10 : PySem.W.keepIn K (.ref g10) = true)
    (aD11 : PySem.W.nsIn K mainGlobals "_law_pen" = some (some (.ref g11)))
    (lD11 : K.lookup g11 = some ⟨goc11, god11, .func (PySem.W.fnOf "_law_pen" "_law_pen" (defArgs sPen) (defBody sPen) (defScope sPen) .none gkV11 gdc11 gpm11 gan11 gcd11 gct11), gsl11⟩)
    (cD11 : PySem.W.codeIn K gcd11 "_law_pen" = true)
    (kD11 : PySem.W.keepIn K (.ref g11) = true)
    (aD12 : PySem.W.nsIn K mainGlobals "_law_draw" = some (some (.ref g12)))
    (lD12 : K.lookup g12 = some ⟨goc12, god12, .func (PySem.W.fnOf "_law_draw" "_law_draw" (defArgs sDraw) (defBody sDraw) (defScope sDraw) .none gkV12 gdc12 gpm12 gan12 gcd12 gct12), gsl12⟩)
    (cD12 : PySem.W.codeIn K gcd12 "_law_draw" = true)
    (kD12 : PySem.W.keepIn K (.ref g12) = true)
    (aD13 : PySem.W.nsIn K mainGlobals "_law_pick" = some (some (.ref g13)))
    (lD13 : K.lookup g13 = some ⟨goc13, god13, .func (PySem.W.fnOf "_law_pick" "_law_pick" (defArgs sPick) (defBody sPick) (defScope sPick) .none gkV13 gdc13 gpm13 gan13 gcd13 gct13), gsl13⟩)
    (cD13 : PySem.W.codeIn K gcd13 "_law_pick" = true)
    (kD13 : PySem.W.keepIn K (.ref g13) = true)
    (aD14 : PySem.W.nsIn K mainGlobals "_law_words" = some (some (.ref g14)))
    (lD14 : K.lookup g14 = some ⟨goc14, god14, .func (PySem.W.fnOf "_law_words" "_law_words" (defArgs sWd) (defBody sWd) (defScope sWd) .none gkV14 gdc14 gpm14 gan14 gcd14 gct14), gsl14⟩)
    (cD14 : PySem.W.codeIn K gcd14 "_law_words" = true)
    (kD14 : PySem.W.keepIn K (.ref g14) = true)
    (aD15 : PySem.W.nsIn K mainGlobals "_law_number" = some (some (.ref g15)))
    (lD15 : K.lookup g15 = some ⟨goc15, god15, .func (PySem.W.fnOf "_law_number" "_law_number" (defArgs sNm) (defBody sNm) (defScope sNm) .none gkV15 gdc15 gpm15 gan15 gcd15 gct15), gsl15⟩)
    (cD15 : PySem.W.codeIn K gcd15 "_law_number" = true)
    (kD15 : PySem.W.keepIn K (.ref g15) = true)
    (aD16 : PySem.W.nsIn K mainGlobals "_law_odd" = some (some (.ref g16)))
    (lD16 : K.lookup g16 = some ⟨goc16, god16, .func (PySem.W.fnOf "_law_odd" "_law_odd" (defArgs sOdd) (defBody sOdd) (defScope sOdd) .none gkV16 gdc16 gpm16 gan16 gcd16 gct16), gsl16⟩)
    (cD16 : PySem.W.codeIn K gcd16 "_law_odd" = true)
    (kD16 : PySem.W.keepIn K (.ref g16) = true)
    (aD17 : PySem.W.nsIn K mainGlobals "_law_leaf" = some (some (.ref g17)))
    (lD17 : K.lookup g17 = some ⟨goc17, god17, .func (PySem.W.fnOf "_law_leaf" "_law_leaf" (defArgs sLeaf) (defBody sLeaf) (defScope sLeaf) .none gkV17 gdc17 gpm17 gan17 gcd17 gct17), gsl17⟩)
    (cD17 : PySem.W.codeIn K gcd17 "_law_leaf" = true)
    (kD17 : PySem.W.keepIn K (.ref g17) = true)
    (aD18 : PySem.W.nsIn K mainGlobals "_law_e" = some (some (.ref g18)))
    (lD18 : K.lookup g18 = some ⟨goc18, god18, .func (PySem.W.fnOf "_law_e" "_law_e" (defArgs sE) (defBody sE) (defScope sE) .none gkV18 gdc18 gpm18 gan18 gcd18 gct18), gsl18⟩)
    (cD18 : PySem.W.codeIn K gcd18 "_law_e" = true)
    (kD18 : PySem.W.keepIn K (.ref g18) = true)
    (aD19 : PySem.W.nsIn K mainGlobals "_law_c" = some (some (.ref g19)))
    (lD19 : K.lookup g19 = some ⟨goc19, god19, .func (PySem.W.fnOf "_law_c" "_law_c" (defArgs sC) (defBody sC) (defScope sC) .none gkV19 gdc19 gpm19 gan19 gcd19 gct19), gsl19⟩)
    (cD19 : PySem.W.codeIn K gcd19 "_law_c" = true)
    (kD19 : PySem.W.keepIn K (.ref g19) = true)
    (aD20 : PySem.W.nsIn K mainGlobals "_law_deed" = some (some (.ref g20)))
    (lD20 : K.lookup g20 = some ⟨goc20, god20, .func (PySem.W.fnOf "_law_deed" "_law_deed" (defArgs sDd) (defBody sDd) (defScope sDd) .none gkV20 gdc20 gpm20 gan20 gcd20 gct20), gsl20⟩)
    (cD20 : PySem.W.codeIn K gcd20 "_law_deed" = true)
    (kD20 : PySem.W.keepIn K (.ref g20) = true)
    (aD21 : PySem.W.nsIn K mainGlobals "_law_deeds" = some (some (.ref g21)))
    (lD21 : K.lookup g21 = some ⟨goc21, god21, .func (PySem.W.fnOf "_law_deeds" "_law_deeds" (defArgs sDs) (defBody sDs) (defScope sDs) .none gkV21 gdc21 gpm21 gan21 gcd21 gct21), gsl21⟩)
    (cD21 : PySem.W.codeIn K gcd21 "_law_deeds" = true)
    (kD21 : PySem.W.keepIn K (.ref g21) = true)
    (aD22 : PySem.W.nsIn K mainGlobals "_law_handler" = some (some (.ref g22)))
    (lD22 : K.lookup g22 = some ⟨goc22, god22, .func (PySem.W.fnOf "_law_handler" "_law_handler" (defArgs sHn) (defBody sHn) (defScope sHn) .none gkV22 gdc22 gpm22 gan22 gcd22 gct22), gsl22⟩)
    (cD22 : PySem.W.codeIn K gcd22 "_law_handler" = true)
    (kD22 : PySem.W.keepIn K (.ref g22) = true)
    (aD23 : PySem.W.nsIn K mainGlobals "_law_is_word" = some (some (.ref g23)))
    (lD23 : K.lookup g23 = some ⟨goc23, god23, .func (PySem.W.fnOf "_law_is_word" "_law_is_word" (defArgs sLW) (defBody sLW) (defScope sLW) .none gkV23 gdc23 gpm23 gan23 gcd23 gct23), gsl23⟩)
    (cD23 : PySem.W.codeIn K gcd23 "_law_is_word" = true)
    (kD23 : PySem.W.keepIn K (.ref g23) = true)
    (aD24 : PySem.W.nsIn K mainGlobals "_law_is_number" = some (some (.ref g24)))
    (lD24 : K.lookup g24 = some ⟨goc24, god24, .func (PySem.W.fnOf "_law_is_number" "_law_is_number" (defArgs sLN) (defBody sLN) (defScope sLN) .none gkV24 gdc24 gpm24 gan24 gcd24 gct24), gsl24⟩)
    (cD24 : PySem.W.codeIn K gcd24 "_law_is_number" = true)
    (kD24 : PySem.W.keepIn K (.ref g24) = true)
    (aD25 : PySem.W.nsIn K mainGlobals "_law_has_head" = some (some (.ref g25)))
    (lD25 : K.lookup g25 = some ⟨goc25, god25, .func (PySem.W.fnOf "_law_has_head" "_law_has_head" (defArgs sLH) (defBody sLH) (defScope sLH) .none gkV25 gdc25 gpm25 gan25 gcd25 gct25), gsl25⟩)
    (cD25 : PySem.W.codeIn K gcd25 "_law_has_head" = true)
    (kD25 : PySem.W.keepIn K (.ref g25) = true)
    (aD26 : PySem.W.nsIn K mainGlobals "_law_is_e" = some (some (.ref g26)))
    (lD26 : K.lookup g26 = some ⟨goc26, god26, .func (PySem.W.fnOf "_law_is_e" "_law_is_e" (defArgs sLE) (defBody sLE) (defScope sLE) .none gkV26 gdc26 gpm26 gan26 gcd26 gct26), gsl26⟩)
    (cD26 : PySem.W.codeIn K gcd26 "_law_is_e" = true)
    (kD26 : PySem.W.keepIn K (.ref g26) = true)
    (aD27 : PySem.W.nsIn K mainGlobals "_law_is_c" = some (some (.ref g27)))
    (lD27 : K.lookup g27 = some ⟨goc27, god27, .func (PySem.W.fnOf "_law_is_c" "_law_is_c" (defArgs sLC) (defBody sLC) (defScope sLC) .none gkV27 gdc27 gpm27 gan27 gcd27 gct27), gsl27⟩)
    (cD27 : PySem.W.codeIn K gcd27 "_law_is_c" = true)
    (kD27 : PySem.W.keepIn K (.ref g27) = true)
    (aD28 : PySem.W.nsIn K mainGlobals "_law_is_deed" = some (some (.ref g28)))
    (lD28 : K.lookup g28 = some ⟨goc28, god28, .func (PySem.W.fnOf "_law_is_deed" "_law_is_deed" (defArgs sLD) (defBody sLD) (defScope sLD) .none gkV28 gdc28 gpm28 gan28 gcd28 gct28), gsl28⟩)
    (cD28 : PySem.W.codeIn K gcd28 "_law_is_deed" = true)
    (kD28 : PySem.W.keepIn K (.ref g28) = true)
    (aD29 : PySem.W.nsIn K mainGlobals "_law_are_deeds" = some (some (.ref g29)))
    (lD29 : K.lookup g29 = some ⟨goc29, god29, .func (PySem.W.fnOf "_law_are_deeds" "_law_are_deeds" (defArgs sLA) (defBody sLA) (defScope sLA) .none gkV29 gdc29 gpm29 gan29 gcd29 gct29), gsl29⟩)
    (cD29 : PySem.W.codeIn K gcd29 "_law_are_deeds" = true)
    (kD29 : PySem.W.keepIn K (.ref g29) = true)
    (aD30 : PySem.W.nsIn K mainGlobals "_law_many_deeds" = some (some (.ref g30)))
    (lD30 : K.lookup g30 = some ⟨goc30, god30, .func (PySem.W.fnOf "_law_many_deeds" "_law_many_deeds" (defArgs sLM) (defBody sLM) (defScope sLM) .none gkV30 gdc30 gpm30 gan30 gcd30 gct30), gsl30⟩)
    (cD30 : PySem.W.codeIn K gcd30 "_law_many_deeds" = true)
    (kD30 : PySem.W.keepIn K (.ref g30) = true)
    (aD31 : PySem.W.nsIn K mainGlobals "_law_is_handler" = some (some (.ref g31)))
    (lD31 : K.lookup g31 = some ⟨goc31, god31, .func (PySem.W.fnOf "_law_is_handler" "_law_is_handler" (defArgs sLI) (defBody sLI) (defScope sLI) .none gkV31 gdc31 gpm31 gan31 gcd31 gct31), gsl31⟩)
    (cD31 : PySem.W.codeIn K gcd31 "_law_is_handler" = true)
    (kD31 : PySem.W.keepIn K (.ref g31) = true)
    (aD32 : PySem.W.nsIn K mainGlobals "_law_bent" = some (some (.ref g32)))
    (lD32 : K.lookup g32 = some ⟨goc32, god32, .func (PySem.W.fnOf "_law_bent" "_law_bent" (defArgs sBt) (defBody sBt) (defScope sBt) .none gkV32 gdc32 gpm32 gan32 gcd32 gct32), gsl32⟩)
    (cD32 : PySem.W.codeIn K gcd32 "_law_bent" = true)
    (kD32 : PySem.W.keepIn K (.ref g32) = true)
    (aD33 : PySem.W.nsIn K mainGlobals "_law_deep_e" = some (some (.ref g33)))
    (lD33 : K.lookup g33 = some ⟨goc33, god33, .func (PySem.W.fnOf "_law_deep_e" "_law_deep_e" (defArgs sDe) (defBody sDe) (defScope sDe) .none gkV33 gdc33 gpm33 gan33 gcd33 gct33), gsl33⟩)
    (cD33 : PySem.W.codeIn K gcd33 "_law_deep_e" = true)
    (kD33 : PySem.W.keepIn K (.ref g33) = true)
    (aD34 : PySem.W.nsIn K mainGlobals "_law_deep_c" = some (some (.ref g34)))
    (lD34 : K.lookup g34 = some ⟨goc34, god34, .func (PySem.W.fnOf "_law_deep_c" "_law_deep_c" (defArgs sDc) (defBody sDc) (defScope sDc) .none gkV34 gdc34 gpm34 gan34 gcd34 gct34), gsl34⟩)
    (cD34 : PySem.W.codeIn K gcd34 "_law_deep_c" = true)
    (kD34 : PySem.W.keepIn K (.ref g34) = true)
    (aD35 : PySem.W.nsIn K mainGlobals "_law_deep_ifs" = some (some (.ref g35)))
    (lD35 : K.lookup g35 = some ⟨goc35, god35, .func (PySem.W.fnOf "_law_deep_ifs" "_law_deep_ifs" (defArgs sDi) (defBody sDi) (defScope sDi) .none gkV35 gdc35 gpm35 gan35 gcd35 gct35), gsl35⟩)
    (cD35 : PySem.W.codeIn K gcd35 "_law_deep_ifs" = true)
    (kD35 : PySem.W.keepIn K (.ref g35) = true)
    (aD36 : PySem.W.nsIn K mainGlobals "_law_at_limits" = some (some (.ref g36)))
    (lD36 : K.lookup g36 = some ⟨goc36, god36, .func (PySem.W.fnOf "_law_at_limits" "_law_at_limits" (defArgs sAl) (defBody sAl) (defScope sAl) .none gkV36 gdc36 gpm36 gan36 gcd36 gct36), gsl36⟩)
    (cD36 : PySem.W.codeIn K gcd36 "_law_at_limits" = true)
    (kD36 : PySem.W.keepIn K (.ref g36) = true)
    (aD37 : PySem.W.nsIn K mainGlobals "law" = some (some (.ref g37)))
    (lD37 : K.lookup g37 = some ⟨goc37, god37, .func (PySem.W.fnOf "law" "law" (defArgs sLaw) (defBody sLaw) (defScope sLaw) .none gkV37 gdc37 gpm37 gan37 gcd37 gct37), gsl37⟩)
    (cD37 : PySem.W.codeIn K gcd37 "law" = true)
    (kD37 : PySem.W.keepIn K (.ref g37) = true)
    (td4 : K.lookup dt4 = some ⟨doc4, dod4, .seq #[.int 6 dtk4] dn4, dsl4⟩)
    (td5 : K.lookup dt5 = some ⟨doc5, dod5, .seq #[.int 6 dtk5] dn5, dsl5⟩) :
    ∃ fd : FuncData, (∀ (s : Shared) (v : Value), BindsTo s fd ⟨[v], []⟩ [("_law_script", v)]) ∧ ∀ base : Heap, K.In base → base.Ns mainGlobals mg → FnG l.prog w K mg base CX0 41 fa fd ["_law_script"] (spLaw K) := by
  have e := hfa.symm.trans (PySem.W.mg_of X G aD37)
  cases e
  have F0 := fun_mk (st := sNum) lD0 cD0 kD0
  have b0 := F0.binds (ps := ["value"]) fun _ _ _ _ _ _ us hl => match us, hl with | [_], _ => rfl
  have T0 : DefT K mg "is_number" g0 := ⟨PySem.W.mg_of X G aD0, kD0⟩
  have F1 := fun_mk (st := sVal) lD1 cD1 kD1
  have b1 := F1.binds (ps := ["value"]) fun _ _ _ _ _ _ us hl => match us, hl with | [_], _ => rfl
  have T1 : DefT K mg "is_value" g1 := ⟨PySem.W.mg_of X G aD1, kD1⟩
  have F2 := fun_mk (st := sWord) lD2 cD2 kD2
  have b2 := F2.binds (ps := ["value"]) fun _ _ _ _ _ _ us hl => match us, hl with | [_], _ => rfl
  have T2 : DefT K mg "is_word" g2 := ⟨PySem.W.mg_of X G aD2, kD2⟩
  have F3 := fun_mk (st := sTof) lD3 cD3 kD3
  have b3 := F3.binds (ps := ["value", "length"]) fun _ _ _ _ _ _ us hl => match us, hl with | [_, _], _ => rfl
  have T3 : DefT K mg "is_tuple_of" g3 := ⟨PySem.W.mg_of X G aD3, kD3⟩
  have F4 : FunD K "is_expression" "is_expression" (defArgs sExp) (defBody sExp) (defScope sExp) [V.int 6] [] g4 _ := ⟨⟨_, _, _, _, _, _, _, _, _, _, rfl, lD4, cD4, .inr ⟨by simp, dt4, _, [.int 6 dtk4], _, rfl, td4, rfl, .cons ⟨_, rfl⟩ .nil⟩, .inl rfl⟩, kD4⟩
  obtain ⟨e4, v4, b4⟩ := F4.binds1 (ps := ["value", "deep"]) 2 1 (by simp) rfl (fun T kV doc pm an cdv ct us its h1 h2 => match us, its, h1, h2 with | [_, _], [_], _, _ => ⟨_, rfl, rfl⟩)
  cases v4
  obtain ⟨e4x, v4x, b4x⟩ := F4.binds1 (ps := ["value", "deep"]) 1 0 (by simp) rfl (fun T kV doc pm an cdv ct us its h1 h2 => match us, its, h1, h2 with | [_], [_], _, _ => ⟨_, rfl, rfl⟩)
  obtain ⟨u4x, rfl, w4x⟩ := vals1 v4x
  obtain ⟨t4x, rfl⟩ := w4x
  have T4 : DefT K mg "is_expression" g4 := ⟨PySem.W.mg_of X G aD4, kD4⟩
  have F5 : FunD K "is_condition" "is_condition" (defArgs sCon) (defBody sCon) (defScope sCon) [V.int 6] [] g5 _ := ⟨⟨_, _, _, _, _, _, _, _, _, _, rfl, lD5, cD5, .inr ⟨by simp, dt5, _, [.int 6 dtk5], _, rfl, td5, rfl, .cons ⟨_, rfl⟩ .nil⟩, .inl rfl⟩, kD5⟩
  obtain ⟨e5, v5, b5⟩ := F5.binds1 (ps := ["value", "deep"]) 2 1 (by simp) rfl (fun T kV doc pm an cdv ct us its h1 h2 => match us, its, h1, h2 with | [_, _], [_], _, _ => ⟨_, rfl, rfl⟩)
  cases v5
  obtain ⟨e5x, v5x, b5x⟩ := F5.binds1 (ps := ["value", "deep"]) 1 0 (by simp) rfl (fun T kV doc pm an cdv ct us its h1 h2 => match us, its, h1, h2 with | [_], [_], _, _ => ⟨_, rfl, rfl⟩)
  obtain ⟨u5x, rfl, w5x⟩ := vals1 v5x
  obtain ⟨t5x, rfl⟩ := w5x
  have T5 : DefT K mg "is_condition" g5 := ⟨PySem.W.mg_of X G aD5, kD5⟩
  have F6 := fun_mk (st := sHand) lD6 cD6 kD6
  have b6 := F6.binds (ps := ["value"]) fun _ _ _ _ _ _ us hl => match us, hl with | [_], _ => rfl
  have T6 : DefT K mg "is_handler" g6 := ⟨PySem.W.mg_of X G aD6, kD6⟩
  have F7 := fun_mk (st := sRoom) lD7 cD7 kD7
  have b7 := F7.binds (ps := ["deeds", "room", "ifs"]) fun _ _ _ _ _ _ us hl => match us, hl with | [_, _, _], _ => rfl
  have T7 : DefT K mg "room_after" g7 := ⟨PySem.W.mg_of X G aD7, kD7⟩
  have F8 := fun_mk (st := sDeed) lD8 cD8 kD8
  have b8 := F8.binds (ps := ["deed", "room", "ifs"]) fun _ _ _ _ _ _ us hl => match us, hl with | [_, _, _], _ => rfl
  have T8 : DefT K mg "room_after_deed" g8 := ⟨PySem.W.mg_of X G aD8, kD8⟩
  have F9 := fun_mk (st := sOne) lD9 cD9 kD9
  have b9 := F9.binds (ps := ["value"]) fun _ _ _ _ _ _ us hl => match us, hl with | [_], _ => rfl
  have T9 : DefT K mg "is_single_deed" g9 := ⟨PySem.W.mg_of X G aD9, kD9⟩
  have F10 := fun_mk (st := sKey) lD10 cD10 kD10
  have b10 := F10.binds (ps := ["value"]) fun _ _ _ _ _ _ us hl => match us, hl with | [_], _ => rfl
  have T10 : DefT K mg "is_key" g10 := ⟨PySem.W.mg_of X G aD10, kD10⟩
  have F11 := fun_mk (st := sPen) lD11 cD11 kD11
  have b11 := F11.binds (ps := ["_law_script"]) fun _ _ _ _ _ _ us hl => match us, hl with | [_], _ => rfl
  have T11 : DefT K mg "_law_pen" g11 := ⟨PySem.W.mg_of X G aD11, kD11⟩
  have F12 := fun_mk (st := sDraw) lD12 cD12 kD12
  have b12 := F12.binds (ps := ["_law_pen_here", "_law_many"]) fun _ _ _ _ _ _ us hl => match us, hl with | [_, _], _ => rfl
  have T12 : DefT K mg "_law_draw" g12 := ⟨PySem.W.mg_of X G aD12, kD12⟩
  have F13 := fun_mk (st := sPick) lD13 cD13 kD13
  have b13 := F13.binds (ps := ["_law_pen_here", "_law_items"]) fun _ _ _ _ _ _ us hl => match us, hl with | [_, _], _ => rfl
  have T13 : DefT K mg "_law_pick" g13 := ⟨PySem.W.mg_of X G aD13, kD13⟩
  have F14 := fun_mk (st := sWd) lD14 cD14 kD14
  have b14 := F14.binds (ps := ["_law_pen_here", "_law_many"]) fun _ _ _ _ _ _ us hl => match us, hl with | [_, _], _ => rfl
  have T14 : DefT K mg "_law_words" g14 := ⟨PySem.W.mg_of X G aD14, kD14⟩
  have F15 := fun_mk (st := sNm) lD15 cD15 kD15
  have b15 := F15.binds (ps := ["_law_pen_here"]) fun _ _ _ _ _ _ us hl => match us, hl with | [_], _ => rfl
  have T15 : DefT K mg "_law_number" g15 := ⟨PySem.W.mg_of X G aD15, kD15⟩
  have F16 := fun_mk (st := sOdd) lD16 cD16 kD16
  have b16 := F16.binds (ps := ["_law_pen_here"]) fun _ _ _ _ _ _ us hl => match us, hl with | [_], _ => rfl
  have T16 : DefT K mg "_law_odd" g16 := ⟨PySem.W.mg_of X G aD16, kD16⟩
  have F17 := fun_mk (st := sLeaf) lD17 cD17 kD17
  have b17 := F17.binds (ps := ["_law_pen_here", "_law_names"]) fun _ _ _ _ _ _ us hl => match us, hl with | [_, _], _ => rfl
  have T17 : DefT K mg "_law_leaf" g17 := ⟨PySem.W.mg_of X G aD17, kD17⟩
  have F18 := fun_mk (st := sE) lD18 cD18 kD18
  have b18 := F18.binds (ps := ["_law_pen_here", "_law_names", "_law_deep"]) fun _ _ _ _ _ _ us hl => match us, hl with | [_, _, _], _ => rfl
  have T18 : DefT K mg "_law_e" g18 := ⟨PySem.W.mg_of X G aD18, kD18⟩
  have F19 := fun_mk (st := sC) lD19 cD19 kD19
  have b19 := F19.binds (ps := ["_law_pen_here", "_law_names", "_law_deep"]) fun _ _ _ _ _ _ us hl => match us, hl with | [_, _, _], _ => rfl
  have T19 : DefT K mg "_law_c" g19 := ⟨PySem.W.mg_of X G aD19, kD19⟩
  have F20 := fun_mk (st := sDd) lD20 cD20 kD20
  have b20 := F20.binds (ps := ["_law_pen_here", "_law_place", "_law_ifs"]) fun _ _ _ _ _ _ us hl => match us, hl with | [_, _, _], _ => rfl
  have T20 : DefT K mg "_law_deed" g20 := ⟨PySem.W.mg_of X G aD20, kD20⟩
  have F21 := fun_mk (st := sDs) lD21 cD21 kD21
  have b21 := F21.binds (ps := ["_law_pen_here", "_law_place", "_law_ifs"]) fun _ _ _ _ _ _ us hl => match us, hl with | [_, _, _], _ => rfl
  have T21 : DefT K mg "_law_deeds" g21 := ⟨PySem.W.mg_of X G aD21, kD21⟩
  have F22 := fun_mk (st := sHn) lD22 cD22 kD22
  have b22 := F22.binds (ps := ["_law_pen_here", "_law_names", "_law_keys", "_law_kinds", "_law_sends"]) fun _ _ _ _ _ _ us hl => match us, hl with | [_, _, _, _, _], _ => rfl
  have T22 : DefT K mg "_law_handler" g22 := ⟨PySem.W.mg_of X G aD22, kD22⟩
  have F23 := fun_mk (st := sLW) lD23 cD23 kD23
  have b23 := F23.binds (ps := ["_law_thing"]) fun _ _ _ _ _ _ us hl => match us, hl with | [_], _ => rfl
  have T23 : DefT K mg "_law_is_word" g23 := ⟨PySem.W.mg_of X G aD23, kD23⟩
  have F24 := fun_mk (st := sLN) lD24 cD24 kD24
  have b24 := F24.binds (ps := ["_law_thing"]) fun _ _ _ _ _ _ us hl => match us, hl with | [_], _ => rfl
  have T24 : DefT K mg "_law_is_number" g24 := ⟨PySem.W.mg_of X G aD24, kD24⟩
  have F25 := fun_mk (st := sLH) lD25 cD25 kD25
  have b25 := F25.binds (ps := ["_law_thing", "_law_heads", "_law_size"]) fun _ _ _ _ _ _ us hl => match us, hl with | [_, _, _], _ => rfl
  have T25 : DefT K mg "_law_has_head" g25 := ⟨PySem.W.mg_of X G aD25, kD25⟩
  have F26 := fun_mk (st := sLE) lD26 cD26 kD26
  have b26 := F26.binds (ps := ["_law_thing", "_law_deep"]) fun _ _ _ _ _ _ us hl => match us, hl with | [_, _], _ => rfl
  have T26 : DefT K mg "_law_is_e" g26 := ⟨PySem.W.mg_of X G aD26, kD26⟩
  have F27 := fun_mk (st := sLC) lD27 cD27 kD27
  have b27 := F27.binds (ps := ["_law_thing", "_law_deep"]) fun _ _ _ _ _ _ us hl => match us, hl with | [_, _], _ => rfl
  have T27 : DefT K mg "_law_is_c" g27 := ⟨PySem.W.mg_of X G aD27, kD27⟩
  have F28 := fun_mk (st := sLD) lD28 cD28 kD28
  have b28 := F28.binds (ps := ["_law_thing", "_law_ifs"]) fun _ _ _ _ _ _ us hl => match us, hl with | [_, _], _ => rfl
  have T28 : DefT K mg "_law_is_deed" g28 := ⟨PySem.W.mg_of X G aD28, kD28⟩
  have F29 := fun_mk (st := sLA) lD29 cD29 kD29
  have b29 := F29.binds (ps := ["_law_thing", "_law_ifs"]) fun _ _ _ _ _ _ us hl => match us, hl with | [_, _], _ => rfl
  have T29 : DefT K mg "_law_are_deeds" g29 := ⟨PySem.W.mg_of X G aD29, kD29⟩
  have F30 := fun_mk (st := sLM) lD30 cD30 kD30
  have b30 := F30.binds (ps := ["_law_deeds_here"]) fun _ _ _ _ _ _ us hl => match us, hl with | [_], _ => rfl
  have T30 : DefT K mg "_law_many_deeds" g30 := ⟨PySem.W.mg_of X G aD30, kD30⟩
  have F31 := fun_mk (st := sLI) lD31 cD31 kD31
  have b31 := F31.binds (ps := ["_law_thing"]) fun _ _ _ _ _ _ us hl => match us, hl with | [_], _ => rfl
  have T31 : DefT K mg "_law_is_handler" g31 := ⟨PySem.W.mg_of X G aD31, kD31⟩
  have F32 := fun_mk (st := sBt) lD32 cD32 kD32
  have b32 := F32.binds (ps := ["_law_pen_here", "_law_thing"]) fun _ _ _ _ _ _ us hl => match us, hl with | [_, _], _ => rfl
  have T32 : DefT K mg "_law_bent" g32 := ⟨PySem.W.mg_of X G aD32, kD32⟩
  have F33 := fun_mk (st := sDe) lD33 cD33 kD33
  have b33 := F33.binds (ps := ["_law_deep", "_law_word"]) fun _ _ _ _ _ _ us hl => match us, hl with | [_, _], _ => rfl
  have T33 : DefT K mg "_law_deep_e" g33 := ⟨PySem.W.mg_of X G aD33, kD33⟩
  have F34 := fun_mk (st := sDc) lD34 cD34 kD34
  have b34 := F34.binds (ps := ["_law_deep", "_law_word"]) fun _ _ _ _ _ _ us hl => match us, hl with | [_, _], _ => rfl
  have T34 : DefT K mg "_law_deep_c" g34 := ⟨PySem.W.mg_of X G aD34, kD34⟩
  have F35 := fun_mk (st := sDi) lD35 cD35 kD35
  have b35 := F35.binds (ps := ["_law_deep"]) fun _ _ _ _ _ _ us hl => match us, hl with | [_], _ => rfl
  have T35 : DefT K mg "_law_deep_ifs" g35 := ⟨PySem.W.mg_of X G aD35, kD35⟩
  have F36 := fun_mk (st := sAl) lD36 cD36 kD36
  have b36 := F36.binds (ps := ["_law_pen_here"]) fun _ _ _ _ _ _ us hl => match us, hl with | [_], _ => rfl
  have T36 : DefT K mg "_law_at_limits" g36 := ⟨PySem.W.mg_of X G aD36, kD36⟩
  have F37 := fun_mk (st := sLaw) lD37 cD37 kD37
  have TH : TxtH mg := ⟨PySem.W.mg_none_of X G z_isinstance, PySem.W.mg_none_of X G z_len, PySem.W.mg_none_of X G z_all, PySem.W.mg_none_of X G z_int, PySem.W.mg_none_of X G z_bool, PySem.W.mg_none_of X G z_str, PySem.W.mg_none_of X G z_tuple, ⟨_, PySem.W.mg_of X G cB⟩, ⟨_, PySem.W.mg_of X G cL⟩, ⟨_, PySem.W.mg_of X G cA⟩⟩
  have TM : TxtM mg := ⟨⟨_, PySem.W.mg_of X G cM⟩, ⟨_, PySem.W.mg_of X G cI⟩⟩
  have TP : TxtP mg := ⟨PySem.W.mg_none_of X G z_int, PySem.W.mg_none_of X G z_len, PySem.W.mg_none_of X G z_abs, PySem.W.mg_none_of X G z_list⟩
  have TR := PySem.W.mg_none_of X G z_range
  have TRp := PySem.W.mg_none_of X G z_repr
  have TS := PySem.W.mg_none_of X G z_sum
  refine ⟨PySem.W.fnOf "law" "law" (defArgs sLaw) (defBody sLaw) (defScope sLaw) .none gkV37 gdc37 gpm37 gan37 gcd37 gct37, fun s v => .of_eq rfl, fun base _ _ => ?_⟩
  have Gnum := ok_num (P := l.prog) (w := w) (base := base) F0 TH
  have Gval := ok_val F1 TH Gnum T0 b0
  have Gword := ok_word (P := l.prog) (w := w) (base := base) F2 TH
  have Gtof := ok_tof (P := l.prog) (w := w) (base := base) F3 TH
  have Gkey := ok_key F10 Gword T2 b2
  have Gexp := ok_exp F4 TH T4 b4 Gval T1 b1 Gword T2 b2 7
  have Gcon := ok_con F5 TH T5 b5 Gexp T4 b4x 7
  have Gone := ok_one F9 TH Gexp T4 b4x Gword T2 b2 Gkey T10 b10
  have Grm := ok_rooms F7 TH F8 T8 b8 T7 b7 Gone T9 b9 Gtof T3 b3 Gcon T5 b5x 4
  have Ghand := ok_hand F6 TM Grm T7 b7
  have Glw := ok_lw (P := l.prog) (w := w) (base := base) F23 TH
  have Gln := ok_ln (P := l.prog) (w := w) (base := base) F24 TH
  have Glh := ok_lh (P := l.prog) (w := w) (base := base) F25 TH
  have Gle := ok_le F26 TH T26 b26 Glh T25 b25 Gln T24 b24 Glw T23 b23 7
  have Glc := ok_lc F27 T27 b27 Glh T25 b25 Gle T26 b26 7
  have Gla := ok_las F29 TH F28 T28 b28 T29 b29 Glh T25 b25 Gle T26 b26 Glc T27 b27 Glw T23 b23 4
  have Glm := ok_lm (P := l.prog) (w := w) (base := base) F30 TS T30 b30 4
  have Gli := ok_li F31 Gla T29 b29 Glm T30 b30
  have Gpen := ok_pen (P := l.prog) (w := w) (base := base) F11 TP
  have Gdraw := ok_draw (P := l.prog) (w := w) (base := base) F12 TP
  have Gpick := ok_pick (P := l.prog) (w := w) (base := base) F13 TP F12 T12 b12
  have GpickS := ok_pickS F13 TH Gdraw T12 b12
  have Godd := ok_odd F16 Gpick T13 b13
  have Gnm := ok_nm F15 Gdraw T12 b12 Gpick T13 b13
  have Glf := ok_leaf F17 Gnm T15 b15 Gpick T13 b13
  have Ge := ok_e F18 T18 b18 Gdraw T12 b12 Gpick T13 b13 Glf T17 b17 5
  have Gc := ok_c F19 T19 b19 Gdraw T12 b12 Ge T18 b18 5
  have Gwd := ok_wd F14 TH TR Gdraw T12 b12 GpickS Gpick T13 b13
  have Gds := ok_dss F21 F20 TH TR Gdraw T12 b12 Gpick T13 b13 Ge T18 b18 Gc T19 b19 T21 b21 T20 b20 4
  have Ghn := ok_hn F22 Gdraw T12 b12 Gpick T13 b13 Ge T18 b18 Gds T21 b21
  have Gde := ok_de (P := l.prog) (w := w) (base := base) F33 TH TR
  have Gdc := ok_dc (P := l.prog) (w := w) (base := base) F34 TR
  have Gdi := ok_di (P := l.prog) (w := w) (base := base) F35 TR
  have Gal := ok_al F36 Gdraw T12 b12 Gpick T13 b13 Gde T33 b33 Gdc T34 b34 Gdi T35 b35
  have Gbt := ok_bt F32 TH T32 b32 Gdraw T12 b12 Gpick T13 b13 Godd T16 b16 31
  exact ok_law F37 TP TR TRp Gpen T11 b11 Gwd T14 b14 Ghn T22 b22 Godd T16 b16 Gal T36 b36 Gbt T32 b32 Gpick T13 b13 Ghand T6 b6 Gli T31 b31
end Hd

set_option Elab.async false
set_option linter.all false
set_option maxRecDepth 100000
open L2

open PySem PySem.W PyProof.Rows
set_option maxRecDepth 100000 in
set_option maxHeartbeats 0 in
theorem PySem.Challenge.cw_oncepost_k02_what_is_a_handler_holds : PySem.Challenge.rw_oncepost_k02_what_is_a_handler.Holds := by
  w_on; o_law; k_head; (case hw => w_witness2)
  k_fill
  refine RG.walkG (l := PySem.Challenge.rw_oncepost_k02_what_is_a_handler) (n := 41) (x := "_law_script") (CX := CX0) (sp := Hd.spLaw) rfl (by decide) rfl ⟨rfl, by decide, by decide⟩ (fun w h Y => PySem.W.kIn_of Y) ?F ?tl ?qu
  case F =>
    intro w mg fa h KX G hmg
    refine' Hd.all_mk KX G hmg ?z_isinstance ?z_len ?z_all ?z_int ?z_bool ?z_str ?z_tuple ?z_abs ?z_list ?z_range ?z_repr ?z_sum ?cB ?cL ?cA ?cM ?cI ?aD0 ?lD0 ?cD0 ?kD0 ?aD1 ?lD1 ?cD1 ?kD1 ?aD2 ?lD2 ?cD2 ?kD2 ?aD3 ?lD3 ?cD3 ?kD3 ?aD4 ?lD4 ?cD4 ?kD4 ?aD5 ?lD5 ?cD5 ?kD5 ?aD6 ?lD6 ?cD6 ?kD6 ?aD7 ?lD7 ?cD7 ?kD7 ?aD8 ?lD8 ?cD8 ?kD8 ?aD9 ?lD9 ?cD9 ?kD9 ?aD10 ?lD10 ?cD10 ?kD10 ?aD11 ?lD11 ?cD11 ?kD11 ?aD12 ?lD12 ?cD12 ?kD12 ?aD13 ?lD13 ?cD13 ?kD13 ?aD14 ?lD14 ?cD14 ?kD14 ?aD15 ?lD15 ?cD15 ?kD15 ?aD16 ?lD16 ?cD16 ?kD16 ?aD17 ?lD17 ?cD17 ?kD17 ?aD18 ?lD18 ?cD18 ?kD18 ?aD19 ?lD19 ?cD19 ?kD19 ?aD20 ?lD20 ?cD20 ?kD20 ?aD21 ?lD21 ?cD21 ?kD21 ?aD22 ?lD22 ?cD22 ?kD22 ?aD23 ?lD23 ?cD23 ?kD23 ?aD24 ?lD24 ?cD24 ?kD24 ?aD25 ?lD25 ?cD25 ?kD25 ?aD26 ?lD26 ?cD26 ?kD26 ?aD27 ?lD27 ?cD27 ?kD27 ?aD28 ?lD28 ?cD28 ?kD28 ?aD29 ?lD29 ?cD29 ?kD29 ?aD30 ?lD30 ?cD30 ?kD30 ?aD31 ?lD31 ?cD31 ?kD31 ?aD32 ?lD32 ?cD32 ?kD32 ?aD33 ?lD33 ?cD33 ?kD33 ?aD34 ?lD34 ?cD34 ?kD34 ?aD35 ?lD35 ?cD35 ?kD35 ?aD36 ?lD36 ?cD36 ?kD36 ?aD37 ?lD37 ?cD37 ?kD37 ?td4 ?td5
    (case z_isinstance => k_is); (case z_len => k_is); (case z_all => k_is); (case z_int => k_is)
    (case z_bool => k_is); (case z_str => k_is); (case z_tuple => k_is); (case z_abs => k_is)
    (case z_list => k_is); (case z_range => k_is); (case z_repr => k_is); (case z_sum => k_is)
    (case cB => k_is); (case cL => k_is); (case cA => k_is); (case cM => k_is)
    (case cI => k_is); (case aD0 => k_is); (case lD0 => k_is); (case cD0 => k_is)
    (case kD0 => k_is); (case aD1 => k_is); (case lD1 => k_is); (case cD1 => k_is)
    (case kD1 => k_is); (case aD2 => k_is); (case lD2 => k_is); (case cD2 => k_is)
    (case kD2 => k_is); (case aD3 => k_is); (case lD3 => k_is); (case cD3 => k_is)
    (case kD3 => k_is); (case aD4 => k_is); (case lD4 => k_is); (case cD4 => k_is)
    (case kD4 => k_is); (case aD5 => k_is); (case lD5 => k_is); (case cD5 => k_is)
    (case kD5 => k_is); (case aD6 => k_is); (case lD6 => k_is); (case cD6 => k_is)
    (case kD6 => k_is); (case aD7 => k_is); (case lD7 => k_is); (case cD7 => k_is)
    (case kD7 => k_is); (case aD8 => k_is); (case lD8 => k_is); (case cD8 => k_is)
    (case kD8 => k_is); (case aD9 => k_is); (case lD9 => k_is); (case cD9 => k_is)
    (case kD9 => k_is); (case aD10 => k_is); (case lD10 => k_is); (case cD10 => k_is)
    (case kD10 => k_is); (case aD11 => k_is); (case lD11 => k_is); (case cD11 => k_is)
    (case kD11 => k_is); (case aD12 => k_is); (case lD12 => k_is); (case cD12 => k_is)
    (case kD12 => k_is); (case aD13 => k_is); (case lD13 => k_is); (case cD13 => k_is)
    (case kD13 => k_is); (case aD14 => k_is); (case lD14 => k_is); (case cD14 => k_is)
    (case kD14 => k_is); (case aD15 => k_is); (case lD15 => k_is); (case cD15 => k_is)
    (case kD15 => k_is); (case aD16 => k_is); (case lD16 => k_is); (case cD16 => k_is)
    (case kD16 => k_is); (case aD17 => k_is); (case lD17 => k_is); (case cD17 => k_is)
    (case kD17 => k_is); (case aD18 => k_is); (case lD18 => k_is); (case cD18 => k_is)
    (case kD18 => k_is); (case aD19 => k_is); (case lD19 => k_is); (case cD19 => k_is)
    (case kD19 => k_is); (case aD20 => k_is); (case lD20 => k_is); (case cD20 => k_is)
    (case kD20 => k_is); (case aD21 => k_is); (case lD21 => k_is); (case cD21 => k_is)
    (case kD21 => k_is); (case aD22 => k_is); (case lD22 => k_is); (case cD22 => k_is)
    (case kD22 => k_is); (case aD23 => k_is); (case lD23 => k_is); (case cD23 => k_is)
    (case kD23 => k_is); (case aD24 => k_is); (case lD24 => k_is); (case cD24 => k_is)
    (case kD24 => k_is); (case aD25 => k_is); (case lD25 => k_is); (case cD25 => k_is)
    (case kD25 => k_is); (case aD26 => k_is); (case lD26 => k_is); (case cD26 => k_is)
    (case kD26 => k_is); (case aD27 => k_is); (case lD27 => k_is); (case cD27 => k_is)
    (case kD27 => k_is); (case aD28 => k_is); (case lD28 => k_is); (case cD28 => k_is)
    (case kD28 => k_is); (case aD29 => k_is); (case lD29 => k_is); (case cD29 => k_is)
    (case kD29 => k_is); (case aD30 => k_is); (case lD30 => k_is); (case cD30 => k_is)
    (case kD30 => k_is); (case aD31 => k_is); (case lD31 => k_is); (case cD31 => k_is)
    (case kD31 => k_is); (case aD32 => k_is); (case lD32 => k_is); (case cD32 => k_is)
    (case kD32 => k_is); (case aD33 => k_is); (case lD33 => k_is); (case cD33 => k_is)
    (case kD33 => k_is); (case aD34 => k_is); (case lD34 => k_is); (case cD34 => k_is)
    (case kD34 => k_is); (case aD35 => k_is); (case lD35 => k_is); (case cD35 => k_is)
    (case kD35 => k_is); (case aD36 => k_is); (case lD36 => k_is); (case cD36 => k_is)
    (case kD36 => k_is); (case aD37 => k_is); (case lD37 => k_is); (case cD37 => k_is)
    (case kD37 => k_is); (case td4 => k_is); (case td5 => k_is)
  case tl =>
    intro K G a ns hl ho hS
    exact ⟨a, ns, rfl, hS, hl, fun _ => rfl⟩
  case qu =>
    intro G s e s' z
    exact z
