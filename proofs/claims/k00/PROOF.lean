import PyProof.Rows.All
import Wide.All
import OpenK.AllK
import Wide.FinOn
import HandS.ForMost
import HandS.Wide
import PyProof.ReprRoads
import PyProof.EqAt
import PyProof.EqKinds
import PyProof.TupleCall
import KE.KExcInit
import KE.KIsAll
import HandS.Exc
import HandS.ExcInit
import HandS.ExcIs
import HandS.IsInst
import KE.KExcIs
import KE.KExcSuper
import PySem.Challenge.RW_oncepost_k00_errors
import PyProof.ExcBaseAll.LookupError
import PyProof.ExcBaseAll.OverflowError
import KE.RegKSuper
set_option Elab.async false
set_option linter.all false
set_option maxRecDepth 100000
/-! The pen: a dict of a list, a place and a rest; a draw is some int from 0 to many - 1. -/
namespace Pen
open PySem L2
/-! ### the pen's pairs -/
abbrev kC : Key := Sum.inr ("cells" : Str)
abbrev kA : Key := Sum.inr ("at" : Str)
abbrev kR : Key := Sum.inr ("rest" : Str)
def pk (c : Addr) (a r : Int) : List (Key × V) := [(kC, .ref c), (kA, .int a), (kR, .int r)]
theorem nCA : ¬ (kC = kA) := by decide +kernel
theorem nCR : ¬ (kC = kR) := by decide +kernel
theorem nAR : ¬ (kA = kR) := by decide +kernel
theorem nAC : ¬ (kA = kC) := by decide +kernel
theorem nRC : ¬ (kR = kC) := by decide +kernel
theorem nRA : ¬ (kR = kA) := by decide +kernel
theorem pk_c (c : Addr) (a r : Int) : valV (pk c a r) kC = some (.ref c) := valV_pos rfl
theorem pk_a (c : Addr) (a r : Int) : valV (pk c a r) kA = some (.int a) := (valV_neg nCA).trans (valV_pos rfl)
theorem pk_r (c : Addr) (a r : Int) : valV (pk c a r) kR = some (.int r) := ((valV_neg nCR).trans (valV_neg nAR)).trans (valV_pos rfl)
theorem sCA : ¬ (("cells" : Str) = "at") := by decide +kernel
theorem sCR : ¬ (("cells" : Str) = "rest") := by decide +kernel
theorem sRA : ¬ (("rest" : Str) = "at") := by decide +kernel
theorem sAR : ¬ (("at" : Str) = "rest") := by decide +kernel
theorem pk_putA (c : Addr) (a r x : Int) : putK (pk c a r) kA (.int x) = pk c x r := by
  unfold putK pk
  simp [sCA, sRA]
theorem pk_putR (c : Addr) (a r x : Int) : putK (pk c a r) kR (.int x) = pk c a x := by
  unfold putK pk
  simp [sCR, sAR]
theorem pk_len (c : Addr) (a r : Int) : (pk c a r).length < sizeLine := by show 3 < sizeLine; decide
structure PenAt (H : Hp) (p c : Addr) (ns : List Int) (b : Nat) : Prop where
  ex : ∃ a r : Int, H p = some (.dK (pk c a r)) ∧ 0 ≤ a ∧ a ≤ b ∧ 0 ≤ r
  ce : H c = some (.lst (ns.map V.int))
/-- all but p is as it was -/
def SameX (p : Addr) (H H' : Hp) : Prop := ∀ x o, x ≠ p → H x = some o → H' x = some o
theorem SameX.refl {p : Addr} {H : Hp} : SameX p H H := fun _ _ _ h => h
theorem SameX.trans {p : Addr} {H H1 H2 : Hp} (a : SameX p H H1) (b : SameX p H1 H2) : SameX p H H2 := fun x o n h => b x o n (a x o n h)
theorem Same.X {p : Addr} {H H' : Hp} (a : Same H H') : SameX p H H' := fun x o _ h => a x o h
theorem SameX.upd {p : Addr} {H H' : Hp} {o : HO} (a : SameX p H H') : SameX p H (upd H' p o) := fun x u n h => by
  rw [upd_ne n]
  exact a x u n h
theorem same_new {H : Hp} {l : Addr} {o : HO} (h : H l = none) : Same H (L2.upd H l o) := fun x u e => by
  rw [upd_ne (ne_of_none e h)]
  exact e
theorem PenAt.same {H H' : Hp} {p c : Addr} {ns : List Int} {b : Nat} (P : PenAt H p c ns b) (s : Same H H') : PenAt H' p c ns b := by
  obtain ⟨⟨a, r, h, q⟩, ce⟩ := P
  exact ⟨⟨a, r, s _ _ h, q⟩, s _ _ ce⟩
theorem PenAt.mono {H : Hp} {p c : Addr} {ns : List Int} {b b' : Nat} (P : PenAt H p c ns b) (h : b ≤ b') : PenAt H p c ns b' := by
  obtain ⟨⟨a, r, h0, h1, h2, h3⟩, ce⟩ := P
  exact ⟨⟨a, r, h0, h1, by omega, h3⟩, ce⟩
theorem PenAt.ne {H : Hp} {p c : Addr} {ns : List Int} {b : Nat} (P : PenAt H p c ns b) : p ≠ c := by
  obtain ⟨⟨a, r, h0, _⟩, ce⟩ := P
  exact ne_of h0 ce (by intro z; cases z)
/-! ### promises -/
def spPen (K : PySem.W.Frag) : Sp := fun vs H Q _ => ∃ (a : Addr) (ns : List Int), vs = [.ref a] ∧ SqL K H a (ns.map V.int) ∧ ns.length ≤ 63 ∧
  ∀ (p c : Addr) (H' : Hp), H p = none → PenAt H' p c ns 0 → Same H H' → Q (.ref p) H'
def spDraw : Sp := fun vs H Q _ => ∃ (p c : Addr) (ns : List Int) (b : Nat) (m : Int), vs = [.ref p, .int m] ∧ PenAt H p c ns b ∧ ns.length ≤ 63 ∧ b < 2 ^ 40 ∧ 0 < m ∧ m < 2 ^ 30 ∧
  ∀ (r : Int) (H' : Hp), 0 ≤ r → r < m → PenAt H' p c ns (b + 1) → SameX p H H' → Q (.int r) H'
def spPick (K : PySem.W.Frag) : Sp := fun vs H Q _ => ∃ (p c : Addr) (ns : List Int) (b : Nat) (l : Addr) (xs : List V), vs = [.ref p, .ref l] ∧ PenAt H p c ns b ∧ ns.length ≤ 63 ∧ b < 2 ^ 40 ∧
  H l = some (.lst xs) ∧ 0 < xs.length ∧ xs.length ≤ 1000 ∧
  ∀ (v : V) (H' : Hp), v ∈ xs → PenAt H' p c ns (b + 1) → SameX p H H' → Q v H'
/-! ### numbers -/
theorem fmod_lo {i m : Int} (h : 0 < m) : 0 ≤ i.fmod m := by rw [Int.fmod_eq_emod_of_nonneg i (by omega)]; exact Int.emod_nonneg _ (by omega)
theorem fmod_hi {i m : Int} (h : 0 < m) : i.fmod m < m := by rw [Int.fmod_eq_emod_of_nonneg i (by omega)]; exact Int.emod_lt_of_pos _ h
theorem fdiv_lo {i m : Int} (h : 0 < m) (hi : 0 ≤ i) : 0 ≤ i / m := Int.ediv_nonneg hi (by omega)
theorem div_ok {i m : Int} (h : 0 < m) (h2 : m < 2 ^ 30) : CDivW i m := wide_div h (b := 30) (by omega) (by decide) (by decide)
theorem atI_mod {ns : List Int} {a : Int} (h : ns ≠ []) : ∃ z, atI (ns.map V.int) (a.fmod (ns.length : Int)) = some (.int z) := by
  have hl : 0 < ns.length := List.length_pos_iff.mpr h
  have h1 := fmod_lo (i := a) (m := (ns.length : Int)) (by omega)
  have h2 := fmod_hi (i := a) (m := (ns.length : Int)) (by omega)
  have h3 : (a.fmod (ns.length : Int)).toNat < ns.length := by omega
  refine ⟨ns[(a.fmod (ns.length : Int)).toNat], ?_⟩
  have e : a.fmod (ns.length : Int) = ((a.fmod (ns.length : Int)).toNat : Int) := by omega
  refine at_of e ?_
  rw [List.getElem?_map, List.getElem?_eq_getElem h3]
  rfl
theorem at_mem {xs : List V} {r : Int} (h0 : 0 ≤ r) (h : r < (xs.length : Int)) : ∃ v, v ∈ xs ∧ atI xs r = some v := by
  have h3 : r.toNat < xs.length := by omega
  refine ⟨xs[r.toNat], List.getElem_mem _, ?_⟩
  have e : r = ((r.toNat : Nat) : Int) := by omega
  exact at_of e (List.getElem?_eq_getElem h3)
/-- the names that the pen's defs read -/
structure TxtP (mg : Str → Option Value) : Prop where
  int : mg "int" = none
  len : mg "len" = none
  abs : mg "abs" = none
  list : mg "list" = none
end Pen
namespace Pen
open PySem L2
/-! ### the pen read and written -/
theorem getC {H : Hp} {p c : Addr} {a r : Int} (h : H p = some (.dK (pk c a r))) : DGet H p (.str "cells") (some (.ref c)) := by
  have q := DGet.k (k := kC) h
  rw [pk_c] at q
  exact q
theorem getA {H : Hp} {p c : Addr} {a r : Int} (h : H p = some (.dK (pk c a r))) : DGet H p (.str "at") (some (.int a)) := by
  have q := DGet.k (k := kA) h
  rw [pk_a] at q
  exact q
theorem getR {H : Hp} {p c : Addr} {a r : Int} (h : H p = some (.dK (pk c a r))) : DGet H p (.str "rest") (some (.int r)) := by
  have q := DGet.k (k := kR) h
  rw [pk_r] at q
  exact q
theorem putA {H : Hp} {p c : Addr} {a r x : Int} (h : H p = some (.dK (pk c a r))) : DPut H p (.str "at") (.int x) (upd H p (.dK (pk c x r))) := by
  have q := DPut.k (k := kA) (v := .int x) h (pk_len c a r)
  rw [pk_putA] at q
  exact q
theorem putR {H : Hp} {p c : Addr} {a r x : Int} (h : H p = some (.dK (pk c a r))) : DPut H p (.str "rest") (.int x) (upd H p (.dK (pk c a x))) := by
  have q := DPut.k (k := kR) (v := .int x) h (pk_len c a r)
  rw [pk_putR] at q
  exact q
theorem dps {K : PySem.W.Frag} {H : Hp} : ∀ ns : List Int, DpAll K H (ns.map V.int) (ns.map PyData.int)
  | [] => .nil
  | _ :: ns => .cons (.int _) (dps ns)
theorem dp_ints {K : PySem.W.Frag} {H : Hp} {c : Addr} {ns : List Int} (h : H c = some (.lst (ns.map V.int))) : Dp K H (.ref c) (.list (ns.map PyData.int)) := .lst (SqL.of h) (dps ns)
end Pen
namespace Pen
open PySem L2
theorem cut63 {ns : List Int} (h : ns.length ≤ 63) : cutV (ns.map V.int) none (some 63) = ns.map V.int := by
  unfold cutV
  rw [HT.sIx_none, show (some (63 : Int)) = some (((63 : Nat) : Int)) from rfl, HT.sIx_nat]
  rw [List.drop_zero, List.length_map, Nat.min_eq_right h, Nat.sub_zero]
  exact List.take_of_length_le (by rw [List.length_map]; exact Nat.le_refl _)
theorem merge_pk (c : Addr) : mergeK [] [(kC, .ref c), (kA, .int 0), (kR, .int 0)] = pk c 0 0 := by
  have e1 : putK [] kC (V.ref c) = [(kC, V.ref c)] := putK_new _ rfl
  have e2 : putK [(kC, V.ref c)] kA (V.int 0) = [(kC, V.ref c), (kA, V.int 0)] := putK_new _ (valV_neg nCA)
  have e3 : putK [(kC, V.ref c), (kA, V.int 0)] kR (V.int 0) = [(kC, V.ref c), (kA, V.int 0), (kR, V.int 0)] := putK_new _ ((valV_neg nCR).trans (valV_neg nAR))
  show putK (putK (putK [] kC (V.ref c)) kA (V.int 0)) kR (V.int 0) = _
  rw [e1, e2, e3]
  rfl
theorem canLay_ints : ∀ ns : List Int, PyData.canLay0 (.list (ns.map PyData.int)) = true := by
  intro ns
  induction ns with
  | nil => rfl
  | cons n ns ih =>
    simp only [List.map_cons, PyData.canLay0, PyData.canLayAll0] at ih ⊢
    first | exact ih | simpa using ih
theorem depth_ints : ∀ ns : List Int, PyData.depth (.list (ns.map PyData.int)) ≤ 64 := by
  have h : ∀ ns : List Int, PyData.depthAll (ns.map PyData.int) ≤ 1 := by
    intro ns
    induction ns with
    | nil => simp [PyData.depthAll]
    | cons n ns ih => simp only [List.map_cons, PyData.depthAll, PyData.depth]; omega
  intro ns
  have := h ns
  simp only [PyData.depth]
  omega
theorem shaped_ints (ns : List Int) : SeqAt.shaped (.list (ns.map PyData.int)) = true := by
  unfold SeqAt.shaped
  rw [canLay_ints, decide_eq_true (depth_ints ns)]
  rfl
end Pen

set_option Elab.async false
set_option linter.all false
set_option maxRecDepth 100000
/-! Promises of defs where no repr runs around (A.guards = some []); repr of data; the law's end by such a promise. -/
namespace RG
open PySem PySem.Spec PyProof.Rows L2
/-- a def's promise, to be used where nothing of repr runs around -/
structure FnG (P : Program) (w : World) (K : PySem.W.Frag) (mg : Str → Option Value) (base : Heap) (CX : CXT) (n : Nat) (fn : Addr) (data : FuncData) (pars : List Str) (sp : Sp) : Prop where
  count : ∀ ys G Want Err, sp ys G Want Err → ys.length = pars.length
  go : ∀ (B : Around) (up : List Env) (st : Shared) (G : Hp) (given : Args) (ws : List Value) (ys : List V) (Want : VK) (Err : XK),
    B.guards = some [] → Room n B → Env0 P w K mg base B up st G → BindsTo st data given (pars.zip ws) → Vals ys ws → sp ys G Want Err →
      codeAny (model P w) B (.call (.ref fn) given) (CR CX up P w G st Want Err) st
section
variable {P : Program} {w : World} {K : PySem.W.Frag} {mg : Str → Option Value} {base : Heap} {CX : CXT} {n m : Nat} {fn : Addr} {data : FuncData} {pars : List Str} {sp : Sp}
theorem FnG.of (F : FnOk P w K mg base CX n fn data pars sp) : FnG P w K mg base CX n fn data pars sp :=
  ⟨F.len, fun B up st G given ws ys Want Err _ => F.run B up st G given ws ys Want Err⟩
theorem FnG.mono (F : FnG P w K mg base CX n fn data pars sp) (h : n ≤ m) : FnG P w K mg base CX m fn data pars sp :=
  ⟨F.count, fun B up st G given ws ys Want Err hg hr => F.go B up st G given ws ys Want Err hg (hr.mono h)⟩
/-- the rule for a def of the text: its body, run where nothing of repr is around -/
theorem okG {x qual : Str} {text : Stmt} {N : List Str} (F : Fun K x qual text fn data) (S : FnScope N pars (defScope text)) (count : ∀ ys G Want Err, sp ys G Want Err → ys.length = pars.length)
    (body : ∀ (cd : Value) (B : Around) (up : List Env) (st : Shared) (G : Hp) (ys : List V) (Want : VK) (Err : XK),
      (B.deeper (envOfC qual (defScope text) st.heap.objs.size fn cd)).guards = some [] → Room n (B.deeper (envOfC qual (defScope text) st.heap.objs.size fn cd)) → sp ys G Want Err →
      ∃ t, PSs (cxOf CX P w K mg base N qual (defScope text) fn cd B up st G Err).nox (defBody text) t ∧ t { nx := fun _ G' => Want .non G', rt := Want } (start N ys) G) :
    FnG P w K mg base CX (n + 1) fn data pars sp := by
  obtain ⟨oc, od, kV, doc, pm, an, cd, ct, osl, rfl, at_, hcd⟩ := F.ex
  constructor
  · exact count
  intro B up st G given ws ys Want Err hg hr e0 hb rel told
  have inK : K.In st.heap := e0.mod.kin.keeps (fun b o e => And.left (e0.bs b o e))
  have lim : st.heap.NoLimit := e0.mod.nolimit.keeps (fun b o e => And.left (e0.bs b o e))
  have kinds : ∀ y ∈ pars.zip ws, (defScope text).names.lookup y.1 = some .local ∨ ((defScope text).names.lookup y.1 = some .cell ∧ ((cellsFrom (st.heap.objs.size + 1) (defScope text).names []).lookup y.1).isSome = true) := by
    intro ⟨name, val⟩ hy
    refine (S.par name (List.of_mem_zip hy).1).imp id fun q => ?_
    exact ⟨q, PySem.W.cellsFrom_some _ _ _ (.inl q)⟩
  apply codeAny_call_function hr.depth (inK _ _ at_) rfl S.co S.gen rfl (PySem.W.codeRec_of inK hcd)
  apply hb
  refine wpAny_newFunctionEnv_cells S.kind kinds fun env same s1 inside => ?_
  cases same
  refine ⟨lim.keeps inside.toInCall.keep, codeAny_func ?_⟩
  obtain ⟨t, derived, reading⟩ := body cd B up st G ys Want Err hg (hr.deeper _) told
  have I0 := inv_start (CX := CX) (E := Err) (w := w) (P := P) S hr.hd e0 (count _ _ _ _ told) rel inside
  have back : ∀ {σ1 : L2.St} {G1 : Hp} {y : V} {u : Value} {st1 : Shared}, Inv (cxOf CX P w K mg base N qual (defScope text) fn cd B up st G Err) [] σ1 G1 st1 → RelV y u → Want y G1 → CE up P w G st Want u st1 := by
    intro σ1 G1 y u st1 J ry q
    exact ⟨y, G1, J.os, J.bare, J.base, J.hok, ry, q⟩
  refine wpAny_mono (derived.nox.run [] s1 (start N ys) G _ I0 reading) (fun flow st1 told1 => ?_) (fun _ _ z => z)
  match flow, told1 with
  | .ret u, ⟨y, σ1, G1, J, ry, q⟩ => exact back J ry q
  | .next, ⟨σ1, G1, J, q⟩ => exact back (y := V.non) (u := Value.none) J rfl q
  | .brk, ⟨_, _, _, q⟩ => exact q.elim
  | .cont, ⟨_, _, _, q⟩ => exact q.elim
end
section
variable {X : Cx} {CX : CXT} {n : Nat} {fn : Addr} {data : FuncData} {pars : List Str} {sp : Sp} {dvs : List V} {ds : List Value} {Err : XK}
theorem runG {pins : List (Addr × Obj)} {σ : L2.St} {G : Hp} {st : Shared} {Want : VK} {ws : List Value} {ys : List V} (F : FnG X.prog X.w X.K X.mg X.base CX n fn data pars sp) (hg : X.A.guards = some []) (hr : Room n X.A) (hb : Binds X.K data pars ds) (hd : Vals dvs ds)
    (hx : Passes CX X Err) (I : Inv X pins σ G st) (rel : Vals ys ws) (told : sp (ys ++ dvs) G Want Err) : wpAny (model X.prog X.w) X.A (call (.ref fn) ws) (EP X pins σ Want) X.xe st := by
  have both : Vals (ys ++ dvs) (ws ++ ds) := rel.append hd
  have size : (ws ++ ds).length = pars.length := (Vals.length both).symm.trans (F.count _ _ _ _ told)
  apply wpAny_call
  apply codeAny_mono (F.go X.A X.stack st G ⟨ws, []⟩ (ws ++ ds) (ys ++ dvs) Want Err hg hr I.env0 (hb st ws I.kIn size) both told)
  intro res st1 hq
  match res, hq with
  | .ok (.ret u), hq => exact I.after hq
  | .error e, hq => exact hx pins σ G st e st1 I hq
  | .ok .next, hq => exact hq.elim
  | .ok .brk, hq => exact hq.elim
  | .ok .cont, hq => exact hq.elim
/-- f(..), f by such a promise -/
theorem pe_callg {x : Str} {p pos : Pos} {e : Expr} {es : List Expr} {t : TA} (F : FnG X.prog X.w X.K X.mg X.base CX n fn data pars sp) (gd : X.A.guards = some []) (hr : Room n X.A) (hg : Gl X x) (hm : X.mg x = some (.ref fn)) (hk : PySem.W.keepIn X.K (.ref fn) = true)
    (hb : Binds X.K data pars ds) (hd : Vals dvs ds) (hx : Passes CX X Err) (ha : PA X (e :: es) t) (hdb : (x == ("__debug__" : Str)) = false := by decide)
    (he : starEach (e :: es) X.env = (false, eval e X.env) :: starEach es X.env := by rfl) (hpl : (backTo pos (starEach es X.env)).any (·.1) = false := by rfl) :
    PE X (.Call (.Name x p) (e :: es) [] pos) (tCall sp dvs Err t) := by
  constructor
  intro pins st σ G Want I told
  refine wpAny_Call_Name_kw (ld_glob I hg hm (PySem.W.callWith_K (h₀ := X.base) I.ok.mod.kin hk ?_ he hpl) hdb)
  refine thn (ha.run pos pins st σ G _ I told) fun ws st1 behind => ?_
  obtain ⟨ys, G1, I1, rel, q⟩ := behind
  exact ⟨I1.kIn, runG F gd hr hb hd hx I1 rel q⟩
end
end RG
namespace RG
open PySem PySem.Spec PyProof.Rows L2
section
variable {P : Program} {w : World} {K : PySem.W.Frag} {mg mb : Str → Option Value} {CX : CXT} {n : Nat} {fn script : Addr} {data : FuncData} {x : Str} {sp : Sp} {st : Shared} {items : List Value} {ns : List Int}
/-- only the script is tracked -/
def scriptAt (a : Addr) (items : List Value) (ns : List Int) : Hp := fun b => if b = a then some (.frz { cls := .type "list", data := .seq items.toArray } (.lst (ns.map V.int))) else none
theorem scriptAt_same {a : Addr} {items : List Value} {ns : List Int} : scriptAt a items ns a = some (.frz { cls := .type "list", data := .seq items.toArray } (.lst (ns.map V.int))) := if_pos rfl
theorem scriptAt_ne {a b : Addr} {items : List Value} {ns : List Int} (h : b ≠ a) : scriptAt a items ns b = none := if_neg h
/-- the law's call, from a heap in which nothing but the script may be tracked -/
theorem lawG_at (G : Hp) (inK : K.In st.heap) (glob : st.heap.Ns mainGlobals mg) (blt : st.heap.Ns builtinsNs mb) (are : ∀ y : Str, y ≠ "__name__" → mb y = bootBuiltins y) (lim : st.heap.NoLimit) (nogen : st.gens = #[])
    (there : st.heap.get? script = some { cls := .type "list", data := .seq items.toArray }) (room : Room n callerA)
    (F : ∀ base : Heap, K.In base → base.Ns mainGlobals mg → FnG P w K mg base CX n fn data [x] sp) (binds : ∀ (s : Shared) (u : Value), BindsTo s data ⟨[u], []⟩ [(x, u)])
    (told : sp [.ref script] G (fun v _ => v = .bl true) fun _ _ _ => False) (quiet : ∀ e s', CX [] G st (fun _ _ _ => False) e s' → False)
    (only : Only G) (held : HOk P w G st.heap) (one : ∀ b, G b ≠ none → b = script) (apart : G script ≠ none → K.lookup script = none) :
    codeAny (model P w) callerA (.call (.ref fn) ⟨[.ref script], []⟩) (fun r s' => r = .ok (.ret (.bool true)) ∧ OldK st.heap s'.heap ∧ s'.os = st.os ∧ AllBare s'.gens) st := by
  have free_of : ∀ {b : Addr}, b ≠ script → G b = none := by
    intro b hb
    apply Classical.byContradiction
    intro q
    exact hb (one b q)
  have dict_free : ∀ {b : Addr} {o : Obj} {es : Array DictEntry} {ep : Nat}, st.heap.get? b = some o → o.data = .dict es ep → G b = none := by
    intro b o es ep e d
    apply free_of
    intro z
    subst z
    rw [there] at e
    injection e with e
    subst e
    exact nomatch d
  have ns_in : ∀ {b : Addr} {m : Str → Option Value}, st.heap.Ns b m → (hidT st.heap G).Ns b m := by
    intro b m h
    obtain ⟨o, es, ep, e, d, more⟩ := h
    exact ⟨o, es, ep, hidT_get e (dict_free e d), d, more⟩
  have inB : K.In (hidT st.heap G) := by
    intro b o e
    refine hidT_get (inK b o e) ?_
    by_cases hb : b = script
    · subst hb
      apply Classical.byContradiction
      intro q
      rw [apart q] at e
      exact nomatch e
    · exact free_of hb
  have ground : Mod K mg (hidT st.heap G) := by
    obtain ⟨mc, l1, l2⟩ := lim
    exact ⟨inB, ns_in glob, ⟨mb, ns_in blt, are⟩, ⟨mc, ns_in l1, l2⟩⟩
  have e0 : Env0 P w K mg (hidT st.heap G) callerA [] st G :=
    ⟨rfl, ground, fun b o => of_hidT, Nat.le_of_eq (hidT_size _ _), True.intro, fun b z => (List.not_mem_nil z).elim, held, .of_eq nogen⟩
  apply codeAny_mono ((F _ inB (ns_in glob)).go callerA [] st G ⟨[.ref script], []⟩ [.ref script] [.ref script] _ _ rfl room e0 (binds st (.ref script)) (.cons rfl .nil) told)
  intro r s' h
  match r, h with
  | .error e, h => exact (quiet e s' h).elim
  | .ok .next, h => exact h.elim
  | .ok .brk, h => exact h.elim
  | .ok .cont, h => exact h.elim
  | .ok (.ret u), ⟨v, G', sameOs, bare, un, held', rv, yes⟩ =>
    subst yes
    cases (show u = Value.bool true from rv)
    refine ⟨rfl, OldK.of_keep ?_, sameOs, bare⟩
    intro b o e
    rcases only b with q | ⟨ob, xs, q⟩
    · exact un.keep b o e q List.not_mem_nil List.not_mem_nil
    · have h1 := (held b _ q).1
      have h2 := (held' b _ (un.frzs b ob _ q)).1
      rw [h2]
      exact h1.symm.trans e
theorem lawG (inK : K.In st.heap) (glob : st.heap.Ns mainGlobals mg) (blt : st.heap.Ns builtinsNs mb) (are : ∀ y : Str, y ≠ "__name__" → mb y = bootBuiltins y) (lim : st.heap.NoLimit) (nogen : st.gens = #[])
    (there : st.heap.get? script = some { cls := .type "list", data := .seq items.toArray }) (wholes : IntsAre items ns) (line : ns.length ≤ sizeLine) (room : Room n callerA)
    (F : ∀ base : Heap, K.In base → base.Ns mainGlobals mg → FnG P w K mg base CX n fn data [x] sp) (binds : ∀ (s : Shared) (u : Value), BindsTo s data ⟨[u], []⟩ [(x, u)])
    (told : ∀ G : Hp, Only G → SqL K G script (ns.map V.int) → sp [.ref script] G (fun v _ => v = .bl true) fun _ _ _ => False) (quiet : ∀ G e s', CX [] G st (fun _ _ _ => False) e s' → False) :
    codeAny (model P w) callerA (.call (.ref fn) ⟨[.ref script], []⟩) (fun r s' => r = .ok (.ret (.bool true)) ∧ OldK st.heap s'.heap ∧ s'.os = st.os ∧ AllBare s'.gens) st := by
  have rel := vals_ints wholes
  cases own : K.lookup script with
  | none =>
    have only : Only (scriptAt script items ns) := by
      intro b
      by_cases hb : b = script
      · rw [hb]
        exact .inr ⟨_, _, scriptAt_same⟩
      · exact .inl (scriptAt_ne hb)
    refine lawG_at _ inK glob blt are lim nogen there room F binds (told _ only (.inl (.inr ⟨_, scriptAt_same⟩))) (quiet _) only ?_ ?_ (fun _ => own)
    · intro b u z
      by_cases hb : b = script
      · rw [hb, scriptAt_same] at z
        cases z
        rw [hb]
        exact ⟨there, by rw [List.length_map]; exact line, items, _, rel, there⟩
      · exact nomatch (scriptAt_ne hb).symm.trans z
    · intro b z
      apply Classical.byContradiction
      intro hb
      exact z (scriptAt_ne hb)
  | some o =>
    cases (inK script o own).symm.trans there
    have only : Only (fun _ => none) := fun _ => .inl rfl
    refine lawG_at _ inK glob blt are lim nogen there room F binds (told _ only (.inr ?_)) (quiet _) only (fun _ _ z => nomatch z) (fun _ z => (z rfl).elim) (fun z => (z rfl).elim)
    have size := wholes.length
    exact ⟨_, items.toArray, _, own, rfl, rfl, rfl, by rw [List.size_toArray, size]; exact line, by simpa using rel⟩
end
/-- the goal that the head leaves, from the law's promise -/
theorem walkG {l : PySem.W.OpenLaw} {most n : Nat} {q : Program} {loose : List Str} {XP : (Str → Option Value) → Heap → Prop} {YP : World → Heap → Prop} {d : DefRec} {K : Params → PySem.W.Frag} {CX : CXT} {sp : PySem.W.Frag → Sp} {x : Str}
    (hm : l.most = some most) (hl : most ≤ sizeLine) (hdf : d.params.defaults = []) (room : Room n callerA) (hY : ∀ (w : World) (h : Heap), YP w h → (K w.params).In h)
    (F : ∀ (w : World) (mg : Str → Option Value) (fn : Addr) (h : Heap), (K w.params).In h → h.Ns mainGlobals mg → mg d.name = some (.ref fn) →
      ∃ data : FuncData, (∀ (s : Shared) (u : Value), BindsTo s data ⟨[u], []⟩ [(x, u)]) ∧ ∀ base : Heap, (K w.params).In base → base.Ns mainGlobals mg → FnG l.prog w (K w.params) mg base CX n fn data [x] (sp (K w.params)))
    (told : ∀ (K : PySem.W.Frag) (G : Hp) (a : Addr) (ns : List Int), ns.length ≤ most → Only G → SqL K G a (ns.map V.int) → sp K [.ref a] G (fun v _ => v = .bl true) fun _ _ _ => False)
    (quiet : ∀ (G : Hp) (s : Shared) (e : Value) (s' : Shared), CX [] G s (fun _ _ _ => False) e s' → False) : PySem.W.WalkO q loose XP YP l.row.toRowW d [] (fun f vs => PySem.call f vs) := by
  apply Att.attach_call hm hdf
  intro w s₀ st mg mb fn o pm cd doc a items ns ground more _ _ _ named there wholes short nogen
  obtain ⟨data, binds, ok⟩ := F w mg fn _ (hY w _ more) ground.T.g named
  exact lawG (hY w _ more) ground.T.g ground.T.b ground.T.builtins ground.T.nolimit nogen there wholes (Nat.le_trans short hl) room ok binds (fun G => told _ G a ns short) (fun G e s' => quiet G st e s')
end RG
namespace RG
open PySem PySem.Spec PyProof.Rows L2
/-! ### repr of data -/
def keyD : Key → PyData
  | .inl i => .int i
  | .inr x => .str x
mutual
/-- v is data, as repr reads it -/
inductive Rp (K : PySem.W.Frag) (G : Hp) : V → PyData → Prop
  | non : Rp K G .non .none
  | bl (b : Bool) : Rp K G (.bl b) (.bool b)
  | int (i : Int) : Rp K G (.int i) (.int i)
  | str (x : Str) : Rp K G (.str x) (.str x)
  | lst {a : Addr} {xs : List V} {ds : List PyData} : SqL K G a xs → RpAll K G xs ds → a ≠ sysModules → Rp K G (.ref a) (.list ds)
  | tup {a : Addr} {xs : List V} {ds : List PyData} : SqT K G a xs → RpAll K G xs ds → Rp K G (.ref a) (.tuple ds)
  | dic {a : Addr} {kvs : List (Key × V)} {ps : List (PyData × PyData)} : G a = some (.dK kvs) → ps.map (·.1) = kvs.map (fun p => keyD p.1) → RpAll K G (kvs.map (·.2)) (ps.map (·.2)) → Rp K G (.ref a) (.dict ps)
inductive RpAll (K : PySem.W.Frag) (G : Hp) : List V → List PyData → Prop
  | nil : RpAll K G [] []
  | cons {v : V} {vs : List V} {d : PyData} {ds : List PyData} : Rp K G v d → RpAll K G vs ds → RpAll K G (v :: vs) (d :: ds)
end
section
variable {X : Cx} {pins : List (Addr × Obj)} {σ : L2.St} {G : Hp} {st : Shared}
theorem key_reads {h : Heap} {k : Key} {u : Value} (q : keyIs k u = true) : Reads h u (keyD k) [] := by
  rcases keyIs_shape q with ⟨i, t, rfl, rfl⟩ | ⟨x, t, rfl, rfl⟩
  · exact .int i t
  · exact .str x t
theorem keys_read {P : Program} {w : World} {h : Heap} : ∀ {es : List DictEntry} {kvs : List (Key × V)} {vs : List (Key × Value)}, KV kvs vs → Pairs (mixKind P w) es vs → ReadsAll h (es.map (·.key)) (kvs.map fun p => keyD p.1) []
  | [], _, _, r, .nil => by
    cases r
    exact .nil
  | e :: es, _, _, r, .cons hk _ more => by
    cases r with
    | cons r0 r1 =>
      rename_i kv kvs'
      have q := keys_read (h := h) r1 more
      have q0 : Reads h e.key (keyD kv.1) [] := by
        rw [r0.1]
        exact key_reads hk
      exact ReadsAll.cons q0 q
theorem vals_read {P : Program} {w : World} : ∀ {es : List DictEntry} {kvs : List (Key × V)} {vs : List (Key × Value)}, KV kvs vs → Pairs (mixKind P w) es vs → Vals (kvs.map (·.2)) (es.map (·.val))
  | [], _, _, r, .nil => by
    cases r
    exact .nil
  | e :: es, _, _, r, .cons _ hv more => by
    cases r with
    | cons r0 r1 =>
      refine .cons ?_ (vals_read r1 more)
      show L2.RelV _ e.val
      rw [hv]
      exact r0.2
mutual
theorem Rp.reads (I : Inv X pins σ G st) : ∀ (d : PyData) (v : V) (u : Value), Rp X.K G v d → RelV v u → ∃ as, Reads st.heap u d as ∧ sysModules ∉ as
  | .none, _, _, h, r => by
    cases h
    cases r
    exact ⟨_, .none, List.not_mem_nil⟩
  | .bool b, _, _, h, r => by
    cases h
    cases r
    exact ⟨_, .bool b, List.not_mem_nil⟩
  | .int i, _, _, h, r => by
    cases h
    obtain ⟨t, rfl⟩ := r
    exact ⟨_, .int i t, List.not_mem_nil⟩
  | .str x, _, _, h, r => by
    cases h
    obtain ⟨t, rfl⟩ := r
    exact ⟨_, .str x t, List.not_mem_nil⟩
  | .list ds, _, _, h, r => by
    cases h with
    | lst hs ha hn =>
      cases r
      obtain ⟨its, rv, ⟨o, n, ho, hc, _, hd⟩, _⟩ := I.list hs
      obtain ⟨as, q, out⟩ := Rp.readsAll I ds _ its ha rv
      refine ⟨_, .list ho hc hd q, fun m => ?_⟩
      rcases List.mem_cons.mp m with e | m
      · exact hn e.symm
      · exact out m
  | .tuple ds, _, _, h, r => by
    cases h with
    | tup hs ha =>
      cases r
      obtain ⟨its, rv, ⟨o, ho, hc, n, hd⟩, _⟩ := I.tuple hs
      obtain ⟨as, q, out⟩ := Rp.readsAll I ds _ its ha rv
      exact ⟨_, .tuple ho hc hd q, out⟩
  | .dict ps, _, _, h, r => by
    cases h with
    | dic hs hk ha =>
      rename_i a kvs
      cases r
      obtain ⟨_, low, vs, rel, o, es, ep, ho, hc, hd, _, prs, _⟩ := dk_of I.hok hs
      obtain ⟨bs, q, out⟩ := Rp.readsVals I ps _ _ ha (vals_read rel prs)
      have q1 := keys_read (h := st.heap) rel prs
      rw [← hk] at q1
      refine ⟨_, .dict ho hc.1 hd q1 q, fun m => ?_⟩
      have m' : sysModules = a ∨ sysModules ∈ bs := by simpa using m
      rcases m' with e | m'
      · rw [e] at low
        simp at low
      · exact out m'
theorem Rp.readsAll (I : Inv X pins σ G st) : ∀ (ds : List PyData) (vs : List V) (us : List Value), RpAll X.K G vs ds → Vals vs us → ∃ as, ReadsAll st.heap us ds as ∧ sysModules ∉ as
  | [], _, _, h, r => by
    cases h
    cases r
    exact ⟨_, .nil, List.not_mem_nil⟩
  | d :: ds, _, _, h, r => by
    cases h with
    | cons h1 h2 =>
      cases r with
      | cons r1 r2 =>
        obtain ⟨as, q1, o1⟩ := Rp.reads I d _ _ h1 r1
        obtain ⟨bs, q2, o2⟩ := Rp.readsAll I ds _ _ h2 r2
        refine ⟨_, .cons q1 q2, fun m => ?_⟩
        rcases List.mem_append.mp m with m | m
        · exact o1 m
        · exact o2 m
theorem Rp.readsVals (I : Inv X pins σ G st) : ∀ (ps : List (PyData × PyData)) (vs : List V) (us : List Value), RpAll X.K G vs (ps.map (·.2)) → Vals vs us → ∃ as, ReadsAll st.heap us (ps.map (·.2)) as ∧ sysModules ∉ as
  | [], _, _, h, r => by
    cases h
    cases r
    exact ⟨_, .nil, List.not_mem_nil⟩
  | (k, d) :: ps, _, _, h, r => by
    cases h with
    | cons h1 h2 =>
      cases r with
      | cons r1 r2 =>
        obtain ⟨as, q1, o1⟩ := Rp.reads I d _ _ h1 r1
        obtain ⟨bs, q2, o2⟩ := Rp.readsVals I ps _ _ h2 r2
        refine ⟨_, .cons q1 q2, fun m => ?_⟩
        rcases List.mem_append.mp m with m | m
        · exact o1 m
        · exact o2 m
end
end
section
variable {X : Cx} {k : Nat}
/-- repr(x), x data, where nothing of repr runs around -/
theorem call_repr (hg : X.A.guards = some []) (hr : Room k X.A) : CallR X (.builtin "repr") (fun xs G Want => ∃ v d, xs = [v] ∧ Rp X.K G v d ∧ d.showable = true ∧ d.depth ≤ 64 ∧ d.shown.length ≤ sizeLine ∧ Want (.str d.shown) G) := by
  intro pins st σ G ys ws Want I rel told
  obtain ⟨v, d, rfl, hd, sh, dp, sz, q⟩ := told
  obtain ⟨u, rfl, ru⟩ := vals1 rel
  have room := hr.un
  cases hd with
  | non =>
    cases ru
    refine PySem.P.repr_of_none ⟨.str _, G, I.tok _, ⟨_, rfl⟩, ?_⟩
    simpa only [PyData.shown] using q
  | bl b =>
    cases ru
    refine PySem.P.repr_of_bool ⟨.str _, G, I.tok _, ⟨_, rfl⟩, ?_⟩
    simpa only [PyData.shown] using q
  | int i =>
    obtain ⟨t, rfl⟩ := ru
    have small : i.natAbs.log2 < 1920 := by simpa [PyData.showable] using sh
    refine PySem.P.repr_of_int small ⟨.str _, G, I.tok _, ⟨_, rfl⟩, ?_⟩
    simpa only [PyData.shown] using q
  | str x =>
    obtain ⟨t, rfl⟩ := ru
    have short : (reprText x).length ≤ sizeLine := by simpa only [PyData.shown] using sz
    refine PySem.P.repr_of_str ⟨.str _, G, I.tok _, ⟨_, rfl⟩, ?_⟩ short
    simpa only [PyData.shown] using q
  | lst a b c =>
    cases ru
    obtain ⟨as, rd, out⟩ := Rp.reads I _ _ _ (.lst a b c) rfl
    exact repr_of_reads' rd sh (fun _ => out) hg (by omega) (fun _ _ z => z) (fun h' t tk keep => ⟨.str _, G, I.kept keep, ⟨_, rfl⟩, q⟩) sz
  | tup a b =>
    cases ru
    obtain ⟨as, rd, out⟩ := Rp.reads I _ _ _ (.tup a b) rfl
    exact repr_of_reads' rd sh (fun _ => out) hg (by omega) (fun _ _ z => z) (fun h' t tk keep => ⟨.str _, G, I.kept keep, ⟨_, rfl⟩, q⟩) sz
  | dic a b c =>
    cases ru
    obtain ⟨as, rd, out⟩ := Rp.reads I _ _ _ (.dic a b c) rfl
    exact repr_of_reads' rd sh (fun _ => out) hg (by omega) (fun _ _ z => z) (fun h' t tk keep => ⟨.str _, G, I.kept keep, ⟨_, rfl⟩, q⟩) sz
/-- a list that is laid stands behind the modules' dict -/
def tLstB (t : TA) : TE := fun σ G Want => t σ G fun xs G1 => xs.length ≤ sizeLine ∧ ∀ p, G1 p = none → p ≠ sysModules → Want (.ref p) (upd G1 p (.lst xs))
theorem pe_lstB {es : List Expr} {t : TA} {pos : Pos} (h : PA X es t) : PE X (.List es pos) (tLstB t) := by
  constructor
  intro pins st σ G Want I told
  apply wpAny_List_spliced
  refine thn (h.run pos pins st σ G _ I told) fun ws s1 behind => ?_
  obtain ⟨xs, G1, I1, rel, line, q⟩ := behind
  refine ⟨by rw [← rel.length]; exact line, ?_⟩
  have free := I1.hok.fresh (Nat.le_refl s1.heap.objs.size)
  have laid : ObjOk X.prog X.w (upd G1 s1.heap.objs.size (.lst xs)) (s1.heap.push { cls := .type "list", data := .seq ws.toArray }) s1.heap.objs.size (.lst xs) := ⟨line, ws, 0, rel, Heap.get?_push_size _ rfl⟩
  exact ⟨.ref s1.heap.objs.size, _, I1.laid (t' := s1.toks) (fun _ _ z => Heap.get?_push_of_some _ z) (Nat.le_refl _) laid, rfl, q _ free (Nat.ne_of_gt I1.big)⟩
end
end RG

set_option Elab.async false
set_option linter.all false
set_option maxRecDepth 100000
/-! New lists and tuples over a heap that is not written out. -/
namespace Ab
open PySem PySem.Spec L2
/-- (e, ..), [e, ..], a + b: what is laid stands at p, all else as before -/
def tTupA (ta : TA) : TE := fun σ G Want => ta σ G fun xs G1 => xs.length ≤ sizeLine ∧ ∀ p G2, G1 p = none → Same G1 G2 → G2 p = some (.tup xs) → Want (.ref p) G2
def tLstA (ta : TA) : TE := fun σ G Want => ta σ G fun xs G1 => xs.length ≤ sizeLine ∧ ∀ p G2, G1 p = none → p ≠ sysModules → Same G1 G2 → G2 p = some (.lst xs) → Want (.ref p) G2
theorem same_up {G : Hp} {p : Addr} {o : HO} (h : G p = none) : Same G (upd G p o) := fun b u q => by
  rw [upd_ne (ne_of_none q h)]
  exact q
section
variable {X : Cx} {es : List Expr} {ta : TA} {pos : Pos}
theorem pe_tupA {k} (h : PA X es ta) : PE X (.Tuple es k pos) (tTupA ta) := by
  constructor
  intro pins st σ G Want I told
  apply wpAny_Tuple_spliced
  refine thn (h.run pos pins st σ G _ I told) fun ws s1 behind => ?_
  obtain ⟨xs, G1, I1, rel, line, q⟩ := behind
  refine ⟨by rw [← rel.length]; exact line, ?_⟩
  have free := I1.hok.fresh (Nat.le_refl s1.heap.objs.size)
  have laid : ObjOk X.prog X.w (upd G1 s1.heap.objs.size (.tup xs)) (s1.heap.push { cls := .type "tuple", data := .seq ws.toArray }) s1.heap.objs.size (.tup xs) := ⟨line, ws, rel, ⟨_, Heap.get?_push_size _ rfl, rfl, _, rfl⟩⟩
  exact ⟨.ref s1.heap.objs.size, _, I1.laid (t' := s1.toks) (fun _ _ z => Heap.get?_push_of_some _ z) (Nat.le_refl _) laid, rfl, q _ _ free (same_up free) upd_same⟩
theorem pe_lstA (h : PA X es ta) : PE X (.List es pos) (tLstA ta) := by
  constructor
  intro pins st σ G Want I told
  apply wpAny_List_spliced
  refine thn (h.run pos pins st σ G _ I told) fun ws s1 behind => ?_
  obtain ⟨xs, G1, I1, rel, line, q⟩ := behind
  refine ⟨by rw [← rel.length]; exact line, ?_⟩
  have free := I1.hok.fresh (Nat.le_refl s1.heap.objs.size)
  have laid : ObjOk X.prog X.w (upd G1 s1.heap.objs.size (.lst xs)) (s1.heap.push { cls := .type "list", data := .seq ws.toArray }) s1.heap.objs.size (.lst xs) := ⟨line, ws, 0, rel, Heap.get?_push_size _ rfl⟩
  exact ⟨.ref s1.heap.objs.size, _, I1.laid (t' := s1.toks) (fun _ _ z => Heap.get?_push_of_some _ z) (Nat.le_refl _) laid, rfl, q _ _ free (Nat.ne_of_gt I1.big) (same_up free) upd_same⟩
end
/-- {}: abstract -/
def tDicA : TE := fun _ G Want => ∀ p G2, G p = none → Same G G2 → G2 p = some (.dK []) → Want (.ref p) G2
theorem pe_dicA {X : Cx} {pos : Pos} : PE X (.Dict [] [] pos) tDicA := ⟨fun pins st σ G Want I told => (pe_dnewK (X := X) (pos := pos)).run pins st σ G Want I fun p h => told p _ h (same_up h) upd_same⟩
/-- xs + ys, two lists -/
def rCatA : R2 := fun x y G Want => ∃ l b xs zs, x = .ref l ∧ y = .ref b ∧ G l = some (.lst xs) ∧ G b = some (.lst zs) ∧ xs.length + zs.length ≤ sizeLine ∧ ∀ p G2, G p = none → Same G G2 → G2 p = some (.lst (xs ++ zs)) → Want (.ref p) G2
theorem op_catA {X : Cx} : OpR X (binaryOp .Add) rCatA := fun pins st σ G x y v u Want I rx ry ⟨l, b, xs, zs, ex, ey, hl, hb, hz, q⟩ =>
  op_cat pins st σ G x y v u Want I rx ry ⟨l, b, xs, zs, ex, ey, hl, hb, hz, fun p h => q p _ h (same_up h) upd_same⟩
end Ab

set_option Elab.async false
set_option linter.all false
set_option maxRecDepth 100000
/-! Data that stand beside the pen. -/
namespace Dat
open PySem PySem.Spec L2 RG Pen
theorem sz {n : Nat} (h : n ≤ 99) : n ≤ sizeLine := Nat.le_trans h (by decide)
theorem szl {n : Nat} (h : n ≤ 99) : n < sizeLine := Nat.lt_of_le_of_lt h (by decide)
def delp (p : Addr) (G : Hp) : Hp := fun b => if b = p then none else G b
theorem delp_ne {p b : Addr} {G : Hp} (h : b ≠ p) : delp p G b = G b := if_neg h
theorem delp_same {p : Addr} {G G1 : Hp} (s : SameX p G G1) : Same (delp p G) (delp p G1) := fun b o h => by
  by_cases hb : b = p
  · subst hb
    have h' : (if b = b then none else G b) = some o := h
    rw [if_pos rfl] at h'
    cases h'
  · rw [delp_ne hb] at h ⊢
    exact s b o hb h
theorem delp_le {p : Addr} {G : Hp} : Same (delp p G) G := fun b o h => by
  by_cases hb : b = p
  · have h' : (if b = p then none else G b) = some o := h
    rw [if_pos hb] at h'
    cases h'
  · rw [delp_ne hb] at h
    exact h
theorem sqT_same {K : PySem.W.Frag} {G G1 : Hp} {a : Addr} {xs : List V} (s : Same G G1) (h : SqT K G a xs) : SqT K G1 a xs := by
  rcases h with (h | ⟨o, h⟩) | h
  · exact .inl (.inl (s _ _ h))
  · exact .inl (.inr ⟨o, s _ _ h⟩)
  · exact .inr h
mutual
theorem Rp.same {K : PySem.W.Frag} {G G1 : Hp} (s : Same G G1) : ∀ {d : PyData} {v : V}, Rp K G v d → Rp K G1 v d
  | .none, _, .non => .non
  | .bool _, _, .bl b => .bl b
  | .int _, _, .int i => .int i
  | .str _, _, .str x => .str x
  | .list _, _, .lst h r n => .lst (s.seq h) (RpAll.same s r) n
  | .tuple _, _, .tup h r => .tup (sqT_same s h) (RpAll.same s r)
  | .dict ps, _, .dic h k r => .dic (s _ _ h) k (RpAll.sameV s (ps := ps) r)
theorem RpAll.same {K : PySem.W.Frag} {G G1 : Hp} (s : Same G G1) : ∀ {ds : List PyData} {vs : List V}, RpAll K G vs ds → RpAll K G1 vs ds
  | [], _, .nil => .nil
  | _ :: _, _, .cons h r => .cons (Rp.same s h) (RpAll.same s r)
theorem RpAll.sameV {K : PySem.W.Frag} {G G1 : Hp} (s : Same G G1) : ∀ {ps : List (PyData × PyData)} {vs : List V}, RpAll K G vs (ps.map (·.2)) → RpAll K G1 vs (ps.map (·.2))
  | [], _, .nil => .nil
  | (_, _) :: _, _, .cons h r => .cons (Rp.same s h) (RpAll.sameV s r)
end
theorem RpAll.append {K : PySem.W.Frag} {G : Hp} : ∀ {vs ws : List V} {ds es : List PyData}, RpAll K G vs ds → RpAll K G ws es → RpAll K G (vs ++ ws) (ds ++ es)
  | _, _, _, _, .nil, r => r
  | _, _, _, _, .cons h t, r => .cons h (RpAll.append t r)
theorem RpAll.mem {K : PySem.W.Frag} {G : Hp} {v : V} : ∀ {vs : List V} {ds : List PyData}, RpAll K G vs ds → v ∈ vs → ∃ d, d ∈ ds ∧ Rp K G v d
  | _, _, .nil, h => by cases h
  | _, _, .cons h t, m => by
    rcases List.mem_cons.mp m with e | m
    · subst e
      exact ⟨_, List.mem_cons_self .., h⟩
    · obtain ⟨d, hd, r⟩ := RpAll.mem t m
      exact ⟨d, List.mem_cons_of_mem _ hd, r⟩
end Dat

set_option Elab.async false
set_option linter.all false
set_option maxRecDepth 100000
set_option maxHeartbeats 4000000
/-! Exceptions of own classes with an own __init__, as values: made by position and by name, read, asked for their class. -/
namespace Exn
open PySem PySem.W PySem.Calls
section
variable {M : Model} {A : Around} {E : Value → Shared → Prop} {h : Heap} {g : Array GenState} {d : Drawn} {t : Nat} {os : OsState}
variable {nm q : Str} {C N : Addr} {bs bm bmB : List Value} {hdct : Bool} {sn : List Str} {sub : List Value} {ab : Bool} {col : Option Bool} {dd : Option Addr} {k0 k1 k2 k3 k5 : Option Value} {B newId initId : String}
/-- what may be asked ahead of the base's __new__, with keywords -/
theorem ahead_new (F : ExcBaseFacts B newId initId bmB) (same : ∀ T : String, bm.contains (.type T) = bmB.contains (.type T)) {given : List Value} {named : List (Str × Value)} {Q : Unit → Shared → Prop}
    (cls : h.get? C = some (excClassObj nm q C N bs bm hdct sn sub ab col dd k0 k1 k2 k3 k5 newId)) (ask : Q () ⟨h, g, d, t, os⟩) : wpAny M A (checkBuiltinCall newId ⟨.ref C :: given, named⟩) Q E ⟨h, g, d, t, os⟩ := by
  have below : List.contains (Value.ref C :: bm) (.type B) = true := by
    rw [List.contains_cons, same B, F.hasB, Bool.or_true]
  have star := F.noStar
  simp only [F.newKind, F.newSplit, F.newRow, checkBuiltinCall]
  repeat first
    | refine wpAny_madeBy_exc cls ?_
    | refine wpAny_staticBase_exc cls ?_
    | refine wpAny_loadPart_at cls ?_
    | (refine wpAny_isSubtype_exc cls ?_; rw [below])
    | simp only [if_false, bne_self_eq_false, Bool.false_eq_true]
    | wp_step
  all_goals exact ask
end
section
variable {prog : Program} {w : World} {A : Around} {E : Value → Shared → Prop} {R : Result → Shared → Prop} {h : Heap} {g : Array GenState} {d : Drawn} {t : Nat} {os : OsState}
variable {nm q : Str} {C N : Addr} {bs bm bmB : List Value} {hdct : Bool} {sn : List Str} {sub : List Value} {ab : Bool} {col : Option Bool} {dd : Option Addr} {k0 k1 k2 k3 k5 : Option Value} {B newId initId : String}
theorem run_new (F : ExcBaseFacts B newId initId bmB) (same : ∀ T : String, bm.contains (.type T) = bmB.contains (.type T)) {given : List Value} {named : List (Str × Value)}
    (cls : h.get? C = some (excClassObj nm q C N bs bm hdct sn sub ab col dd k0 k1 k2 k3 k5 newId)) (line : given.length ≤ sizeLine)
    (then_ : R (.ok (.ret (.ref (h.objs.size + 1)))) ⟨(h.push (kdv_tup given)).push (HandSPX.excO C h.objs.size), g, d, t, os⟩) :
    codeAny (model prog w) A (.builtin newId ⟨.ref C :: given, named⟩) R ⟨h, g, d, t, os⟩ := by
  have ends := F.ends
  have inB : List.contains (Value.ref C :: bm) (.type B) = true := by
    rw [List.contains_cons, same B, F.hasB, Bool.or_true]
  have notAttr : List.contains (Value.ref C :: bm) (.type "AttributeError") = false := by
    rw [List.contains_cons, same "AttributeError", F.noAttr]
    rfl
  have notName : List.contains (Value.ref C :: bm) (.type "NameError") = false := by
    rw [List.contains_cons, same "NameError", F.noName]
    rfl
  apply codeAny_builtinAt F.entry
  unfold Builtin.«BaseException.__new__»
  apply PySem.wpAt_bind
  show PySem.wpAt _ _ _ (stack >>= _) _ _ _
  refine PySem.wpAt_bind (wpAt_stack fun here under => wpAt_of_wpAny ?_)
  wp_walk
  apply wpAt_of_wpAny
  rw [F.owner]
  repeat first
    | with_reducible refine wpAny_loadPart_at cls ?_
    | with_reducible refine wpAny_madeHere_exc F.canon cls ?_
    | (with_reducible refine wpAny_isSubtype_exc cls ?_; first | rw [inB] | rw [notAttr] | rw [notName])
    | wp_step
  show R _ _
  rw [Heap.size_push]
  exact then_
theorem ahead_type {M : Model} {given : List Value} {named : List (Str × Value)} {Q : Unit → Shared → Prop} (cls : h.get? C = some (excClassObj nm q C N bs bm hdct sn sub ab col dd k0 k1 k2 k3 k5 newId))
    (ask : Q () ⟨h, g, d, t, os⟩) : wpAny M A (checkBuiltinCall "type.__call__" ⟨.ref C :: given, named⟩) Q E ⟨h, g, d, t, os⟩ := by
  have sub_ := tc_sub
  have kind : (⟨h, g, d, t, os⟩ : Shared).TypeIs (.ref C) "type" := ⟨_, cls, rfl⟩
  simp only [tc_kind, tc_split, checkBuiltinCall]
  repeat (any_goals first
    | assumption
    | with_reducible refine wpAny_onRaise ?_
    | with_reducible refine wpAny_map ?_
    | with_reducible refine wpAny_loadPart_at cls ?_
    | wp_step)
/-- type.__call__ on such a class: the object, then the own __init__ -/
theorem run_cls (F : ExcBaseFacts B newId initId bmB) (same : ∀ T : String, bm.contains (.type T) = bmB.contains (.type T)) {given : List Value} {named : List (Str × Value)} {fI : Addr} {Q : Fin → Shared → Prop}
    (cls : h.get? C = some (excClassObj nm q C N bs bm hdct sn sub ab col dd k0 k1 k2 k3 k5 newId)) (line : given.length ≤ sizeLine)
    (ini : Looks (model prog w) h (typeLookup (.ref C) "__init__") (some (.ref fI))) (bound : ∀ self, Looks (model prog w) h (bindSpecial (.ref fI) self) (.ref fI, [self]))
    (go : codeAny (model prog w) A (.call (.ref fI) ⟨.ref (h.objs.size + 1) :: given, named⟩)
      (fun r s' => match r with | .ok (.ret v) => v = .none ∧ Q (.done (.ret (.ref (h.objs.size + 1)))) s' | .ok _ => False | .error e => E e s')
      ⟨(h.push (kdv_tup given)).push (HandSPX.excO C h.objs.size), g, d, t, os⟩) :
    wpAny (model prog w) A (Builtin.«type.__call__» ⟨.ref C :: given, named⟩) Q E ⟨h, g, d, t, os⟩ := by
  repeat first
    | with_reducible refine wpAny_madeBy_exc cls ?_
    | with_reducible refine wpAny_loadPart_at cls ?_
    | wp_step
  refine codeAny_call_builtin_code (Code.quiet_builtin _ F.quiet) (ahead_new F same cls ?_)
  apply run_new F same cls line
  show wpAny _ _ _ _ _ _
  have up : ∀ b o, h.get? b = some o → ((h.push (kdv_tup given)).push (HandSPX.excO C h.objs.size)).get? b = some o := by
    intro b o e
    exact Heap.get?_push_of_some _ (Heap.get?_push_of_some _ e)
  have cls1 := up _ _ cls
  have new : ((h.push (kdv_tup given)).push (HandSPX.excO C h.objs.size)).get? (h.objs.size + 1) = some (HandSPX.excO C h.objs.size) := by
    heap_get
  have own : List.contains (Value.ref C :: bm) (.ref C) = true := by simp
  have ini1 := Looks.keeps ini up
  have bound1 := Looks.keeps (bound (.ref (h.objs.size + 1))) up
  unfold isInstance
  repeat first
    | (with_reducible refine wpAny_isSubtype_exc cls1 ?_; rw [own])
    | with_reducible refine wpAny_loadPart_at new ?_
    | wp_step
  show wpAny _ _ (typeLookup (.ref C) _) _ _ _
  apply ini1.at
  refine wpAny_holding (wpAny_bind (bound1.at ?_))
  apply wpAny_bind
  apply wpAny_call
  apply codeAny_mono go
  intro r s' told
  match r, told with
  | .error e, told => exact told
  | .ok .next, told => exact told.elim
  | .ok .brk, told => exact told.elim
  | .ok .cont, told => exact told.elim
  | .ok (.ret v), ⟨hv, told⟩ =>
    subst hv
    first
      | exact wpAny_pure (wpAny_pure told)
      | (wp_walk; exact told)
theorem call_cls (F : ExcBaseFacts B newId initId bmB) (same : ∀ T : String, bm.contains (.type T) = bmB.contains (.type T)) {given : List Value} {named : List (Str × Value)} {fI : Addr}
    (cls : h.get? C = some (excClassObj nm q C N bs bm hdct sn sub ab col dd k0 k1 k2 k3 k5 newId)) (line : given.length ≤ sizeLine)
    (ini : Looks (model prog w) h (typeLookup (.ref C) "__init__") (some (.ref fI))) (bound : ∀ self, Looks (model prog w) h (bindSpecial (.ref fI) self) (.ref fI, [self]))
    (go : codeAny (model prog w) (A.under (.builtin "type.__call__" ⟨.ref C :: given, named⟩)) (.call (.ref fI) ⟨.ref (h.objs.size + 1) :: given, named⟩) (InitBack (h.objs.size + 1) R)
      ⟨(h.push (kdv_tup given)).push (HandSPX.excO C h.objs.size), g, d, t, os⟩) :
    codeAny (model prog w) A (.call (.ref C) ⟨given, named⟩) R ⟨h, g, d, t, os⟩ := by
  have look := tc_lookup
  have bind_ := tc_bind (.ref C)
  have kind : (⟨h, g, d, t, os⟩ : Shared).TypeIs (.ref C) "type" := ⟨_, cls, rfl⟩
  apply codeAny_of_tree
  show wpAny _ _ (callAny (.ref C) _) _ _ _
  repeat (any_goals first
    | assumption
    | with_reducible refine wpAny_loadPart_at cls ?_
    | wp_step)
  refine ⟨rfl, codeAny_call_builtin_at (Code.quiet_builtin _ (by decide +kernel)) entry_typeCall ?_⟩
  refine ahead_type cls (run_cls F same cls line ini bound ?_)
  apply codeAny_mono go
  intro r s' told
  match r, told with
  | .error _, told => exact told
  | .ok (.ret _), told => exact told
  | .ok .next, told => exact told
  | .ok .brk, told => exact told
  | .ok .cont, told => exact told
end
end Exn
namespace Exn
open PySem PySem.W PySem.Calls
/-- what the written part says of an own class over the built-in base with the mro tail bmB -/
structure ExC (K : Frag) (C : Addr) (bmB : List Value) (newId : String) : Prop where
  ini : excInitIn K C bmB newId = true
  over : excOver K C bmB = true
  sa : findIn K (.ref C) "__setattr__" = some (some (.builtin "object.__setattr__"))
  hd : hasDictIn K C = true
  ga : findIn K (.ref C) "__getattribute__" = some (some (.builtin "BaseException.__getattribute__"))
  gg : findIn K (.ref C) "__getattr__" = some none
  be : subIn K (.ref C) (.type "BaseException") = some true
  kc : keepIn K (.ref C) = true
  ca : findIn K (.ref C) "__class__" = some (some (.builtin "object.__class__"))
  cg : specialIn K (.builtin "object.__class__") "__get__" = some (some (.builtin "getset_descriptor.__get__"))
  ct : takesIn K (.builtin "object.__class__") = some true
  cm : mroIn K C (.type "object") = some true
section
variable {prog : Program} {w : World} {A : Around} {E : Value → Shared → Prop} {K : Frag} {C x t0 : Addr} {bmB : List Value} {B newId : String} {hp : Heap} {g : Array GenState} {d : Drawn} {t : Nat} {os : OsState} {name : Str} {v : Value}
/-- the first store into an exception that was just made -/
theorem first_store (SF : StoreFacts B bmB "object.__setattr__" "object") (T : ExC K C bmB newId) (inK : K.In hp) (there : hp.get? x = some (HandSPX.excO C t0)) (taker : takerIn K C name = some none) {Q : Unit → Shared → Prop}
    (then_ : ∀ h' tk dx, (∀ b o, b ≠ x → hp.get? b = some o → h'.get? b = some o) → hp.objs.size ≤ dx → dx ≠ x → h'.get? x = some { HandSPX.excO C t0 with dict := some dx } →
      h'.Ns1 dx (fun y => if y = name then some v else none) → Q () ⟨h', g, d, tk, os⟩) : wpAny (model prog w) A (setAttr (.ref x) name v) Q E ⟨hp, g, d, t, os⟩ := by
  refine set_plain (ox := HandSPX.excO C t0) (od := none) inK ⟨there, rfl, rfl, True.intro⟩ T.sa ?_
  refine osa_openX (od := none) (ox := HandSPX.excO C t0) SF inK ⟨there, rfl, rfl, True.intro⟩ T.over taker fun b => ?_
  obtain ⟨cd, hc, hd⟩ := any_some T.hd
  have apart : x ≠ hp.objs.size := Nat.ne_of_lt (Heap.lt_size there)
  refine wpAny_bind (wpAny_pure (wpAny_bind (instanceDict_exc there (looks_clsIn inK hc) hd ?_)))
  refine HandSPX.store_in_new ?_ fun h' tk ns but => ?_
  · refine ⟨_, #[], _, (Heap.get?_update_ne _ _ _ _ apart.symm).trans (Heap.get?_push_at rfl rfl), rfl, fun e he => absurd he (by simp), fun _ => rfl⟩
  · have pushed : (hp.push (dictOf [] 0)).get? x = some (HandSPX.excO C t0) := Heap.get?_push_of_some _ there
    refine then_ h' tk hp.objs.size ?_ (Nat.le_refl _) apart.symm ?_ ns
    · intro b o hb e
      rw [but.2 b (Nat.ne_of_lt (Heap.lt_size e)), Heap.get?_update_ne _ _ _ _ hb]
      exact Heap.get?_push_of_some _ e
    · rw [but.2 x apart]
      exact Heap.get?_update_self _ pushed rfl
end
end Exn
namespace Exn
open PySem PySem.Spec L2
section
variable {X : Cx} {pins : List (Addr × Obj)} {σ : L2.St} {G : Hp} {st : Shared} {a C : Addr} {f : Str} {y : V} {u : Value} {Q : Unit → Shared → Prop} {E : Value → Shared → Prop} {A : Around} {bmB : List Value} {B newId : String}
/-- .. over the abstract heap: the exception has its dict, the dict the field -/
theorem first_store_at (SF : StoreFacts B bmB "object.__setattr__" "object") (T : ExC X.K C bmB newId) (I : Inv X pins σ G st) (e : G a = some (exo a C none)) (taker : PySem.W.takerIn X.K C f = some none) (ry : L2.RelV y u)
    (then_ : ∀ dx s', G dx = none → dx ≠ a → Inv X pins σ (upd (upd G dx (exd dx [(f, y)])) a (exo a C (some dx))) s' → Q () s') : wpAny (model X.prog X.w) A (setAttr (.ref a) f u) Q E st := by
  obtain ⟨t0, there⟩ := exo_at I.hok e
  obtain ⟨hp, g, d, t, os⟩ := st
  refine first_store SF T I.kIn there taker fun h' tk dx keep low ne at_ ns => ?_
  have free : G dx = none := I.hok.fresh low
  have same_a : (h'.update a fun _ => HandSPX.excO C t0).get? a = some (HandSPX.excO C t0) := Heap.get?_update_self _ at_ rfl
  have same_b : ∀ b, b ≠ a → (h'.update a fun _ => HandSPX.excO C t0).get? b = h'.get? b := fun b hb => Heap.get?_update_ne _ _ _ _ hb
  have J1 := I.laid (t' := tk) (a := dx) (o := exd dx [(f, y)]) (h' := h'.update a fun _ => HandSPX.excO C t0) (fun b o q => by
      by_cases hb : b = a
      · subst hb
        rw [same_a]
        exact there.symm.trans q
      · rw [same_b b hb]
        exact keep b o hb q) low (exd_ok (ns.at fun o q => (same_b dx ne).trans q) (relO_put (fs := []) ry fun _ => True.intro))
  have e1 : upd G dx (exd dx [(f, y)]) a = some (exo a C none) := by
    rw [upd_ne (Ne.symm ne)]
    exact e
  exact then_ dx _ free ne (J1.write (t' := tk) (x := a) (e := a) (o := exo a C (some dx)) (h' := h') (by rw [e1]; exact True.intro) (.inl rfl) (fun b o hb q => (same_b b hb).symm.trans q) ⟨_, at_⟩ (exo_ok at_))
end
/-- self.f = e, the first field of an exception that is being made -/
def tFirst (f : Str) (C : Addr) (to te : TE) : TS := fun D σ G => te σ G fun y G1 => to σ G1 fun o G2 => ∃ a : Addr, o = .ref a ∧ G2 a = some (exo a C none) ∧ ∀ dx, G2 dx = none → dx ≠ a → D.nx σ (upd (upd G2 dx (exd dx [(f, y)])) a (exo a C (some dx)))
theorem ps_first {X : Cx} {o e : Expr} {to te : TE} {f : Str} {p1 pos : Pos} {C : Addr} {bmB : List Value} {B newId : String} (SF : StoreFacts B bmB "object.__setattr__" "object") (T : ExC X.K C bmB newId) (taker : PySem.W.takerIn X.K C f = some none) (ho : PE X o to) (he : PE X e te)
    (hs : swapsWith e (some (.Attribute o f p1)) pos.line X.env = pure false := by rfl) : PS X (.Assign [.Attribute o f p1] e pos) (tFirst f C to te) := by
  constructor
  intro pins st σ G D I told
  apply plainObj_wpAny_Assign_Attribute _ hs
  refine thn (he.run pins st σ G _ I told) fun v s1 after1 => ?_
  obtain ⟨y, G1, I1, ry, q1⟩ := after1
  refine thn (ho.run pins s1 σ G1 _ I1 q1) fun w s2 after2 => ?_
  obtain ⟨z, G2, I2, rz, a, ez, ea, q2⟩ := after2
  subst ez
  cases (show w = Value.ref a from rz)
  exact first_store_at SF T I2 ea taker ry fun dx s' free ne J => ⟨σ, _, J, q2 dx free ne⟩
end Exn

set_option Elab.async false
set_option linter.all false
set_option maxRecDepth 100000
set_option maxHeartbeats 4000000
namespace Exn
open PySem PySem.Spec L2
/-- at a: an exception of the class at C with the one field f -/
def ExA (G : Hp) (a C : Addr) (f : Str) (y : V) : Prop := ∃ dx, G a = some (exo a C (some dx)) ∧ G dx = some (exd dx [(f, y)])
theorem ExA.same {G G1 : Hp} {a C : Addr} {f : Str} {y : V} (e : ExA G a C f y) (s : Same G G1) : ExA G1 a C f y := by
  obtain ⟨dx, h1, h2⟩ := e
  exact ⟨dx, s _ _ h1, s _ _ h2⟩
/-- __init__ -/
def spIni (C : Addr) (f : Str) : Sp := fun vs G Want _ => ∃ (a : Addr) (y : V), vs = [.ref a, y] ∧ G a = some (exo a C none) ∧ ∀ dx, G dx = none → dx ≠ a → Want .non (upd (upd G dx (exd dx [(f, y)])) a (exo a C (some dx)))
/-- C(e), C(f=e): a new exception -/
def tNewX (C : Addr) (f : Str) (ta : TA) : TE := fun σ G Want => ta σ G fun vs G1 => ∃ y, vs = [y] ∧ ∀ a G2, G1 a = none → Same G1 G2 → ExA G2 a C f y → Want (.ref a) G2
section
variable {X : Cx} {C fI : Addr} {x f : Str} {fd : FuncData} {p pos : Pos} {e : Expr} {te : TE} {n : Nat} {bmB : List Value} {B newId initId : String}
theorem made {pins : List (Addr × Obj)} {σ : L2.St} {G : Hp} {st : Shared} {Want : VK} {y : V} {u : Value} {given : List Value} {named : List (Str × Value)} (FB : ExcBaseFacts B newId initId bmB) (T : ExC X.K C bmB newId)
    (ini : PySem.W.findIn X.K (.ref C) "__init__" = some (some (.ref fI))) (isF : PySem.W.typeIn X.K (.ref fI) = some (.type "function")) (F : FnOk X.prog X.w X.K X.mg X.base CX0 n fI fd ["self", f] (spIni C f)) (hr : Room (n + 1) X.A)
    (binds : ∀ (s : Shared) (a : Value), X.K.In s.heap → BindsTo s fd ⟨a :: given, named⟩ [("self", a), (f, u)]) (few : given.length ≤ sizeLine) (I : Inv X pins σ G st) (ry : L2.RelV y u)
    (told : ∀ a G2, G a = none → Same G G2 → ExA G2 a C f y → Want (.ref a) G2) : wpAny (model X.prog X.w) X.A (call (.ref C) given named) (EP X pins σ Want) X.xe st := by
  obtain ⟨nm, N', qn, bs, bm, hdct, sn, sub, ab, col, dd, k0, k1, k2, k3, k5, cls, tail⟩ := PySem.W.excInit_of I.kIn T.ini
  obtain ⟨hp, g, dr, tk, os⟩ := st
  have free : G (hp.objs.size + 1) = none := I.hok.fresh (Nat.le_succ _)
  have up : ∀ b o, hp.get? b = some o → ((hp.push (PySem.W.kdv_tup given)).push (HandSPX.excO C hp.objs.size)).get? b = some o := fun b o q => Heap.get?_push_of_some _ (Heap.get?_push_of_some _ q)
  have new : ((hp.push (PySem.W.kdv_tup given)).push (HandSPX.excO C hp.objs.size)).get? (hp.objs.size + 1) = some (HandSPX.excO C hp.objs.size) := by
    heap_get
  have I1 : Inv X pins σ (upd G (hp.objs.size + 1) (exo (hp.objs.size + 1) C none)) ⟨(hp.push (PySem.W.kdv_tup given)).push (HandSPX.excO C hp.objs.size), g, dr, tk, os⟩ :=
    I.laid (t' := tk) (a := hp.objs.size + 1) (o := exo (hp.objs.size + 1) C none) (h' := (hp.push (PySem.W.kdv_tup given)).push (HandSPX.excO C hp.objs.size)) up (Nat.le_succ _) (exo_ok new)
  have rel : Vals [V.ref (hp.objs.size + 1), y] [Value.ref (hp.objs.size + 1), u] := .cons rfl (.cons ry .nil)
  have want : spIni C f [V.ref (hp.objs.size + 1), y] (upd G (hp.objs.size + 1) (exo (hp.objs.size + 1) C none)) (fun v G2 => v = .non ∧ Want (.ref (hp.objs.size + 1)) G2) E0 := by
    refine ⟨_, y, rfl, upd_same, fun dx hdx ne => ⟨rfl, told _ _ free ?_ ⟨dx, upd_same, ?_⟩⟩⟩
    · intro b o q
      have b1 : b ≠ hp.objs.size + 1 := ne_of_none q free
      have b2 : b ≠ dx := by
        intro z
        rw [← z, upd_ne b1, q] at hdx
        cases hdx
      rw [upd_ne b1, upd_ne b2, upd_ne b1]
      exact q
    · rw [upd_ne ne, upd_same]
  apply wpAny_call
  apply call_cls FB tail cls few (PySem.W.looks_findIn I.kIn ini) (fun self => PySem.W.bind_fn I.kIn self isF)
  apply codeAny_mono (F.run _ X.stack _ _ ⟨Value.ref (hp.objs.size + 1) :: given, named⟩ [Value.ref (hp.objs.size + 1), u] _ _ E0 (hr.make C given named) (I1.env0.make C given named) (binds _ _ I1.kIn) rel want)
  intro r s' hq
  match r, hq with
  | .error _, hq => exact hq.elim
  | .ok .next, hq => exact hq.elim
  | .ok .brk, hq => exact hq.elim
  | .ok .cont, hq => exact hq.elim
  | .ok (.ret w), hq =>
    obtain ⟨v, G2, I2, rv, ev, q⟩ := I1.after hq
    subst ev
    exact ⟨rv, V.ref (hp.objs.size + 1), G2, I2, rfl, q⟩
/-- C(e) -/
theorem pe_newx {ta : TA} (FB : ExcBaseFacts B newId initId bmB) (T : ExC X.K C bmB newId) (ini : PySem.W.findIn X.K (.ref C) "__init__" = some (some (.ref fI))) (isF : PySem.W.typeIn X.K (.ref fI) = some (.type "function"))
    (F : FnOk X.prog X.w X.K X.mg X.base CX0 n fI fd ["self", f] (spIni C f)) (hr : Room (n + 1) X.A) (hb : Binds X.K fd ["self", f] []) (hg : Gl X x) (hm : X.mg x = some (.ref C)) (ha : PA X [e] ta)
    (hdb : (x == ("__debug__" : Str)) = false := by decide) (hs : starEach [e] X.env = (false, eval e X.env) :: starEach [] X.env := by rfl) (hp : (backTo pos (starEach [] X.env)).any (·.1) = false := by rfl) : PE X (.Call (.Name x p) [e] [] pos) (tNewX C f ta) := by
  constructor
  intro pins st σ G Want I told
  refine wpAny_Call_Name_kw (ld_glob I hg hm (PySem.W.callWith_K (h₀ := X.base) I.ok.mod.kin T.kc ?_ hs hp) hdb)
  refine thn (ha.run pos pins st σ G _ I told) fun ws s1 behind => ?_
  obtain ⟨vs, G1, I1, rel, y, ev, q⟩ := behind
  subst ev
  obtain ⟨u, eu, ru⟩ := vals1 rel
  subst eu
  refine ⟨I1.kIn, ?_⟩
  exact made FB T ini isF F hr (fun s a inK => hb s [a, u] inK rfl) (by show 1 ≤ sizeLine; decide) I1 ru q
/-- C(f=e) -/
theorem pe_newk {kw : Keyword} {tk : TA} (FB : ExcBaseFacts B newId initId bmB) (T : ExC X.K C bmB newId) (ini : PySem.W.findIn X.K (.ref C) "__init__" = some (some (.ref fI))) (isF : PySem.W.typeIn X.K (.ref fI) = some (.type "function"))
    (F : FnOk X.prog X.w X.K X.mg X.base CX0 n fI fd ["self", f] (spIni C f)) (hr : Room (n + 1) X.A) (hb : ∀ (s : Shared) (a u : Value), BindsTo s fd ⟨[a], [(f, u)]⟩ [("self", a), (f, u)]) (hg : Gl X x) (hm : X.mg x = some (.ref C)) (hk : PK X [kw] tk)
    (hall : (backToKw pos (keywordEach [kw] X.env)).all (·.1.isSome) = true := by rfl) (hks : (backToKw pos (keywordEach [kw] X.env)).filterMap (·.1) = [f] := by rfl)
    (hp : ((backTo pos (starEach [] X.env)).any (·.1) || (backToKw pos (keywordEach [kw] X.env)).any (·.1.isNone)) = false := by rfl) (hdb : (x == ("__debug__" : Str)) = false := by decide) : PE X (.Call (.Name x p) [] [kw] pos) (tNewX C f tk) := by
  constructor
  intro pins st σ G Want I told
  refine wpAny_Call_Name_kw (ld_glob I hg hm (PySem.W.callWith_KW0 (h₀ := X.base) I.ok.mod.kin T.kc hall ?_ hp) hdb)
  refine thn (hk.run pos pins st σ G _ I told) fun ws s1 behind => ?_
  obtain ⟨vs, G1, I1, rel, y, ev, q⟩ := behind
  subst ev
  obtain ⟨u, eu, ru⟩ := vals1 rel
  subst eu
  refine ⟨I1.kIn, ?_⟩
  rw [hks]
  exact made (given := []) FB T ini isF F hr (fun s a _ => hb s a u) (by show 0 ≤ sizeLine; decide) I1 ru q
end
/-- e.f, e such an exception -/
def tFldX (K : PySem.W.Frag) (te : TE) (f : Str) : TE := fun σ G Want => te σ G fun x G1 => ∃ (a C : Addr) (y : V) (bmB : List Value) (newId : String), x = .ref a ∧ ExA G1 a C f y ∧ ExC K C bmB newId ∧ PySem.W.findIn K (.ref C) f = some none ∧ Want y G1
theorem pe_fldx {X : Cx} {e : Expr} {te : TE} {f : Str} {pos : Pos} (he : PE X e te) (hb : attributeBase e f X.env (eval e X.env) = eval e X.env) : PE X (.Attribute e f pos) (tFldX X.K te f) := by
  constructor
  intro pins st σ G Want I told
  refine attr_of hb (thn (he.run pins st σ G _ I told) fun w s1 behind => ?_)
  obtain ⟨x, G1, I1, rx, a, C, y, bmB, newId, ex, ⟨dx, ea, ed⟩, T, no, q⟩ := behind
  subst ex
  cases (show w = Value.ref a from rx)
  obtain ⟨t0, oe⟩ := exo_at I1.hok ea
  obtain ⟨mA, ns, rel⟩ := exd_at I1.hok ed
  obtain ⟨od, there, look⟩ := lookIn_ns ns
  have has : List.lookup f [(f, y)] = some y := by simp [List.lookup]
  obtain ⟨u, hu, ru⟩ := RelO.some_of (v := y) (o := mA f) (by rw [← has]; exact rel f)
  have inst : PySem.W.InstAt s1.heap a { HandSPX.excO C t0 with dict := some dx } C (some od) := ⟨oe, rfl, rfl, there⟩
  refine HandSPX.exc_get I1.kIn inst T.ga T.gg T.be (PySem.W.findObj_own T.hd no rfl (by rw [look, hu])) (handed_of ru) ?_
  exact ⟨y, G1, I1.tok _, ru, q⟩
/-- an exception of the class at C, with a dict or without -/
def ExO (G : Hp) (a C : Addr) : Prop := G a = some (exo a C none) ∨ ∃ f y, ExA G a C f y
theorem ExO.same {G G1 : Hp} {a C : Addr} (e : ExO G a C) (s : Same G G1) : ExO G1 a C := by
  rcases e with e | ⟨f, y, e⟩
  · exact .inl (s _ _ e)
  · exact .inr ⟨f, y, e.same s⟩
section
variable {X : Cx} {pins : List (Addr × Obj)} {σ : L2.St} {G : Hp} {st : Shared} {a C : Addr} {bmB : List Value} {newId : String}
theorem kit_exc (T : ExC X.K C bmB newId) (I : Inv X pins σ G st) (e : ExO G a C) : ∃ P : Heap → Prop, PySem.W.KitX X.K (.ref a) (.ref C) P ∧ P st.heap := by
  obtain ⟨cd, hc, _⟩ := PySem.W.any_some T.hd
  have is : (PySem.W.clsIn X.K C).isSome = true := by rw [hc]; rfl
  rcases e with ea | ⟨f, y, dx, ea, ed⟩
  · obtain ⟨t0, oe⟩ := exo_at I.hok ea
    exact ⟨_, PySem.W.kitx_exc (ox := HandSPX.excO C t0) (od := none) is T.ga T.gg T.be T.ca T.cg T.ct T.cm, oe, rfl, rfl, True.intro⟩
  · obtain ⟨t0, oe⟩ := exo_at I.hok ea
    obtain ⟨mA, ns, rel⟩ := exd_at I.hok ed
    obtain ⟨od, there, look⟩ := lookIn_ns ns
    exact ⟨_, PySem.W.kitx_exc (ox := { HandSPX.excO C t0 with dict := some dx }) (od := some od) is T.ga T.gg T.be T.ca T.cg T.ct T.cm, oe, rfl, rfl, there⟩
end
/-- isinstance(e, T) -/
def rIsX (K : PySem.W.Frag) : List V → Hp → VK → Prop := fun xs G Want => ∃ (a C : Addr) (bmB : List Value) (newId : String) (c : V) (u : Value) (b : Bool), xs = [.ref a, c] ∧ ExO G a C ∧ ExC K C bmB newId ∧ ClsV c u ∧ PySem.W.kitOne K (.ref C) u = some b ∧ Want (.bl b) G
theorem call_isx {X : Cx} : CallR X (.builtin "isinstance") (rIsX X.K) := by
  intro pins st σ G ys ws Want I rel told
  obtain ⟨a, C, bmB, newId, c, u, b, rfl, ea, T, k, e, q⟩ := told
  obtain ⟨w1, w2, rfl, r1, r2⟩ := vals2 rel
  cases (show w1 = Value.ref a from r1)
  have same := k.eq r2
  subst same
  obtain ⟨P, Z, p⟩ := kit_exc T I ea
  exact PySem.W.kia_one Z I.kIn p e (fun z => nomatch z) fun tk => ⟨.bl b, G, I.tok tk, rfl, q⟩
/-- isinstance(e, (T1, T2, ..)) -/
def rIsXT (K : PySem.W.Frag) : List V → Hp → VK → Prop := fun xs G Want => ∃ (a C : Addr) (bmB : List Value) (newId : String) (tp : Addr) (cs : List V) (us : List Value) (b : Bool), xs = [.ref a, .ref tp] ∧ ExO G a C ∧ ExC K C bmB newId ∧ G tp = some (.tup cs) ∧ Paired ClsV cs us ∧ PySem.W.kitAny K (.ref C) us = some b ∧ Want (.bl b) G
theorem call_isxT {X : Cx} : CallR X (.builtin "isinstance") (rIsXT X.K) := by
  intro pins st σ G ys ws Want I rel told
  obtain ⟨a, C, bmB, newId, tp, cs, us, b, rfl, ea, T, ht, k, e, q⟩ := told
  obtain ⟨w1, w2, rfl, r1, r2⟩ := vals2 rel
  cases (show w1 = Value.ref a from r1)
  cases (show w2 = Value.ref tp from r2)
  obtain ⟨P, Z, p⟩ := kit_exc T I ea
  have held : ObjOk X.prog X.w G st.heap tp (.tup cs) := I.hok tp _ ht
  obtain ⟨_, its, rv, o, h1, h2, m, h3⟩ := held
  have same := ClsV.all k rv
  subst same
  obtain ⟨oc, od, dt, sl⟩ := o
  simp only at h2 h3
  subst h2 h3
  exact PySem.W.kia_tup Z I.kIn p h1 e (fun z => nomatch z) fun tk => ⟨.bl b, G, I.tok tk, rfl, q⟩
end Exn

set_option Elab.async false
set_option linter.all false
set_option maxRecDepth 100000
set_option maxHeartbeats 4000000
/-! An own exception whose __init__ says super().__init__(), made without arguments. -/
namespace Exn
open PySem PySem.W PySem.Calls
def owA : Arguments := { posonlyargs := [], args := [{ arg := "self", annotation := none, pos := ⟨44, 17, 44, 21⟩ }], vararg := none, kwonlyargs := [], kw_defaults := [], kwarg := none, defaults := [] }
def owB : List Stmt := [.Expr (.Call (.Attribute (.Call (.Name "super" ⟨45, 8, 45, 13⟩) [] [] ⟨45, 8, 45, 15⟩) "__init__" ⟨45, 8, 45, 24⟩) [] [] ⟨45, 8, 45, 26⟩) ⟨45, 8, 45, 26⟩]
def owS : Scope := { kind := .function, names := [(PySem.Str.ofString "self", .local), (PySem.Str.ofString "__class__", .free), (PySem.Str.ofString "super", .globalImplicit)], isGenerator := false, isCoroutine := false, more := [] }
/-- what the written part says of such a class over B, at C, of its __init__, at f, and of the program -/
structure OwT (P : Program) (K : Frag) (qual : Str) (C f cda cc : Addr) (B newId initId : String) (bmB : List Value) : Prop where
  ex : ExC K C bmB newId
  ini : findIn K (.ref C) "__init__" = some (some (.ref f))
  fn : ∃ (oc : Value) (od : Option Addr) (kV doc pm : Value) (an : Option Addr) (ct : Value) (osl : Array (Option Value)),
    K.lookup f = some ⟨oc, od, .func (ksFn "__init__" qual owA owB owS .none kV doc pm an (.ref cda) ct cc), osl⟩ ∧ codeIn K (.ref cda) qual = true
  isF : typeIn K (.ref f) = some (.type "function")
  code : ∃ (ccl : Value) (cdd : Option Addr) (vs : Array Value) (ccs : Array (Option Value)) (file : Str) (tf : Tok), K.lookup cda = some ⟨ccl, cdd, .fields vs, ccs⟩ ∧ vs[2]? = some (.str file tf) ∧ ((P.main.file : Str) == file) = true
  cell : ∃ (cl : Value) (cld : Option Addr) (csl : Array (Option Value)), K.lookup cc = some ⟨cl, cld, .cell (some (.ref C)), csl⟩
  sup : nsIn K mainGlobals "super" = some none
  opq : nsIn K cStatics "thirdparty.any" = some none
  sin : ks_superIn K C C "__init__" = some (some (.builtin initId))
  sC : mroIn K C (.ref C) = some true
  sB : subIn K (.ref C) (.type B) = some true
  top : (P.main.scope.names.lookup ("super" : Str)).isSome = false
section
variable {prog : Program} {w : World} {A : Around} {R : Result → Shared → Prop} {hp : Heap} {g : Array GenState} {d : Drawn} {t : Nat} {os : OsState} {K : Frag} {mg mb : Str → Option Value} {qual : Str} {C f cda cc x t0 : Addr} {B newId initId : String} {bmB : List Value}
/-- the built-in __init__, bound to the exception, called without arguments -/
theorem call_mw {E : Value → Shared → Prop} {h : Heap} {u : Addr} {nm qn : Str} {N' : Addr} {bs bm : List Value} {hdct : Bool} {sn : List Str} {sub : List Value} {ab : Bool} {col : Option Bool} {dd : Option Addr} {k0 k1 k2 k3 k5 : Option Value} {Q : Value → Shared → Prop} (FB : ExcBaseFacts B newId initId bmB)
    (cls : h.get? C = some (excClassObj nm qn C N' bs bm hdct sn sub ab col dd k0 k1 k2 k3 k5 newId)) (there : h.get? x = some (HandSPX.excO C t0)) (bound : h.get? u = some (kxs_mw initId x))
    (then_ : ∀ h' t1, (∀ b o, b ≠ x → h.get? b = some o → h'.get? b = some o) → h'.get? x = some (HandSPX.excO C t1) → Q .none ⟨h', g, d, t, os⟩) :
    wpAny (model prog w) A (call (.ref u) []) Q E ⟨h, g, d, t, os⟩ := by
  apply wpAny_call
  apply codeAny_of_tree
  show wpAny _ A.in1 (callAny (.ref u) ⟨[], []⟩) _ _ _
  simp only [callAny]
  apply wpAny_bind
  apply wpAny_load bound
  have isMw : (Value.type "method-wrapper" == Value.type "method" || Value.type "method-wrapper" == Value.type "builtin_function_or_method" || Value.type "method-wrapper" == Value.type "method-wrapper") = true := by decide
  simp only [isMw, kxs_mw, if_true]
  refine KFB.if_so (by decide) (wpAny_bind (check_bound_init FB.toExcCallFacts cls there rfl ?_))
  refine wpAny_bind (wpAny_pure (wpAny_pure ⟨plainId_quiet FB.init.plain _, codeAny_builtin FB.initEntry ?_⟩))
  exact exc_init_tree (cls := .ref C) (t0 := t0) (dv := none) (c2 := .none) (c3 := .none) (b4 := .bool false) there (by show 0 ≤ sizeLine; decide) fun h' keep at_ _ => then_ h' _ keep at_
theorem ow_init (O : OwT prog K qual C f cda cc B newId initId bmB) (FB : ExcBaseFacts B newId initId bmB) (KF : KxsFacts B initId) (inK : K.In hp) (glob : hp.Ns mainGlobals mg) (blt : hp.Ns builtinsNs mb) (are : ∀ y : Str, y ≠ "__name__" → mb y = bootBuiltins y) (lim : hp.NoLimit)
    (there : hp.get? x = some (HandSPX.excO C t0)) (room : A.depth < recursionLimit)
    (then_ : ∀ h' tk t1, (∀ b o, b ≠ x → hp.get? b = some o → h'.get? b = some o) → h'.get? x = some (HandSPX.excO C t1) → R (.ok (.ret .none)) ⟨h', g, d, tk, os⟩) :
    codeAny (model prog w) A (.call (.ref f) ⟨[.ref x], []⟩) R ⟨hp, g, d, t, os⟩ := by
  obtain ⟨oc, od, kV, doc, pm, an, ct, osl, fn, coded⟩ := O.fn
  obtain ⟨ccl, cdd, vs, ccs, file, tf, rec_, v2, isFile⟩ := O.code
  obtain ⟨cl, cld, csl, celled⟩ := O.cell
  obtain ⟨cd, clsd, _⟩ := any_some O.ex.hd
  refine ks_codeAny_call_defAt (binds := [("self", .ref x)]) room (inK _ _ fn) rfl lim (codeRec_of inK coded) rfl (BindsTo.of_eq rfl) (by show ∀ y ∈ owS.names, y.2 ≠ .cell; decide) (by intro y hy; cases hy with | head => rfl | tail _ h => cases h) (fun h1 ns keep => ?_)
  refine ks_wpAt_execs_cons (ks_wpAt_Expr_any (ks_wpAt_MethodCall ?_))
  have inK1 : K.In h1 := inK.keeps keep
  refine ks_wpAt_super_base (ar := { arg := "self", annotation := none, pos := ⟨44, 17, 44, 21⟩ }) rfl rfl (by decide) rfl (inK1 _ _ fn) rfl rfl rfl (inK1 _ _ rec_) rfl v2 isFile O.top ?_
  have glob1 : h1.Ns mainGlobals mg := Heap.Ns.keeps glob keep
  have blt1 : h1.Ns builtinsNs mb := Heap.Ns.keeps blt keep
  have there1 : h1.get? x = some (HandSPX.excO C t0) := keep _ _ there
  obtain ⟨oC, hC, hCd⟩ : ∃ oC, K.lookup C = some oC ∧ oC.data = .cls cd := by
    unfold clsIn at clsd
    split at clsd
    · rename_i c' d' cd' sl' ho
      cases clsd
      exact ⟨_, ho, rfl⟩
    · cases clsd
  refine ks_loadName_global rfl rfl (loadGlobal_builtin glob1 (mg_none_of inK glob O.sup) blt1 ((are _ (by decide +kernel)).trans (by decide +kernel)) ⟨rfl, ?_⟩)
  refine wpAny_loadName_free rfl rfl rfl ⟨_, inK1 _ _ celled, rfl⟩ ?_
  refine wpAny_loadName_local rfl rfl ns rfl ?_
  refine ks_wpAny_isType_cls (inK1 _ _ hC) hCd ⟨rfl, ?_⟩
  refine ks_wpAny_call_super (inK1 _ _ hC) hCd there1 rfl (fun c e => nomatch e) (looks_mroIn inK1 O.sC) (fun h2 so up2 => ?_)
  have inK2 : K.In h2 := inK1.keeps up2
  have there2 : h2.get? x = some (HandSPX.excO C t0) := up2 _ _ there1
  have inst2 : InstAt h2 x (HandSPX.excO C t0) C none := ⟨there2, rfl, rfl, True.intro⟩
  have along : alongIn K "__init__" ((cd.mro.dropWhile (· != .ref C)).drop 1) = some (some (.builtin initId)) := by
    have e := O.sin
    unfold ks_superIn at e
    rw [clsd] at e
    exact e
  refine kxs_getMethod KF so (looks_opaque inK2 O.opq) (l₀ := cd.mro) ?_ rfl inK2 along (inst2.type.andThen (looks_subIn inK2 O.sB)) (ks_ne inK2 inst2 clsd) (by decide) ?_
  · exact (looks_clsIn inK2 clsd).andThen .now
  · refine kxs_callWith (i := initId) (x := x) rfl (PyProof.Rows.evalArgs_empty ⟨Heap.get?_push_size _ rfl, ?_⟩)
    obtain ⟨nm, N', qn, bs, bm, hdct, sn, sub, ab, col, dd, k0, k1, k2, k3, k5, cls, tail⟩ := excInit_of inK2 O.ex.ini
    refine call_mw FB (Heap.get?_push_of_some _ cls) (Heap.get?_push_of_some _ there2) (Heap.get?_push_size _ rfl) fun h3 t1 keep3 at3 => ?_
    refine wpAt_of_wpAny (wpAny_execs_nil (then_ h3 _ t1 (fun b o hb e => ?_) at3))
    exact keep3 b o hb (Heap.get?_push_of_some _ (up2 _ _ (keep _ _ e)))
end
end Exn
namespace Exn
open PySem PySem.Spec L2
/-- C(): a new exception without a dict -/
def tNew0 (C : Addr) : TE := fun σ G Want => ∀ a G2, G a = none → Same G G2 → G2 a = some (exo a C none) → Want (.ref a) G2
theorem pe_new0 {X : Cx} {n : Nat} {C f cda cc : Addr} {qual x : Str} {B newId initId : String} {bmB : List Value} {p pos : Pos} (O : OwT X.prog X.K qual C f cda cc B newId initId bmB) (FB : ExcBaseFacts B newId initId bmB) (KF : PySem.W.KxsFacts B initId)
    (hr : Room n X.A) (hg : Gl X x) (hm : X.mg x = some (.ref C)) (hdb : (x == ("__debug__" : Str)) = false := by decide) : PE X (.Call (.Name x p) [] [] pos) (tNew0 C) := by
  constructor
  intro pins st σ G Want I told
  refine wpAny_Call_Name_kw (ld_glob I hg hm (PySem.W.callWith_K0 I.kIn O.ex.kc ?_) hdb)
  obtain ⟨nm, N', qn, bs, bm, hdct, sn, sub, ab, col, dd, k0, k1, k2, k3, k5, cls, tail⟩ := PySem.W.excInit_of I.kIn O.ex.ini
  have inK := I.kIn
  have glob := I.mod.glob.keeps I.bk
  have lim := I.nolimit
  obtain ⟨mb, blt, are⟩ := I.mod.blt
  have blt1 := blt.keeps I.bk
  obtain ⟨hp, g, dr, tk, os⟩ := st
  have free : G (hp.objs.size + 1) = none := I.hok.fresh (Nat.le_succ _)
  have up : ∀ b o, hp.get? b = some o → ((hp.push (PySem.W.kdv_tup [])).push (HandSPX.excO C hp.objs.size)).get? b = some o := fun b o q => Heap.get?_push_of_some _ (Heap.get?_push_of_some _ q)
  have new : ((hp.push (PySem.W.kdv_tup [])).push (HandSPX.excO C hp.objs.size)).get? (hp.objs.size + 1) = some (HandSPX.excO C hp.objs.size) := by
    heap_get
  apply wpAny_call
  apply call_cls FB tail cls (by show 0 ≤ sizeLine; decide) (PySem.W.looks_findIn inK O.ini) (fun self => PySem.W.bind_fn inK self O.isF)
  refine ow_init O FB KF (inK.keeps up) (glob.keeps up) (blt1.keeps up) are (lim.keeps up) new (by have := hr.dp; show X.A.depth + 1 < recursionLimit; omega) fun h' t2 t1 keep at_ => ⟨rfl, ?_⟩
  have J := I.laid (t' := t2) (a := hp.objs.size + 1) (o := exo (hp.objs.size + 1) C none) (h' := h') (fun b o q => keep b o (Nat.ne_of_lt (Nat.lt_succ_of_lt (Heap.lt_size q))) (up b o q)) (Nat.le_succ _) (exo_ok at_)
  exact ⟨V.ref (hp.objs.size + 1), _, J, rfl, told _ _ free (fun b o q => by rw [upd_ne (ne_of_none q free)]; exact q) upd_same⟩
end Exn

set_option Elab.async false
set_option linter.all false
set_option maxRecDepth 100000
namespace K00
open PySem L2 Pen
def top (i : Nat) : Stmt := PySem.Challenge.pw_oncepost_k00_errors.main.body.getD i (.Pass ⟨0, 0, 0, 0⟩)
abbrev sPen : Stmt := top 20
abbrev sDraw : Stmt := top 21
abbrev sPick : Stmt := top 22
structure DefT (K : PySem.W.Frag) (mg : Str → Option Value) (x : Str) (f : Addr) : Prop where
  mg : mg x = some (.ref f)
  kp : PySem.W.keepIn K (.ref f) = true
section
variable {P : Program} {w : World} {K : PySem.W.Frag} {mg : Str → Option Value} {base : Heap}
theorem scPen : FnScope ["_law_script"] ["_law_script"] (defScope sPen) := ⟨rfl, rfl, rfl, by decide +kernel, rfl, by decide +kernel, by decide +kernel⟩
theorem ok_pen {f : Addr} {fd : FuncData} (F : Fun K "_law_pen" "_law_pen" sPen f fd) (T : TxtP mg) : FnOk P w K mg base CX0 1 f fd ["_law_script"] (spPen K) := by
  refine F.ok scPen (fun vs H Q E h => ?_) (fun cdv A outer s H vs Q E hr h => ?_)
  · obtain ⟨a, ns, rfl, _⟩ := h
    rfl
  · obtain ⟨a, ns, rfl, hS, hl, k⟩ := h
    have hu := hu_of hr
    refine ⟨_, (pss_one (ps_ret (pe_disp (pps_cons pe_str (pe_callTy call_list_of (by rfl) T.list PyProof.Rows.boot_list (pa_cons (pe_slice sl_list (pv 0) po_none (po_some pe_int)) pa_nil)) (pps_cons pe_str pe_int (pps_cons pe_str pe_int pps_nil))) (by decide +kernel) rfl (by simp) (by decide)))), ?_⟩
    intro p hp
    refine ⟨_, rfl, 63, rfl, a, _, rfl, (same_new hp).seq hS, fun l1 h1 => ⟨l1, _, rfl, .inl (SqL.of upd_same), fun l h2 => ?_⟩⟩
    have n1 : l1 ≠ p := fun e => by rw [e, upd_same] at h1; cases h1
    have n2 : l ≠ l1 := fun e => by rw [e, upd_same] at h2; cases h2
    have n3 : l ≠ p := fun e => by rw [e, upd_ne n1.symm, upd_same] at h2; cases h2
    have hp' : (upd (upd (upd H p (.dK [])) l1 (.lst (cutV (ns.map V.int) none (some 63)))) l (.lst (cutV (ns.map V.int) none (some 63)))) p = some (.dK []) := by
      rw [upd_ne n3.symm, upd_ne n1.symm, upd_same]
    refine ⟨hp', [(kC, .ref l), (kA, .int 0), (kR, .int 0)], rfl, (by simp), ?_⟩
    rw [merge_pk, cut63 hl]
    refine k p l _ hp ⟨⟨0, 0, upd_same, by decide, by decide, by decide⟩, by rw [upd_ne n3, upd_same]⟩ fun b o e => ?_
    have b1 : b ≠ p := ne_of_none e hp
    rw [upd_ne b1]
    have e1 : (upd H p (.dK [])) b = some o := by rw [upd_ne b1]; exact e
    have b2 : b ≠ l1 := ne_of_none e1 h1
    have e2 : (upd (upd H p (.dK [])) l1 (.lst (cutV (ns.map V.int) none (some 63)))) b = some o := by rw [upd_ne b2]; exact e1
    have b3 : b ≠ l := ne_of_none e2 h2
    rw [upd_ne b3, upd_ne b2, upd_ne b1]
    exact e
theorem scDraw : FnScope ["_law_pen_here", "_law_many", "_law_digit", "_law_at", "_law_cell", "_law_blend"] ["_law_pen_here", "_law_many"] (defScope sDraw) := ⟨rfl, rfl, rfl, by decide +kernel, rfl, by decide +kernel, by decide +kernel⟩
theorem ok_draw {f : Addr} {fd : FuncData} (F : Fun K "_law_draw" "_law_draw" sDraw f fd) (T : TxtP mg) : FnOk P w K mg base CX0 1 f fd ["_law_pen_here", "_law_many"] spDraw := by
  refine F.ok scDraw (fun vs H Q E h => ?_) (fun cdv A outer s H vs Q E hr h => ?_)
  · obtain ⟨p, c, ns, b, m, rfl, _⟩ := h
    rfl
  · obtain ⟨p, c, ns, b, m, rfl, Pn, hl, hb, hm, hm2, k⟩ := h
    have hu := hu_of hr
    obtain ⟨⟨a, r, hp, ha0, ha, hr0⟩, hc⟩ := id Pn
    have npc : p ≠ c := Pn.ne
    have cp : ∀ o, (upd H p o) c = some (.lst (ns.map V.int)) := fun o => by rw [upd_ne npc.symm]; exact hc
    refine ⟨_, (pss_cons (ps_if (pt_cmpR op_gt (pe_dget hu (pv 0) pe_str (fun _ _ => rfl)) pe_int (nomark _)) (pss_cons (ps_set (i := 2) scDraw.nd rfl (Or.inl rfl) (pe_op op_modN (pe_callTy call_int1 (by rfl) T.int PyProof.Rows.boot_int (pa_cons (pe_dget hu (pv 0) pe_str (fun _ _ => rfl)) pa_nil)) (pv 1)))
      (pss_cons (ps_dput hu (pv 0) pe_str (pe_op op_fdivW (pe_dget hu (pv 0) pe_str (fun _ _ => rfl)) (pv 1)) rfl)
      (pss_one (ps_ret (pv 2))))) pss_nil)
      (pss_cons (ps_set (i := 3) scDraw.nd rfl (Or.inl rfl) (pe_dget hu (pv 0) pe_str (fun _ _ => rfl)))
      (pss_cons (ps_dput hu (pv 0) pe_str (pe_op op_add (pv 3) pe_int) rfl)
      (pss_cons (ps_set (i := 4) scDraw.nd rfl (Or.inl rfl) (pe_op op_add (pe_op op_mul pe_int (pv 3)) pe_int))
      (pss_cons (ps_if (pt_cmpR (op_neD hr.units) (pe_dget hu (pv 0) pe_str (fun _ _ => rfl)) (pe_lst pa_nil) (nomark _)) (pss_one (ps_set (i := 4) scDraw.nd rfl (Or.inl rfl) (pe_ix ix_list (pe_dget hu (pv 0) pe_str (fun _ _ => rfl)) (pe_op op_modN (pe_callTy call_int1 (by rfl) T.int PyProof.Rows.boot_int (pa_cons (pv 3) pa_nil)) (pe_callB call_len_seq (by rfl) T.len PySem.boot_len (pa_cons (pe_dget hu (pv 0) pe_str (fun _ _ => rfl)) pa_nil))) (fun _ _ => rfl)))) pss_nil)
      (pss_cons (ps_if (PW.pt (pw_and (pt_cmpR op_lt (pv 3) (pe_callB call_len_seq (by rfl) T.len PySem.boot_len (pa_cons (pe_dget hu (pv 0) pe_str (fun _ _ => rfl)) pa_nil)) (nomark _)) (pw_and1 (pt_cmpR op_ge (pe_callB call_abs (by rfl) T.abs PyProof.Rows.boot_abs (pa_cons (pv 4) pa_nil)) (pe_op op_pow pe_int pe_int) (nomark _))))) (pss_cons (ps_dput hu (pv 0) pe_str (pe_op op_fdivW (pe_op op_sub (pe_callB call_abs (by rfl) T.abs PyProof.Rows.boot_abs (pa_cons (pv 4) pa_nil)) (pe_op op_pow pe_int pe_int)) (pv 1)) rfl)
      (pss_one (ps_ret (pe_op op_modN (pe_op op_sub (pe_callB call_abs (by rfl) T.abs PyProof.Rows.boot_abs (pa_cons (pv 4) pa_nil)) (pe_op op_pow pe_int pe_int)) (pv 1))))) pss_nil)
      (pss_cons (ps_set (i := 5) scDraw.nd rfl (Or.inl rfl) (pe_op op_mod (pe_callTy call_int1 (by rfl) T.int PyProof.Rows.boot_int (pa_cons (pe_op op_add (pe_op op_add (pe_op op_mul (pe_op op_mod (pe_callTy call_int1 (by rfl) T.int PyProof.Rows.boot_int (pa_cons (pv 4) pa_nil)) pe_int) pe_int) (pe_op op_mul (pe_op op_mul pe_int (pv 3)) (pv 3))) pe_int) pa_nil)) pe_int))
      (pss_cons (ps_set (i := 5) scDraw.nd rfl (Or.inl rfl) (pe_op op_mod (pe_callTy call_int1 (by rfl) T.int PyProof.Rows.boot_int (pa_cons (pe_op op_add (pe_op op_add (pe_op op_add (pe_op op_mul (pv 5) (pv 5)) (pe_op op_mul pe_int (pv 5))) (pe_op op_mul pe_int (pv 3))) pe_int) pa_nil)) pe_int))
      (pss_one (ps_ret (pe_op op_modN (pe_callTy call_int1 (by rfl) T.int PyProof.Rows.boot_int (pa_cons (pe_op op_fdiv (pe_op op_mod (pe_callTy call_int1 (by rfl) T.int PyProof.Rows.boot_int (pa_cons (pe_op op_mul (pv 5) (pe_op op_add (pv 5) pe_int)) pa_nil)) pe_int) pe_int) pa_nil)) (pv 1)))))))))))), ?_⟩
    refine ⟨_, rfl, p, _, rfl, getR hp, _, _, rfl, rfl, _, rfl, ite2 (fun h => ?_) (fun _ => ?_)⟩
    · -- the rest's next digit
      refine ⟨_, rfl, p, _, rfl, getR hp, .inl ⟨_, rfl, _, rfl, _, _, rfl, rfl, (by omega), ?_⟩⟩
      refine ⟨_, rfl, p, _, rfl, getR hp, _, rfl, _, _, rfl, rfl, div_ok hm hm2, _, rfl, p, _, rfl, putR hp, _, rfl, ?_⟩
      exact k _ _ (fmod_lo hm) (fmod_hi hm) ⟨⟨a, _, upd_same, ha0, by omega, fdiv_lo hm hr0⟩, cp _⟩ (SameX.upd SameX.refl)
    · refine ⟨_, rfl, p, _, rfl, getA hp, _, rfl, _, _, rfl, rfl, _, rfl, p, _, rfl, putA hp, ?_⟩
      have c1 := cp (.dK (pk c (a + 1) r))
      have x1 : (upd H p (.dK (pk c (a + 1) r))) p = some (.dK (pk c (a + 1) r)) := upd_same
      refine ⟨_, rfl, _, _, rfl, rfl, .inl ⟨by decide, by decide⟩, _, _, rfl, rfl, ?_⟩
      refine ⟨_, rfl, p, _, rfl, getC x1, (by decide), fun l hl => ?_⟩
      have lp : p ≠ l := ne_of_none x1 hl
      have lc : c ≠ l := ne_of_none c1 hl
      have x2 : (upd (upd H p (.dK (pk c (a + 1) r))) l (.lst [])) p = some (.dK (pk c (a + 1) r)) := by rw [upd_ne lp]; exact x1
      have c2 : (upd (upd H p (.dK (pk c (a + 1) r))) l (.lst [])) c = some (.lst (ns.map V.int)) := by rw [upd_ne lc]; exact c1
      have s2 : SameX p H (upd (upd H p (.dK (pk c (a + 1) r))) l (.lst [])) := (SameX.upd (H' := H) SameX.refl).trans (Same.X (same_new hl))
      have s3 : ∀ x : Int, SameX p H (upd (upd (upd H p (.dK (pk c (a + 1) r))) l (.lst [])) p (.dK (pk c (a + 1) x))) := fun x => SameX.upd s2
      have c3 : ∀ x : Int, (upd (upd (upd H p (.dK (pk c (a + 1) r))) l (.lst [])) p (.dK (pk c (a + 1) x))) c = some (.lst (ns.map V.int)) := fun x => by rw [upd_ne npc.symm]; exact c2
      refine ⟨_, _, dp_ints c2, dp_ints (ns := []) upd_same, shaped_ints ns, shaped_ints [], _, rfl, ?_⟩
      cases ns with
      | nil =>
        refine iteF ?_
        refine ⟨_, rfl, _, rfl, p, _, rfl, getC x2, c, _, rfl, .inl (SqL.of c2), _, _, rfl, rfl, _, rfl, ite2 (fun h1 => ⟨_, rfl, _, rfl, _, _, rfl, rfl, ⟨by decide, by decide, by decide⟩, _, _, rfl, rfl, _, rfl, ite2 (fun h2 => ?b) (fun _ => ?r1)⟩) (fun _ => iteF ?r2)⟩
        case b =>
          refine ⟨_, rfl, _, rfl, _, _, rfl, rfl, ⟨by decide, by decide, by decide⟩, _, _, rfl, rfl, _, rfl, _, _, rfl, rfl, div_ok hm hm2, _, rfl, p, _, rfl, putR x2, _, rfl, _, rfl, _, _, rfl, rfl, ⟨by decide, by decide, by decide⟩, _, _, rfl, rfl, _, rfl, _, _, rfl, rfl, (by omega), ?_⟩
          exact k _ _ (fmod_lo hm) (fmod_hi hm) ⟨⟨a + 1, _, upd_same, by omega, by omega, fdiv_lo hm (by have := of_decide_eq_true h2; omega)⟩, c3 _⟩ (s3 _)
        all_goals
          refine ⟨_, rfl, .inl ⟨_, rfl, _, _, rfl, rfl, (by show (0 : Int) < 4294966927; decide), ?_⟩⟩
          have m1 := fun i : Int => Int.emod_nonneg i (show (4294966927 : Int) ≠ 0 by decide)
          have m2 := fun i : Int => Int.emod_lt_of_pos i (show (0 : Int) < 4294966927 by decide)
          refine ⟨_, _, rfl, rfl, .inl ⟨by have := m1 (61 * a + 23); omega, by have := m2 (61 * a + 23); omega⟩, _, rfl, _, _, rfl, rfl, .inl ⟨by decide, by decide⟩, _, rfl, _, _, rfl, rfl, .inl ⟨by omega, by omega⟩, _, _, rfl, rfl, _, _, rfl, rfl, ?_⟩
          refine .inl ⟨_, rfl, _, _, rfl, rfl, (by show (0 : Int) < 4294966909; decide), ?_⟩
          have w1 := fun i : Int => Int.emod_nonneg i (show (4294966909 : Int) ≠ 0 by decide)
          have w2 := fun i : Int => Int.emod_lt_of_pos i (show (0 : Int) < 4294966909 by decide)
          refine ⟨_, rfl, _, rfl, _, _, rfl, rfl, .inl ⟨Int.lt_of_lt_of_le (by decide) (w1 _), Int.lt_trans (w2 _) (by decide)⟩, _, rfl, _, _, rfl, rfl, .inl ⟨by decide, by decide⟩, _, _, rfl, rfl, _, rfl, _, _, rfl, rfl, .inl ⟨by decide, by decide⟩, _, _, rfl, rfl, _, _, rfl, rfl, ?_⟩
          refine .inl ⟨_, rfl, _, _, rfl, rfl, (by show (0 : Int) < 4294966877; decide), ?_⟩
          have v1 := fun i : Int => Int.emod_nonneg i (show (4294966877 : Int) ≠ 0 by decide)
          have v2 := fun i : Int => Int.emod_lt_of_pos i (show (0 : Int) < 4294966877 by decide)
          refine ⟨_, rfl, _, rfl, _, _, rfl, rfl, _, _, rfl, rfl, .inl ⟨Int.lt_of_lt_of_le (by decide) (v1 _), Int.lt_trans (v2 _) (by decide)⟩, ?_⟩
          refine .inl ⟨_, rfl, _, _, rfl, rfl, (by show (0 : Int) < 4294966813; decide), _, _, rfl, rfl, ⟨by decide, by decide⟩, ?_⟩
          refine .inl ⟨_, rfl, _, rfl, _, _, rfl, rfl, (by omega), ?_⟩
          exact k _ _ (fmod_lo hm) (fmod_hi hm) ⟨⟨a + 1, r, x2, by omega, by omega, hr0⟩, c2⟩ s2
      | cons n0 ns =>
        refine iteT ?_
        obtain ⟨z, hz⟩ := atI_mod (ns := n0 :: ns) (a := a) (by simp)
        refine ⟨_, rfl, p, _, rfl, getC x2, _, rfl, .inl ⟨_, rfl, _, rfl, p, _, rfl, getC x2, c, _, rfl, .inl (SqL.of c2), _, _, rfl, rfl, (by simp; omega), c, _, _, _, rfl, rfl, SqL.of c2, (by rw [List.length_map]; exact hz), ?_⟩⟩
        refine ⟨_, rfl, _, rfl, p, _, rfl, getC x2, c, _, rfl, .inl (SqL.of c2), _, _, rfl, rfl, _, rfl, ite2 (fun h1 => ⟨_, rfl, _, rfl, _, _, rfl, rfl, ⟨by decide, by decide, by decide⟩, _, _, rfl, rfl, _, rfl, ite2 (fun h2 => ?bb) (fun _ => ?rr1)⟩) (fun _ => iteF ?rr2)⟩
        case bb =>
          refine ⟨_, rfl, _, rfl, _, _, rfl, rfl, ⟨by decide, by decide, by decide⟩, _, _, rfl, rfl, _, rfl, _, _, rfl, rfl, div_ok hm hm2, _, rfl, p, _, rfl, putR x2, _, rfl, _, rfl, _, _, rfl, rfl, ⟨by decide, by decide, by decide⟩, _, _, rfl, rfl, _, rfl, _, _, rfl, rfl, (by omega), ?_⟩
          exact k _ _ (fmod_lo hm) (fmod_hi hm) ⟨⟨a + 1, _, upd_same, by omega, by omega, fdiv_lo hm (by have := of_decide_eq_true h2; omega)⟩, c3 _⟩ (s3 _)
        all_goals
          refine ⟨_, rfl, .inl ⟨_, rfl, _, _, rfl, rfl, (by show (0 : Int) < 4294966927; decide), ?_⟩⟩
          have m1 := fun i : Int => Int.emod_nonneg i (show (4294966927 : Int) ≠ 0 by decide)
          have m2 := fun i : Int => Int.emod_lt_of_pos i (show (0 : Int) < 4294966927 by decide)
          refine ⟨_, _, rfl, rfl, .inl ⟨by have := m1 z; omega, by have := m2 z; omega⟩, _, rfl, _, _, rfl, rfl, .inl ⟨by decide, by decide⟩, _, rfl, _, _, rfl, rfl, .inl ⟨by omega, by omega⟩, _, _, rfl, rfl, _, _, rfl, rfl, ?_⟩
          refine .inl ⟨_, rfl, _, _, rfl, rfl, (by show (0 : Int) < 4294966909; decide), ?_⟩
          have w1 := fun i : Int => Int.emod_nonneg i (show (4294966909 : Int) ≠ 0 by decide)
          have w2 := fun i : Int => Int.emod_lt_of_pos i (show (0 : Int) < 4294966909 by decide)
          refine ⟨_, rfl, _, rfl, _, _, rfl, rfl, .inl ⟨Int.lt_of_lt_of_le (by decide) (w1 _), Int.lt_trans (w2 _) (by decide)⟩, _, rfl, _, _, rfl, rfl, .inl ⟨by decide, by decide⟩, _, _, rfl, rfl, _, rfl, _, _, rfl, rfl, .inl ⟨by decide, by decide⟩, _, _, rfl, rfl, _, _, rfl, rfl, ?_⟩
          refine .inl ⟨_, rfl, _, _, rfl, rfl, (by show (0 : Int) < 4294966877; decide), ?_⟩
          have v1 := fun i : Int => Int.emod_nonneg i (show (4294966877 : Int) ≠ 0 by decide)
          have v2 := fun i : Int => Int.emod_lt_of_pos i (show (0 : Int) < 4294966877 by decide)
          refine ⟨_, rfl, _, rfl, _, _, rfl, rfl, _, _, rfl, rfl, .inl ⟨Int.lt_of_lt_of_le (by decide) (v1 _), Int.lt_trans (v2 _) (by decide)⟩, ?_⟩
          refine .inl ⟨_, rfl, _, _, rfl, rfl, (by show (0 : Int) < 4294966813; decide), _, _, rfl, rfl, ⟨by decide, by decide⟩, ?_⟩
          refine .inl ⟨_, rfl, _, rfl, _, _, rfl, rfl, (by omega), ?_⟩
          exact k _ _ (fmod_lo hm) (fmod_hi hm) ⟨⟨a + 1, r, x2, by omega, by omega, hr0⟩, c2⟩ s2
theorem scPick : FnScope ["_law_pen_here", "_law_items"] ["_law_pen_here", "_law_items"] (defScope sPick) := ⟨rfl, rfl, rfl, by decide +kernel, rfl, by decide +kernel, by decide +kernel⟩
theorem ok_pick {f fD : Addr} {fd fdD : FuncData} (F : Fun K "_law_pick" "_law_pick" sPick f fd) (T : TxtP mg) (FD : Fun K "_law_draw" "_law_draw" sDraw fD fdD) (TD : DefT K mg "_law_draw" fD) (bD : Binds K fdD ["_law_pen_here", "_law_many"] []) : FnOk P w K mg base CX0 2 f fd ["_law_pen_here", "_law_items"] (spPick K) := by
  have GD : FnOk P w K mg base CX0 1 fD fdD ["_law_pen_here", "_law_many"] spDraw := ok_draw FD T
  refine F.ok scPick (fun vs H Q E h => ?_) (fun cdv A outer s H vs Q E hr h => ?_)
  · obtain ⟨p, c, ns, b, l, xs, rfl, _⟩ := h
    rfl
  · obtain ⟨p, c, ns, b, l, xs, rfl, Pn, hn, hb, hl, h0, h1, k⟩ := h
    refine ⟨_, (pss_one (ps_ret (pe_ix ix_list (pv 1) (pe_call GD (hr.mono (by decide)) rfl TD.mg TD.kp bD .nil pass0 (pa_cons (pv 0) (pa_cons (pe_callB call_len_seq (by rfl) T.len PySem.boot_len (pa_cons (pv 1) pa_nil)) pa_nil))) (fun _ _ => rfl)))), ?_⟩
    refine ⟨_, rfl, _, rfl, _, rfl, l, xs, rfl, .inl (SqL.of hl), p, c, ns, b, _, rfl, Pn, hn, hb, by omega, by omega, fun r H' r0 r1 P' sx => ?_⟩
    have hp : l ≠ p := by
      obtain ⟨⟨a, r, hp, _⟩, _⟩ := Pn
      exact ne_of hl hp (by intro z; cases z)
    obtain ⟨v, hv, ha⟩ := at_mem r0 r1
    exact ⟨l, xs, r, v, rfl, rfl, SqL.of (sx l _ hp hl), ha, k v H' hv P' sx⟩
end
end K00

set_option Elab.async false
set_option linter.all false
set_option maxRecDepth 100000
set_option maxHeartbeats 4000000
namespace K00
open PySem L2 Pen RG Dat
abbrev sOdd : Stmt := top 23
/-- the values of any kind -/
def oddL : List PyData := [PyData.none, PyData.bool true, PyData.bool false, PyData.int 0, PyData.int 1, PyData.int (-1), PyData.int 99, PyData.int 100, PyData.int (-100), PyData.int ((10 : Int) ^ 60 * (10 : Int) ^ 40), PyData.str "", PyData.str "a", PyData.str "A", PyData.str "abcdefg", PyData.str "a b", PyData.str "set", PyData.tuple [], PyData.tuple [PyData.str "a"], PyData.tuple [PyData.str "fail"], PyData.list [], PyData.list [PyData.str "a"], PyData.dict [], PyData.dict [(PyData.str "a", PyData.int 1)], PyData.tuple [PyData.none], PyData.tuple [PyData.tuple []], PyData.tuple [PyData.str "value", PyData.int 1], PyData.tuple [PyData.str "body"], PyData.list [PyData.tuple [PyData.str "fail"]], PyData.str "fail", PyData.tuple [PyData.str "row", PyData.str "a"], PyData.tuple [PyData.str "send", PyData.str "a", PyData.none, PyData.tuple [PyData.str "body"]], PyData.tuple [PyData.str "a", PyData.str "b", PyData.int 1], PyData.tuple [PyData.tuple [PyData.str "fail"]]]
def spOdd (K : PySem.W.Frag) : Sp := fun vs H Q _ => ∃ (p c : Addr) (ns : List Int) (b : Nat), vs = [.ref p] ∧ PenAt H p c ns b ∧ ns.length ≤ 63 ∧ b < 2 ^ 40 ∧
  ∀ (v : V) (d : PyData) (H' : Hp), d ∈ oddL → Rp K (delp p H') v d → PenAt H' p c ns (b + 1) → SameX p H H' → Q v H'
section
variable {P : Program} {w : World} {K : PySem.W.Frag} {mg : Str → Option Value} {base : Heap}
theorem scOdd : FnScope ["_law_pen_here", "_law_some"] ["_law_pen_here"] (defScope sOdd) := ⟨rfl, rfl, rfl, by decide +kernel, rfl, by decide +kernel, by decide +kernel⟩
theorem ok_odd {f fP : Addr} {fd fdP : FuncData} (F : Fun K "_law_odd" "_law_odd" sOdd f fd) (GP : FnOk P w K mg base CX0 2 fP fdP ["_law_pen_here", "_law_items"] (spPick K)) (TP : DefT K mg "_law_pick" fP) (bP : Binds K fdP ["_law_pen_here", "_law_items"] []) : FnOk P w K mg base CX0 3 f fd ["_law_pen_here"] (spOdd K) := by
  refine F.ok scOdd (fun vs H Q E h => ?_) (fun cdv A outer s H vs Q E hr h => ?_)
  · obtain ⟨p, c, ns, b, rfl, _⟩ := h
    rfl
  · obtain ⟨p, c, ns, b, rfl, Pn, hn, hb, k⟩ := h
    obtain ⟨⟨a0, r0, hp, _⟩, _⟩ := id Pn
    refine ⟨_, (pss_cons (ps_set (i := 1) scOdd.nd rfl (Or.inl rfl) (Ab.pe_lstA (pa_cons pe_non (pa_cons pe_bl (pa_cons pe_bl (pa_cons pe_int (pa_cons pe_int (pa_cons (pe_un un_neg pe_int) (pa_cons pe_int (pa_cons pe_int (pa_cons (pe_un un_neg pe_int) (pa_cons (pe_op op_mulW (pe_op op_pow pe_int pe_int) (pe_op op_pow pe_int pe_int)) (pa_cons pe_str (pa_cons pe_str (pa_cons pe_str (pa_cons pe_str (pa_cons pe_str (pa_cons pe_str pa_nil))))))))))))))))))
      (pss_cons (ps_set (i := 1) scOdd.nd rfl (Or.inl rfl) (pe_op Ab.op_catA (pv 1) (Ab.pe_lstA (pa_cons (Ab.pe_tupA pa_nil) (pa_cons (Ab.pe_tupA (pa_cons pe_str pa_nil)) (pa_cons (Ab.pe_tupA (pa_cons pe_str pa_nil)) (pa_cons (Ab.pe_lstA pa_nil) (pa_cons (Ab.pe_lstA (pa_cons pe_str pa_nil)) (pa_cons Ab.pe_dicA (pa_cons (pe_disp (pps_cons pe_str pe_int pps_nil) (by decide +kernel) rfl (by simp) (by decide)) (pa_cons (Ab.pe_tupA (pa_cons pe_non pa_nil)) (pa_cons (Ab.pe_tupA (pa_cons (Ab.pe_tupA pa_nil) pa_nil)) (pa_cons (Ab.pe_tupA (pa_cons pe_str (pa_cons pe_int pa_nil))) (pa_cons (Ab.pe_tupA (pa_cons pe_str pa_nil)) (pa_cons (Ab.pe_lstA (pa_cons (Ab.pe_tupA (pa_cons pe_str pa_nil)) pa_nil)) pa_nil)))))))))))))))
      (pss_cons (ps_expr (pe_bm PySem.F.plainAttrs_list PySem.F.slot_list_append PySem.F.type_list_append mt_append (pv 1) (pa_cons pe_str pa_nil)))
      (pss_one (ps_ret (pe_call GP (hr.mono (by decide)) rfl TP.mg TP.kp bP .nil pass0 (pa_cons (pv 0) (pa_cons (pe_op Ab.op_catA (pv 1) (Ab.pe_lstA (pa_cons (Ab.pe_tupA (pa_cons pe_str (pa_cons pe_str pa_nil))) (pa_cons (Ab.pe_tupA (pa_cons pe_str (pa_cons pe_str (pa_cons pe_non (pa_cons (Ab.pe_tupA (pa_cons pe_str pa_nil)) pa_nil))))) (pa_cons (Ab.pe_tupA (pa_cons pe_str (pa_cons pe_str (pa_cons pe_int pa_nil)))) (pa_cons (Ab.pe_tupA (pa_cons (Ab.pe_tupA (pa_cons pe_str pa_nil)) pa_nil)) pa_nil)))))) pa_nil)))))))), ?_⟩
    refine ⟨_, rfl, ?_⟩
    refine ⟨_, rfl, ?_⟩
    refine ⟨_, _, rfl, rfl, ⟨by decide, by decide, by decide⟩, _, _, rfl, rfl, ⟨by decide, by decide, by decide⟩, _, _, rfl, rfl, wide_mul (a := 400) (b := 400) (by decide +kernel) (by decide +kernel) (by decide) (by decide) (by decide), ?_⟩
    refine ⟨sz (by simp), fun l1 G1 fl1 nl1 sl1 el1 => ?_⟩
    have hpl1 := sl1 _ _ hp
    refine ⟨_, rfl, ?_⟩
    refine ⟨sz (by simp), fun t1 H1 f1 s1 e1 => ?_⟩
    have P1 := ne_of_none hpl1 f1
    have hp1 := s1 _ _ hpl1
    refine ⟨sz (by simp), fun t2 H2 f2 s2 e2 => ?_⟩
    have P2 := ne_of_none hp1 f2
    have hp2 := s2 _ _ hp1
    refine ⟨sz (by simp), fun t3 H3 f3 s3 e3 => ?_⟩
    have P3 := ne_of_none hp2 f3
    have hp3 := s3 _ _ hp2
    refine ⟨sz (by simp), fun t4 H4 f4 n4 s4 e4 => ?_⟩
    have P4 := ne_of_none hp3 f4
    have hp4 := s4 _ _ hp3
    refine ⟨sz (by simp), fun t5 H5 f5 n5 s5 e5 => ?_⟩
    have P5 := ne_of_none hp4 f5
    have hp5 := s5 _ _ hp4
    refine fun t6 H6 f6 s6 e6 => ?_
    have P6 := ne_of_none hp5 f6
    have hp6 := s6 _ _ hp5
    refine fun t7 f7 => ⟨upd_same, [((Sum.inr "a" : Key), V.int 1)], rfl, (by decide), ?_⟩
    have s7 : Same H6 (upd (upd H6 t7 (.dK [])) t7 (.dK (mergeK [] [((Sum.inr "a" : Key), V.int 1)]))) := fun b o q => by rw [upd_ne (ne_of_none q f7), upd_ne (ne_of_none q f7)]; exact q
    have e7 : (upd (upd H6 t7 (.dK [])) t7 (.dK (mergeK [] [((Sum.inr "a" : Key), V.int 1)]))) t7 = some (.dK [((Sum.inr "a" : Key), V.int 1)]) := upd_same
    generalize upd (upd H6 t7 (.dK [])) t7 (.dK (mergeK [] [((Sum.inr "a" : Key), V.int 1)])) = H7 at s7 e7 ⊢
    have P7 := ne_of_none hp6 f7
    have hp7 := s7 _ _ hp6
    refine ⟨sz (by simp), fun t8 H8 f8 s8 e8 => ?_⟩
    have P8 := ne_of_none hp7 f8
    have hp8 := s8 _ _ hp7
    refine ⟨sz (by simp), fun t9 H9 f9 s9 e9 => ?_⟩
    have P9 := ne_of_none hp8 f9
    have hp9 := s9 _ _ hp8
    refine ⟨sz (by simp), fun t10 H10 f10 s10 e10 => ?_⟩
    have P10 := ne_of_none hp9 f10
    have hp10 := s10 _ _ hp9
    refine ⟨sz (by simp), fun t11 H11 f11 s11 e11 => ?_⟩
    have P11 := ne_of_none hp10 f11
    have hp11 := s11 _ _ hp10
    refine ⟨sz (by simp), fun t12 H12 f12 s12 e12 => ?_⟩
    have P12 := ne_of_none hp11 f12
    have hp12 := s12 _ _ hp11
    refine ⟨sz (by simp), fun t13 H13 f13 s13 e13 => ?_⟩
    have P13 := ne_of_none hp12 f13
    have hp13 := s13 _ _ hp12
    refine ⟨sz (by simp), fun t14 H14 f14 n14 s14 e14 => ?_⟩
    have P14 := ne_of_none hp13 f14
    have hp14 := s14 _ _ hp13
    refine ⟨sz (by simp), fun l2 G2 fl2 nl2 sl2 el2 => ?_⟩
    have hpl2 := sl2 _ _ hp14
    have S_l2 : Same G2 G2 := Same.refl G2
    have S_14 := (sl2 : Same _ _).trans S_l2
    have S_13 := (s14 : Same _ _).trans S_14
    have S_12 := (s13 : Same _ _).trans S_13
    have S_11 := (s12 : Same _ _).trans S_12
    have S_10 := (s11 : Same _ _).trans S_11
    have S_9 := (s10 : Same _ _).trans S_10
    have S_8 := (s9 : Same _ _).trans S_9
    have S_7 := (s8 : Same _ _).trans S_8
    have S_6 := (s7 : Same _ _).trans S_7
    have S_5 := (s6 : Same _ _).trans S_6
    have S_4 := (s5 : Same _ _).trans S_5
    have S_3 := (s4 : Same _ _).trans S_4
    have S_2 := (s3 : Same _ _).trans S_3
    have S_1 := (s2 : Same _ _).trans S_2
    have el1b := (s1.trans S_1) _ _ el1
    refine ⟨l1, l2, [V.non, V.bl true, V.bl false, V.int 0, V.int 1, V.int (-1), V.int 99, V.int 100, V.int (-100), V.int ((10 : Int) ^ 60 * (10 : Int) ^ 40), V.str "", V.str "a", V.str "A", V.str "abcdefg", V.str "a b", V.str "set"], [V.ref t1, V.ref t2, V.ref t3, V.ref t4, V.ref t5, V.ref t6, V.ref t7, V.ref t8, V.ref t10, V.ref t11, V.ref t12, V.ref t14], rfl, rfl, el1b, el2, sz (by simp), fun l3 G3 fl3 sl3 el3 => ?_⟩
    have E1 := S_1 _ _ e1
    have N1 := ne_of_none E1 fl3
    have E2 := S_2 _ _ e2
    have N2 := ne_of_none E2 fl3
    have E3 := S_3 _ _ e3
    have N3 := ne_of_none E3 fl3
    have E4 := S_4 _ _ e4
    have N4 := ne_of_none E4 fl3
    have E5 := S_5 _ _ e5
    have N5 := ne_of_none E5 fl3
    have E6 := S_6 _ _ e6
    have N6 := ne_of_none E6 fl3
    have E7 := S_7 _ _ e7
    have N7 := ne_of_none E7 fl3
    have E8 := S_8 _ _ e8
    have N8 := ne_of_none E8 fl3
    have E9 := S_9 _ _ e9
    have N9 := ne_of_none E9 fl3
    have E10 := S_10 _ _ e10
    have N10 := ne_of_none E10 fl3
    have E11 := S_11 _ _ e11
    have N11 := ne_of_none E11 fl3
    have E12 := S_12 _ _ e12
    have N12 := ne_of_none E12 fl3
    have E13 := S_13 _ _ e13
    have N13 := ne_of_none E13 fl3
    have E14 := S_14 _ _ e14
    have N14 := ne_of_none E14 fl3
    have pl3 := ne_of_none hpl2 fl3
    refine ⟨_, rfl, .inl ⟨rfl, _, SqL.of el3⟩, l3, _, _, rfl, rfl, el3, szl (by simp), ?_⟩
    have el4 : (upd G3 l3 (.lst (([V.non, V.bl true, V.bl false, V.int 0, V.int 1, V.int (-1), V.int 99, V.int 100, V.int (-100), V.int ((10 : Int) ^ 60 * (10 : Int) ^ 40), V.str "", V.str "a", V.str "A", V.str "abcdefg", V.str "a b", V.str "set"] ++ [V.ref t1, V.ref t2, V.ref t3, V.ref t4, V.ref t5, V.ref t6, V.ref t7, V.ref t8, V.ref t10, V.ref t11, V.ref t12, V.ref t14]) ++ [V.str "fail"]))) l3 = some (.lst (([V.non, V.bl true, V.bl false, V.int 0, V.int 1, V.int (-1), V.int 99, V.int 100, V.int (-100), V.int ((10 : Int) ^ 60 * (10 : Int) ^ 40), V.str "", V.str "a", V.str "A", V.str "abcdefg", V.str "a b", V.str "set"] ++ [V.ref t1, V.ref t2, V.ref t3, V.ref t4, V.ref t5, V.ref t6, V.ref t7, V.ref t8, V.ref t10, V.ref t11, V.ref t12, V.ref t14]) ++ [V.str "fail"])) := upd_same
    have u4 : ∀ b o, b ≠ l3 → G3 b = some o → (upd G3 l3 (.lst (([V.non, V.bl true, V.bl false, V.int 0, V.int 1, V.int (-1), V.int 99, V.int 100, V.int (-100), V.int ((10 : Int) ^ 60 * (10 : Int) ^ 40), V.str "", V.str "a", V.str "A", V.str "abcdefg", V.str "a b", V.str "set"] ++ [V.ref t1, V.ref t2, V.ref t3, V.ref t4, V.ref t5, V.ref t6, V.ref t7, V.ref t8, V.ref t10, V.ref t11, V.ref t12, V.ref t14]) ++ [V.str "fail"]))) b = some o := fun b o hb q => by rw [upd_ne hb]; exact q
    generalize upd G3 l3 (.lst (([V.non, V.bl true, V.bl false, V.int 0, V.int 1, V.int (-1), V.int 99, V.int 100, V.int (-100), V.int ((10 : Int) ^ 60 * (10 : Int) ^ 40), V.str "", V.str "a", V.str "A", V.str "abcdefg", V.str "a b", V.str "set"] ++ [V.ref t1, V.ref t2, V.ref t3, V.ref t4, V.ref t5, V.ref t6, V.ref t7, V.ref t8, V.ref t10, V.ref t11, V.ref t12, V.ref t14]) ++ [V.str "fail"])) = G4 at el4 u4 ⊢
    replace E1 := u4 _ _ N1 (sl3 _ _ E1)
    replace E2 := u4 _ _ N2 (sl3 _ _ E2)
    replace E3 := u4 _ _ N3 (sl3 _ _ E3)
    replace E4 := u4 _ _ N4 (sl3 _ _ E4)
    replace E5 := u4 _ _ N5 (sl3 _ _ E5)
    replace E6 := u4 _ _ N6 (sl3 _ _ E6)
    replace E7 := u4 _ _ N7 (sl3 _ _ E7)
    replace E8 := u4 _ _ N8 (sl3 _ _ E8)
    replace E9 := u4 _ _ N9 (sl3 _ _ E9)
    replace E10 := u4 _ _ N10 (sl3 _ _ E10)
    replace E11 := u4 _ _ N11 (sl3 _ _ E11)
    replace E12 := u4 _ _ N12 (sl3 _ _ E12)
    replace E13 := u4 _ _ N13 (sl3 _ _ E13)
    replace E14 := u4 _ _ N14 (sl3 _ _ E14)
    have hpl4 := u4 _ _ pl3 (sl3 _ _ hpl2)
    refine ⟨_, rfl, ?_⟩
    refine ⟨_, rfl, ?_⟩
    refine ⟨sz (by simp), fun t15 H15 f15 s15 e15 => ?_⟩
    have P15 := ne_of_none hpl4 f15
    have hp15 := s15 _ _ hpl4
    refine ⟨sz (by simp), fun t16 H16 f16 s16 e16 => ?_⟩
    have P16 := ne_of_none hp15 f16
    have hp16 := s16 _ _ hp15
    refine ⟨sz (by simp), fun t17 H17 f17 s17 e17 => ?_⟩
    have P17 := ne_of_none hp16 f17
    have hp17 := s17 _ _ hp16
    refine ⟨sz (by simp), fun t18 H18 f18 s18 e18 => ?_⟩
    have P18 := ne_of_none hp17 f18
    have hp18 := s18 _ _ hp17
    refine ⟨sz (by simp), fun t19 H19 f19 s19 e19 => ?_⟩
    have P19 := ne_of_none hp18 f19
    have hp19 := s19 _ _ hp18
    refine ⟨sz (by simp), fun t20 H20 f20 s20 e20 => ?_⟩
    have P20 := ne_of_none hp19 f20
    have hp20 := s20 _ _ hp19
    refine ⟨sz (by simp), fun l5 G5 fl5 nl5 sl5 el5 => ?_⟩
    have R_l5 : Same G5 G5 := Same.refl G5
    have R_20 := (sl5 : Same _ _).trans R_l5
    have R_19 := (s20 : Same _ _).trans R_20
    have R_18 := (s19 : Same _ _).trans R_19
    have R_17 := (s18 : Same _ _).trans R_18
    have R_16 := (s17 : Same _ _).trans R_17
    have R_15 := (s16 : Same _ _).trans R_16
    have R_0 := s15.trans R_15
    refine ⟨l3, l5, _, _, rfl, rfl, R_0 _ _ el4, el5, sz (by simp), fun l6 G6 fl6 sl6 el6 => ?_⟩
    replace E1 := sl6 _ _ (R_0 _ _ E1)
    replace E2 := sl6 _ _ (R_0 _ _ E2)
    replace E3 := sl6 _ _ (R_0 _ _ E3)
    replace E4 := sl6 _ _ (R_0 _ _ E4)
    replace E5 := sl6 _ _ (R_0 _ _ E5)
    replace E6 := sl6 _ _ (R_0 _ _ E6)
    replace E7 := sl6 _ _ (R_0 _ _ E7)
    replace E8 := sl6 _ _ (R_0 _ _ E8)
    replace E9 := sl6 _ _ (R_0 _ _ E9)
    replace E10 := sl6 _ _ (R_0 _ _ E10)
    replace E11 := sl6 _ _ (R_0 _ _ E11)
    replace E12 := sl6 _ _ (R_0 _ _ E12)
    replace E13 := sl6 _ _ (R_0 _ _ E13)
    replace E14 := sl6 _ _ (R_0 _ _ E14)
    have E15 := sl6 _ _ (R_15 _ _ e15)
    have E16 := sl6 _ _ (R_16 _ _ e16)
    have E17 := sl6 _ _ (R_17 _ _ e17)
    have E18 := sl6 _ _ (R_18 _ _ e18)
    have E19 := sl6 _ _ (R_19 _ _ e19)
    have E20 := sl6 _ _ (R_20 _ _ e20)
    have hp6 := sl6 _ _ (sl5 _ _ hp20)
    replace E1 := (delp_ne (Ne.symm P1)).trans E1
    replace E2 := (delp_ne (Ne.symm P2)).trans E2
    replace E3 := (delp_ne (Ne.symm P3)).trans E3
    replace E4 := (delp_ne (Ne.symm P4)).trans E4
    replace E5 := (delp_ne (Ne.symm P5)).trans E5
    replace E6 := (delp_ne (Ne.symm P6)).trans E6
    replace E7 := (delp_ne (Ne.symm P7)).trans E7
    replace E8 := (delp_ne (Ne.symm P8)).trans E8
    replace E9 := (delp_ne (Ne.symm P9)).trans E9
    replace E10 := (delp_ne (Ne.symm P10)).trans E10
    replace E11 := (delp_ne (Ne.symm P11)).trans E11
    replace E12 := (delp_ne (Ne.symm P12)).trans E12
    replace E13 := (delp_ne (Ne.symm P13)).trans E13
    replace E14 := (delp_ne (Ne.symm P14)).trans E14
    replace E15 := (delp_ne (Ne.symm P15)).trans E15
    replace E16 := (delp_ne (Ne.symm P16)).trans E16
    replace E17 := (delp_ne (Ne.symm P17)).trans E17
    replace E18 := (delp_ne (Ne.symm P18)).trans E18
    replace E19 := (delp_ne (Ne.symm P19)).trans E19
    replace E20 := (delp_ne (Ne.symm P20)).trans E20
    have all0 : Same H G6 := fun b o q => by
      have q2 := (s1.trans S_1) _ _ (sl1 _ _ q)
      exact sl6 _ _ (R_0 _ _ (u4 _ _ (ne_of_none q2 fl3) (sl3 _ _ q2)))
    refine ⟨p, c, ns, b, l6, ((([V.non, V.bl true, V.bl false, V.int 0, V.int 1, V.int (-1), V.int 99, V.int 100, V.int (-100), V.int ((10 : Int) ^ 60 * (10 : Int) ^ 40), V.str "", V.str "a", V.str "A", V.str "abcdefg", V.str "a b", V.str "set"] ++ [V.ref t1, V.ref t2, V.ref t3, V.ref t4, V.ref t5, V.ref t6, V.ref t7, V.ref t8, V.ref t10, V.ref t11, V.ref t12, V.ref t14]) ++ [V.str "fail"]) ++ [V.ref t15, V.ref t17, V.ref t18, V.ref t20]), rfl, Pn.same all0, hn, hb, el6, by simp, by simp, fun v H' hv Pn' sx => ?_⟩
    have rp : RpAll K (delp p G6) ((([V.non, V.bl true, V.bl false, V.int 0, V.int 1, V.int (-1), V.int 99, V.int 100, V.int (-100), V.int ((10 : Int) ^ 60 * (10 : Int) ^ 40), V.str "", V.str "a", V.str "A", V.str "abcdefg", V.str "a b", V.str "set"] ++ [V.ref t1, V.ref t2, V.ref t3, V.ref t4, V.ref t5, V.ref t6, V.ref t7, V.ref t8, V.ref t10, V.ref t11, V.ref t12, V.ref t14]) ++ [V.str "fail"]) ++ [V.ref t15, V.ref t17, V.ref t18, V.ref t20]) oddL := RpAll.append (RpAll.append (RpAll.append (RpAll.cons (Rp.non) (RpAll.cons (Rp.bl true) (RpAll.cons (Rp.bl false) (RpAll.cons (Rp.int 0) (RpAll.cons (Rp.int 1) (RpAll.cons (Rp.int (-1)) (RpAll.cons (Rp.int 99) (RpAll.cons (Rp.int 100) (RpAll.cons (Rp.int (-100)) (RpAll.cons (Rp.int ((10 : Int) ^ 60 * (10 : Int) ^ 40)) (RpAll.cons (Rp.str "") (RpAll.cons (Rp.str "a") (RpAll.cons (Rp.str "A") (RpAll.cons (Rp.str "abcdefg") (RpAll.cons (Rp.str "a b") (RpAll.cons (Rp.str "set") RpAll.nil)))))))))))))))) (RpAll.cons (Rp.tup (SqT.of E1) RpAll.nil) (RpAll.cons (Rp.tup (SqT.of E2) (RpAll.cons (Rp.str "a") RpAll.nil)) (RpAll.cons (Rp.tup (SqT.of E3) (RpAll.cons (Rp.str "fail") RpAll.nil)) (RpAll.cons (Rp.lst (SqL.of E4) RpAll.nil n4) (RpAll.cons (Rp.lst (SqL.of E5) (RpAll.cons (Rp.str "a") RpAll.nil) n5) (RpAll.cons (Rp.dic (ps := []) E6 rfl RpAll.nil) (RpAll.cons (Rp.dic (ps := [(PyData.str "a", PyData.int 1)]) E7 rfl (RpAll.cons (Rp.int 1) RpAll.nil)) (RpAll.cons (Rp.tup (SqT.of E8) (RpAll.cons (Rp.non) RpAll.nil)) (RpAll.cons (Rp.tup (SqT.of E10) (RpAll.cons (Rp.tup (SqT.of E9) RpAll.nil) RpAll.nil)) (RpAll.cons (Rp.tup (SqT.of E11) (RpAll.cons (Rp.str "value") (RpAll.cons (Rp.int 1) RpAll.nil))) (RpAll.cons (Rp.tup (SqT.of E12) (RpAll.cons (Rp.str "body") RpAll.nil)) (RpAll.cons (Rp.lst (SqL.of E14) (RpAll.cons (Rp.tup (SqT.of E13) (RpAll.cons (Rp.str "fail") RpAll.nil)) RpAll.nil) n14) RpAll.nil))))))))))))) (RpAll.cons (Rp.str "fail") RpAll.nil)) (RpAll.cons (Rp.tup (SqT.of E15) (RpAll.cons (Rp.str "row") (RpAll.cons (Rp.str "a") RpAll.nil))) (RpAll.cons (Rp.tup (SqT.of E17) (RpAll.cons (Rp.str "send") (RpAll.cons (Rp.str "a") (RpAll.cons (Rp.non) (RpAll.cons (Rp.tup (SqT.of E16) (RpAll.cons (Rp.str "body") RpAll.nil)) RpAll.nil))))) (RpAll.cons (Rp.tup (SqT.of E18) (RpAll.cons (Rp.str "a") (RpAll.cons (Rp.str "b") (RpAll.cons (Rp.int 1) RpAll.nil)))) (RpAll.cons (Rp.tup (SqT.of E20) (RpAll.cons (Rp.tup (SqT.of E19) (RpAll.cons (Rp.str "fail") RpAll.nil)) RpAll.nil)) RpAll.nil))))
    obtain ⟨d, hd, r⟩ := RpAll.mem rp hv
    exact k v d H' hd (Rp.same (delp_same sx) r) Pn' (SameX.trans (Same.X all0) sx)
end
end K00

set_option Elab.async false
set_option linter.all false
set_option maxRecDepth 100000
set_option maxHeartbeats 4000000
namespace K00
open PySem L2 Pen RG Dat Exn
abbrev veL : List Value := [.type "ValueError", .type "Exception", .type "BaseException", .type "object"]
abbrev leL : List Value := [.type "LookupError", .type "Exception", .type "BaseException", .type "object"]
abbrev oeL : List Value := [.type "OverflowError", .type "ArithmeticError", .type "Exception", .type "BaseException", .type "object"]
/-- the class's own mro and what stands behind it -/
def Mro (K : PySem.W.Frag) (C : Addr) (bm : List Value) : Prop := ∃ cd, PySem.W.clsIn K C = some cd ∧ cd.mro = .ref C :: bm
structure CT (P : Program) (w : World) (K : PySem.W.Frag) (mg : Str → Option Value) (base : Heap) (x f : Str) (B newId initId : String) (bm : List Value) (C : Addr) : Prop where
  fb : ExcBaseFacts B newId initId bm
  ex : ExC K C bm newId
  mro : Mro K C bm
  ty : PySem.W.typeIn K (.ref C) = some (.type "type")
  named : mg x = some (.ref C)
  no : PySem.W.findIn K (.ref C) f = some none
  made : ∃ (fI : Addr) (fd : FuncData), PySem.W.findIn K (.ref C) "__init__" = some (some (.ref fI)) ∧ PySem.W.typeIn K (.ref fI) = some (.type "function") ∧ FnOk P w K mg base CX0 1 fI fd ["self", f] (spIni C f) ∧
    Binds K fd ["self", f] [] ∧ ∀ (s : Shared) (a u : Value), BindsTo s fd ⟨[a], [(f, u)]⟩ [("self", a), (f, u)]
section
variable {P : Program} {w : World} {K : PySem.W.Frag} {mg : Str → Option Value} {base : Heap}
/-- what follows from the class's own line -/
theorem line_of {C N : Addr} {nm q : Str} {bs : List Value} {sn : List Str} {sub : List Value} {ab : Bool} {col : Option Bool} {dd : Option Addr} {k0 k1 k2 k3 k5 : Option Value} {newId : String} {bm : List Value}
    (xL : K.lookup C = some (excClassObj nm q C N bs bm true sn sub ab col dd k0 k1 k2 k3 k5 newId)) (tail : PySem.W.excTail bm bm = true) :
    PySem.W.excInitIn K C bm newId = true ∧ PySem.W.excOver K C bm = true ∧ PySem.W.hasDictIn K C = true ∧ Mro K C bm ∧ PySem.W.typeIn K (.ref C) = some (.type "type") := by
  have cl : ∃ cd, PySem.W.clsIn K C = some cd ∧ cd.mro = .ref C :: bm ∧ cd.hasDict = true := by
    unfold PySem.W.clsIn
    rw [xL]
    exact ⟨_, rfl, rfl, rfl⟩
  obtain ⟨cd, e1, e2, e3⟩ := cl
  refine ⟨?_, ?_, ?_, ⟨cd, e1, e2⟩, ?_⟩
  · unfold PySem.W.excInitIn
    rw [xL]
    simp [tail]
  · unfold PySem.W.excOver
    rw [e1]
    simp [e2, tail]
  · unfold PySem.W.hasDictIn
    rw [e1]
    simp [e3]
  · show (K.lookup C).map (·.cls) = _
    rw [xL]
    rfl
theorem mro_sub {C : Addr} {bm : List Value} (m : Mro K C bm) (b : Value) : PySem.W.mroIn K C b = some ((Value.ref C :: bm).contains b) := by
  obtain ⟨cd, e1, e2⟩ := m
  unfold PySem.W.mroIn
  rw [e1, Option.bind_some, e2]
  rfl
/-- isinstance asks for a built-in type -/
theorem kit_bt {C : Addr} {bm : List Value} (m : Mro K C bm) (T : String) (meta_ : PySem.W.kitMeta T = true) : PySem.W.kitOne K (.ref C) (.type T) = some (bm.contains (.type T)) := by
  have ne : (Value.ref C == Value.type T) = false := rfl
  unfold PySem.W.kitOne PySem.W.kitCls
  rw [ne, if_neg Bool.false_ne_true]
  show (if PySem.W.kitMeta T = true then PySem.W.subIn K (.ref C) (.type T) else none) = _
  rw [if_pos meta_]
  show PySem.W.mroIn K C (.type T) = _
  rw [mro_sub m, List.contains_cons]
  rfl
/-- .. for an own class -/
theorem kit_own {C D : Addr} {bm bn : List Value} (m : Mro K C bm) (n : Mro K D bn) (ty : PySem.W.typeIn K (.ref D) = some (.type "type")) (plain : ∀ d : Addr, bm.contains (.ref d) = false) : PySem.W.kitOne K (.ref C) (.ref D) = some (decide (C = D)) := by
  unfold PySem.W.kitOne
  by_cases e : C = D
  · subst e
    simp
  · have ne : (Value.ref C == Value.ref D) = false := by simp [e]
    rw [ne, if_neg Bool.false_ne_true]
    unfold PySem.W.kitCls
    obtain ⟨cd, e1, e2⟩ := n
    have some_ : ((PySem.W.clsIn K D).isSome && PySem.W.typeIn K (.ref D) == some (.type "type")) = true := by
      rw [e1, ty]
      rfl
    show (if ((PySem.W.clsIn K D).isSome && PySem.W.typeIn K (.ref D) == some (.type "type")) = true then PySem.W.subIn K (.ref C) (.ref D) else none) = _
    rw [if_pos some_]
    show PySem.W.mroIn K C (.ref D) = _
    rw [mro_sub m, List.contains_cons, plain]
    have ne2 : (Value.ref D == Value.ref C) = false := by simp [Ne.symm e]
    rw [ne2, decide_eq_false e]
    rfl
theorem plain_ve (d : Addr) : veL.contains (.ref d) = false := rfl
theorem plain_le (d : Addr) : leL.contains (.ref d) = false := rfl
theorem plain_oe (d : Addr) : oeL.contains (.ref d) = false := rfl

abbrev sI1 : Stmt := inClass (top 1) 0
theorem scI1 : FnScope ["self", "value"] ["self", "value"] (defScope sI1) := ⟨rfl, rfl, rfl, by decide +kernel, rfl, by decide +kernel, by decide +kernel⟩
theorem ct1 {h : Heap} {C fI N : Addr} {nm q : Str} {bs : List Value} {sn : List Str} {sub : List Value} {ab : Bool} {col : Option Bool} {dd od an : Option Addr} {k0 k1 k2 k3 k5 : Option Value} {oc kV doc pm cd ct : Value} {osl : Array (Option Value)} (inK : K.In h) (glob : h.Ns mainGlobals mg)
    (cg : PySem.W.specialIn K (.builtin "object.__class__") "__get__" = some (some (.builtin "getset_descriptor.__get__"))) (ctk : PySem.W.takesIn K (.builtin "object.__class__") = some true)
    (aC : PySem.W.nsIn K mainGlobals "InvalidHandler" = some (some (.ref C))) (xL : K.lookup C = some (excClassObj nm q C N bs veL true sn sub ab col dd k0 k1 k2 k3 k5 "ValueError.__new__"))
    (sa : PySem.W.findIn K (.ref C) "__setattr__" = some (some (.builtin "object.__setattr__"))) (ga : PySem.W.findIn K (.ref C) "__getattribute__" = some (some (.builtin "BaseException.__getattribute__"))) (gg : PySem.W.findIn K (.ref C) "__getattr__" = some none)
    (ca : PySem.W.findIn K (.ref C) "__class__" = some (some (.builtin "object.__class__"))) (kc : PySem.W.keepIn K (.ref C) = true) (no : PySem.W.findIn K (.ref C) "value" = some none) (tk : PySem.W.takerIn K C "value" = some none)
    (iC : PySem.W.findIn K (.ref C) "__init__" = some (some (.ref fI))) (tI : PySem.W.typeIn K (.ref fI) = some (.type "function"))
    (lI : K.lookup fI = some ⟨oc, od, .func (PySem.W.fnOf "__init__" "InvalidHandler.__init__" (defArgs sI1) (defBody sI1) (defScope sI1) .none kV doc pm an cd ct), osl⟩) (cI : PySem.W.codeIn K cd "InvalidHandler.__init__" = true) (kI : PySem.W.keepIn K (.ref fI) = true) :
    CT P w K mg base "InvalidHandler" "value" "ValueError" "ValueError.__new__" "ValueError.__init__" veL C := by
  obtain ⟨l1, l2, l3, l4, l5⟩ := line_of xL (by decide +kernel)
  have be : PySem.W.subIn K (.ref C) (.type "BaseException") = some true := (mro_sub l4 _).trans (congrArg some (by rw [List.contains_cons]; rfl))
  have cm : PySem.W.mroIn K C (.type "object") = some true := (mro_sub l4 _).trans (congrArg some (by rw [List.contains_cons]; rfl))
  have ex : ExC K C veL "ValueError.__new__" := ⟨l1, l2, sa, l3, ga, gg, be, kc, ca, cg, ctk, cm⟩
  have F := fun_mk (st := sI1) lI cI kI
  have G := F.ok (P := P) (w := w) (mg := mg) (base := base) (k := 0) (sp := spIni C "value") scI1 (fun vs H Q E h => by
      obtain ⟨a, y, rfl, _⟩ := h
      rfl) (fun cdv A outer s H vs Q E hr h => by
      obtain ⟨a, y, rfl, ha, k⟩ := h
      exact ⟨_, pss_one (ps_first PySem.F.store_ValueError ex tk (pv 0) (pv 1)), _, rfl, _, rfl, a, rfl, ha, k⟩)
  have b1 := F.binds (ps := ["self", "value"]) fun _ _ _ _ _ _ us hl => match us, hl with | [_, _], _ => rfl
  exact ⟨PySem.F.excBase_ValueError, ex, l4, l5, PySem.W.mg_of inK glob aC, no, fI, _, iC, tI, G, b1, fun s a u => .of_eq rfl⟩

abbrev sI2 : Stmt := inClass (top 2) 0
theorem scI2 : FnScope ["self", "value"] ["self", "value"] (defScope sI2) := ⟨rfl, rfl, rfl, by decide +kernel, rfl, by decide +kernel, by decide +kernel⟩
theorem ct2 {h : Heap} {C fI N : Addr} {nm q : Str} {bs : List Value} {sn : List Str} {sub : List Value} {ab : Bool} {col : Option Bool} {dd od an : Option Addr} {k0 k1 k2 k3 k5 : Option Value} {oc kV doc pm cd ct : Value} {osl : Array (Option Value)} (inK : K.In h) (glob : h.Ns mainGlobals mg)
    (cg : PySem.W.specialIn K (.builtin "object.__class__") "__get__" = some (some (.builtin "getset_descriptor.__get__"))) (ctk : PySem.W.takesIn K (.builtin "object.__class__") = some true)
    (aC : PySem.W.nsIn K mainGlobals "InvalidRows" = some (some (.ref C))) (xL : K.lookup C = some (excClassObj nm q C N bs veL true sn sub ab col dd k0 k1 k2 k3 k5 "ValueError.__new__"))
    (sa : PySem.W.findIn K (.ref C) "__setattr__" = some (some (.builtin "object.__setattr__"))) (ga : PySem.W.findIn K (.ref C) "__getattribute__" = some (some (.builtin "BaseException.__getattribute__"))) (gg : PySem.W.findIn K (.ref C) "__getattr__" = some none)
    (ca : PySem.W.findIn K (.ref C) "__class__" = some (some (.builtin "object.__class__"))) (kc : PySem.W.keepIn K (.ref C) = true) (no : PySem.W.findIn K (.ref C) "value" = some none) (tk : PySem.W.takerIn K C "value" = some none)
    (iC : PySem.W.findIn K (.ref C) "__init__" = some (some (.ref fI))) (tI : PySem.W.typeIn K (.ref fI) = some (.type "function"))
    (lI : K.lookup fI = some ⟨oc, od, .func (PySem.W.fnOf "__init__" "InvalidRows.__init__" (defArgs sI2) (defBody sI2) (defScope sI2) .none kV doc pm an cd ct), osl⟩) (cI : PySem.W.codeIn K cd "InvalidRows.__init__" = true) (kI : PySem.W.keepIn K (.ref fI) = true) :
    CT P w K mg base "InvalidRows" "value" "ValueError" "ValueError.__new__" "ValueError.__init__" veL C := by
  obtain ⟨l1, l2, l3, l4, l5⟩ := line_of xL (by decide +kernel)
  have be : PySem.W.subIn K (.ref C) (.type "BaseException") = some true := (mro_sub l4 _).trans (congrArg some (by rw [List.contains_cons]; rfl))
  have cm : PySem.W.mroIn K C (.type "object") = some true := (mro_sub l4 _).trans (congrArg some (by rw [List.contains_cons]; rfl))
  have ex : ExC K C veL "ValueError.__new__" := ⟨l1, l2, sa, l3, ga, gg, be, kc, ca, cg, ctk, cm⟩
  have F := fun_mk (st := sI2) lI cI kI
  have G := F.ok (P := P) (w := w) (mg := mg) (base := base) (k := 0) (sp := spIni C "value") scI2 (fun vs H Q E h => by
      obtain ⟨a, y, rfl, _⟩ := h
      rfl) (fun cdv A outer s H vs Q E hr h => by
      obtain ⟨a, y, rfl, ha, k⟩ := h
      exact ⟨_, pss_one (ps_first PySem.F.store_ValueError ex tk (pv 0) (pv 1)), _, rfl, _, rfl, a, rfl, ha, k⟩)
  have b1 := F.binds (ps := ["self", "value"]) fun _ _ _ _ _ _ us hl => match us, hl with | [_, _], _ => rfl
  exact ⟨PySem.F.excBase_ValueError, ex, l4, l5, PySem.W.mg_of inK glob aC, no, fI, _, iC, tI, G, b1, fun s a u => .of_eq rfl⟩

abbrev sI3 : Stmt := inClass (top 3) 0
theorem scI3 : FnScope ["self", "value"] ["self", "value"] (defScope sI3) := ⟨rfl, rfl, rfl, by decide +kernel, rfl, by decide +kernel, by decide +kernel⟩
theorem ct3 {h : Heap} {C fI N : Addr} {nm q : Str} {bs : List Value} {sn : List Str} {sub : List Value} {ab : Bool} {col : Option Bool} {dd od an : Option Addr} {k0 k1 k2 k3 k5 : Option Value} {oc kV doc pm cd ct : Value} {osl : Array (Option Value)} (inK : K.In h) (glob : h.Ns mainGlobals mg)
    (cg : PySem.W.specialIn K (.builtin "object.__class__") "__get__" = some (some (.builtin "getset_descriptor.__get__"))) (ctk : PySem.W.takesIn K (.builtin "object.__class__") = some true)
    (aC : PySem.W.nsIn K mainGlobals "InvalidMessage" = some (some (.ref C))) (xL : K.lookup C = some (excClassObj nm q C N bs veL true sn sub ab col dd k0 k1 k2 k3 k5 "ValueError.__new__"))
    (sa : PySem.W.findIn K (.ref C) "__setattr__" = some (some (.builtin "object.__setattr__"))) (ga : PySem.W.findIn K (.ref C) "__getattribute__" = some (some (.builtin "BaseException.__getattribute__"))) (gg : PySem.W.findIn K (.ref C) "__getattr__" = some none)
    (ca : PySem.W.findIn K (.ref C) "__class__" = some (some (.builtin "object.__class__"))) (kc : PySem.W.keepIn K (.ref C) = true) (no : PySem.W.findIn K (.ref C) "value" = some none) (tk : PySem.W.takerIn K C "value" = some none)
    (iC : PySem.W.findIn K (.ref C) "__init__" = some (some (.ref fI))) (tI : PySem.W.typeIn K (.ref fI) = some (.type "function"))
    (lI : K.lookup fI = some ⟨oc, od, .func (PySem.W.fnOf "__init__" "InvalidMessage.__init__" (defArgs sI3) (defBody sI3) (defScope sI3) .none kV doc pm an cd ct), osl⟩) (cI : PySem.W.codeIn K cd "InvalidMessage.__init__" = true) (kI : PySem.W.keepIn K (.ref fI) = true) :
    CT P w K mg base "InvalidMessage" "value" "ValueError" "ValueError.__new__" "ValueError.__init__" veL C := by
  obtain ⟨l1, l2, l3, l4, l5⟩ := line_of xL (by decide +kernel)
  have be : PySem.W.subIn K (.ref C) (.type "BaseException") = some true := (mro_sub l4 _).trans (congrArg some (by rw [List.contains_cons]; rfl))
  have cm : PySem.W.mroIn K C (.type "object") = some true := (mro_sub l4 _).trans (congrArg some (by rw [List.contains_cons]; rfl))
  have ex : ExC K C veL "ValueError.__new__" := ⟨l1, l2, sa, l3, ga, gg, be, kc, ca, cg, ctk, cm⟩
  have F := fun_mk (st := sI3) lI cI kI
  have G := F.ok (P := P) (w := w) (mg := mg) (base := base) (k := 0) (sp := spIni C "value") scI3 (fun vs H Q E h => by
      obtain ⟨a, y, rfl, _⟩ := h
      rfl) (fun cdv A outer s H vs Q E hr h => by
      obtain ⟨a, y, rfl, ha, k⟩ := h
      exact ⟨_, pss_one (ps_first PySem.F.store_ValueError ex tk (pv 0) (pv 1)), _, rfl, _, rfl, a, rfl, ha, k⟩)
  have b1 := F.binds (ps := ["self", "value"]) fun _ _ _ _ _ _ us hl => match us, hl with | [_, _], _ => rfl
  exact ⟨PySem.F.excBase_ValueError, ex, l4, l5, PySem.W.mg_of inK glob aC, no, fI, _, iC, tI, G, b1, fun s a u => .of_eq rfl⟩

abbrev sI4 : Stmt := inClass (top 4) 0
theorem scI4 : FnScope ["self", "value"] ["self", "value"] (defScope sI4) := ⟨rfl, rfl, rfl, by decide +kernel, rfl, by decide +kernel, by decide +kernel⟩
theorem ct4 {h : Heap} {C fI N : Addr} {nm q : Str} {bs : List Value} {sn : List Str} {sub : List Value} {ab : Bool} {col : Option Bool} {dd od an : Option Addr} {k0 k1 k2 k3 k5 : Option Value} {oc kV doc pm cd ct : Value} {osl : Array (Option Value)} (inK : K.In h) (glob : h.Ns mainGlobals mg)
    (cg : PySem.W.specialIn K (.builtin "object.__class__") "__get__" = some (some (.builtin "getset_descriptor.__get__"))) (ctk : PySem.W.takesIn K (.builtin "object.__class__") = some true)
    (aC : PySem.W.nsIn K mainGlobals "InvalidWay" = some (some (.ref C))) (xL : K.lookup C = some (excClassObj nm q C N bs veL true sn sub ab col dd k0 k1 k2 k3 k5 "ValueError.__new__"))
    (sa : PySem.W.findIn K (.ref C) "__setattr__" = some (some (.builtin "object.__setattr__"))) (ga : PySem.W.findIn K (.ref C) "__getattribute__" = some (some (.builtin "BaseException.__getattribute__"))) (gg : PySem.W.findIn K (.ref C) "__getattr__" = some none)
    (ca : PySem.W.findIn K (.ref C) "__class__" = some (some (.builtin "object.__class__"))) (kc : PySem.W.keepIn K (.ref C) = true) (no : PySem.W.findIn K (.ref C) "value" = some none) (tk : PySem.W.takerIn K C "value" = some none)
    (iC : PySem.W.findIn K (.ref C) "__init__" = some (some (.ref fI))) (tI : PySem.W.typeIn K (.ref fI) = some (.type "function"))
    (lI : K.lookup fI = some ⟨oc, od, .func (PySem.W.fnOf "__init__" "InvalidWay.__init__" (defArgs sI4) (defBody sI4) (defScope sI4) .none kV doc pm an cd ct), osl⟩) (cI : PySem.W.codeIn K cd "InvalidWay.__init__" = true) (kI : PySem.W.keepIn K (.ref fI) = true) :
    CT P w K mg base "InvalidWay" "value" "ValueError" "ValueError.__new__" "ValueError.__init__" veL C := by
  obtain ⟨l1, l2, l3, l4, l5⟩ := line_of xL (by decide +kernel)
  have be : PySem.W.subIn K (.ref C) (.type "BaseException") = some true := (mro_sub l4 _).trans (congrArg some (by rw [List.contains_cons]; rfl))
  have cm : PySem.W.mroIn K C (.type "object") = some true := (mro_sub l4 _).trans (congrArg some (by rw [List.contains_cons]; rfl))
  have ex : ExC K C veL "ValueError.__new__" := ⟨l1, l2, sa, l3, ga, gg, be, kc, ca, cg, ctk, cm⟩
  have F := fun_mk (st := sI4) lI cI kI
  have G := F.ok (P := P) (w := w) (mg := mg) (base := base) (k := 0) (sp := spIni C "value") scI4 (fun vs H Q E h => by
      obtain ⟨a, y, rfl, _⟩ := h
      rfl) (fun cdv A outer s H vs Q E hr h => by
      obtain ⟨a, y, rfl, ha, k⟩ := h
      exact ⟨_, pss_one (ps_first PySem.F.store_ValueError ex tk (pv 0) (pv 1)), _, rfl, _, rfl, a, rfl, ha, k⟩)
  have b1 := F.binds (ps := ["self", "value"]) fun _ _ _ _ _ _ us hl => match us, hl with | [_, _], _ => rfl
  exact ⟨PySem.F.excBase_ValueError, ex, l4, l5, PySem.W.mg_of inK glob aC, no, fI, _, iC, tI, G, b1, fun s a u => .of_eq rfl⟩

abbrev sI8 : Stmt := inClass (top 8) 0
theorem scI8 : FnScope ["self", "value"] ["self", "value"] (defScope sI8) := ⟨rfl, rfl, rfl, by decide +kernel, rfl, by decide +kernel, by decide +kernel⟩
theorem ct8 {h : Heap} {C fI N : Addr} {nm q : Str} {bs : List Value} {sn : List Str} {sub : List Value} {ab : Bool} {col : Option Bool} {dd od an : Option Addr} {k0 k1 k2 k3 k5 : Option Value} {oc kV doc pm cd ct : Value} {osl : Array (Option Value)} (inK : K.In h) (glob : h.Ns mainGlobals mg)
    (cg : PySem.W.specialIn K (.builtin "object.__class__") "__get__" = some (some (.builtin "getset_descriptor.__get__"))) (ctk : PySem.W.takesIn K (.builtin "object.__class__") = some true)
    (aC : PySem.W.nsIn K mainGlobals "InvalidState" = some (some (.ref C))) (xL : K.lookup C = some (excClassObj nm q C N bs veL true sn sub ab col dd k0 k1 k2 k3 k5 "ValueError.__new__"))
    (sa : PySem.W.findIn K (.ref C) "__setattr__" = some (some (.builtin "object.__setattr__"))) (ga : PySem.W.findIn K (.ref C) "__getattribute__" = some (some (.builtin "BaseException.__getattribute__"))) (gg : PySem.W.findIn K (.ref C) "__getattr__" = some none)
    (ca : PySem.W.findIn K (.ref C) "__class__" = some (some (.builtin "object.__class__"))) (kc : PySem.W.keepIn K (.ref C) = true) (no : PySem.W.findIn K (.ref C) "value" = some none) (tk : PySem.W.takerIn K C "value" = some none)
    (iC : PySem.W.findIn K (.ref C) "__init__" = some (some (.ref fI))) (tI : PySem.W.typeIn K (.ref fI) = some (.type "function"))
    (lI : K.lookup fI = some ⟨oc, od, .func (PySem.W.fnOf "__init__" "InvalidState.__init__" (defArgs sI8) (defBody sI8) (defScope sI8) .none kV doc pm an cd ct), osl⟩) (cI : PySem.W.codeIn K cd "InvalidState.__init__" = true) (kI : PySem.W.keepIn K (.ref fI) = true) :
    CT P w K mg base "InvalidState" "value" "ValueError" "ValueError.__new__" "ValueError.__init__" veL C := by
  obtain ⟨l1, l2, l3, l4, l5⟩ := line_of xL (by decide +kernel)
  have be : PySem.W.subIn K (.ref C) (.type "BaseException") = some true := (mro_sub l4 _).trans (congrArg some (by rw [List.contains_cons]; rfl))
  have cm : PySem.W.mroIn K C (.type "object") = some true := (mro_sub l4 _).trans (congrArg some (by rw [List.contains_cons]; rfl))
  have ex : ExC K C veL "ValueError.__new__" := ⟨l1, l2, sa, l3, ga, gg, be, kc, ca, cg, ctk, cm⟩
  have F := fun_mk (st := sI8) lI cI kI
  have G := F.ok (P := P) (w := w) (mg := mg) (base := base) (k := 0) (sp := spIni C "value") scI8 (fun vs H Q E h => by
      obtain ⟨a, y, rfl, _⟩ := h
      rfl) (fun cdv A outer s H vs Q E hr h => by
      obtain ⟨a, y, rfl, ha, k⟩ := h
      exact ⟨_, pss_one (ps_first PySem.F.store_ValueError ex tk (pv 0) (pv 1)), _, rfl, _, rfl, a, rfl, ha, k⟩)
  have b1 := F.binds (ps := ["self", "value"]) fun _ _ _ _ _ _ us hl => match us, hl with | [_, _], _ => rfl
  exact ⟨PySem.F.excBase_ValueError, ex, l4, l5, PySem.W.mg_of inK glob aC, no, fI, _, iC, tI, G, b1, fun s a u => .of_eq rfl⟩

abbrev sI12 : Stmt := inClass (top 12) 0
theorem scI12 : FnScope ["self", "value"] ["self", "value"] (defScope sI12) := ⟨rfl, rfl, rfl, by decide +kernel, rfl, by decide +kernel, by decide +kernel⟩
theorem ct12 {h : Heap} {C fI N : Addr} {nm q : Str} {bs : List Value} {sn : List Str} {sub : List Value} {ab : Bool} {col : Option Bool} {dd od an : Option Addr} {k0 k1 k2 k3 k5 : Option Value} {oc kV doc pm cd ct : Value} {osl : Array (Option Value)} (inK : K.In h) (glob : h.Ns mainGlobals mg)
    (cg : PySem.W.specialIn K (.builtin "object.__class__") "__get__" = some (some (.builtin "getset_descriptor.__get__"))) (ctk : PySem.W.takesIn K (.builtin "object.__class__") = some true)
    (aC : PySem.W.nsIn K mainGlobals "InvalidCount" = some (some (.ref C))) (xL : K.lookup C = some (excClassObj nm q C N bs veL true sn sub ab col dd k0 k1 k2 k3 k5 "ValueError.__new__"))
    (sa : PySem.W.findIn K (.ref C) "__setattr__" = some (some (.builtin "object.__setattr__"))) (ga : PySem.W.findIn K (.ref C) "__getattribute__" = some (some (.builtin "BaseException.__getattribute__"))) (gg : PySem.W.findIn K (.ref C) "__getattr__" = some none)
    (ca : PySem.W.findIn K (.ref C) "__class__" = some (some (.builtin "object.__class__"))) (kc : PySem.W.keepIn K (.ref C) = true) (no : PySem.W.findIn K (.ref C) "value" = some none) (tk : PySem.W.takerIn K C "value" = some none)
    (iC : PySem.W.findIn K (.ref C) "__init__" = some (some (.ref fI))) (tI : PySem.W.typeIn K (.ref fI) = some (.type "function"))
    (lI : K.lookup fI = some ⟨oc, od, .func (PySem.W.fnOf "__init__" "InvalidCount.__init__" (defArgs sI12) (defBody sI12) (defScope sI12) .none kV doc pm an cd ct), osl⟩) (cI : PySem.W.codeIn K cd "InvalidCount.__init__" = true) (kI : PySem.W.keepIn K (.ref fI) = true) :
    CT P w K mg base "InvalidCount" "value" "ValueError" "ValueError.__new__" "ValueError.__init__" veL C := by
  obtain ⟨l1, l2, l3, l4, l5⟩ := line_of xL (by decide +kernel)
  have be : PySem.W.subIn K (.ref C) (.type "BaseException") = some true := (mro_sub l4 _).trans (congrArg some (by rw [List.contains_cons]; rfl))
  have cm : PySem.W.mroIn K C (.type "object") = some true := (mro_sub l4 _).trans (congrArg some (by rw [List.contains_cons]; rfl))
  have ex : ExC K C veL "ValueError.__new__" := ⟨l1, l2, sa, l3, ga, gg, be, kc, ca, cg, ctk, cm⟩
  have F := fun_mk (st := sI12) lI cI kI
  have G := F.ok (P := P) (w := w) (mg := mg) (base := base) (k := 0) (sp := spIni C "value") scI12 (fun vs H Q E h => by
      obtain ⟨a, y, rfl, _⟩ := h
      rfl) (fun cdv A outer s H vs Q E hr h => by
      obtain ⟨a, y, rfl, ha, k⟩ := h
      exact ⟨_, pss_one (ps_first PySem.F.store_ValueError ex tk (pv 0) (pv 1)), _, rfl, _, rfl, a, rfl, ha, k⟩)
  have b1 := F.binds (ps := ["self", "value"]) fun _ _ _ _ _ _ us hl => match us, hl with | [_, _], _ => rfl
  exact ⟨PySem.F.excBase_ValueError, ex, l4, l5, PySem.W.mg_of inK glob aC, no, fI, _, iC, tI, G, b1, fun s a u => .of_eq rfl⟩

abbrev sI16 : Stmt := inClass (top 16) 0
theorem scI16 : FnScope ["self", "value"] ["self", "value"] (defScope sI16) := ⟨rfl, rfl, rfl, by decide +kernel, rfl, by decide +kernel, by decide +kernel⟩
theorem ct16 {h : Heap} {C fI N : Addr} {nm q : Str} {bs : List Value} {sn : List Str} {sub : List Value} {ab : Bool} {col : Option Bool} {dd od an : Option Addr} {k0 k1 k2 k3 k5 : Option Value} {oc kV doc pm cd ct : Value} {osl : Array (Option Value)} (inK : K.In h) (glob : h.Ns mainGlobals mg)
    (cg : PySem.W.specialIn K (.builtin "object.__class__") "__get__" = some (some (.builtin "getset_descriptor.__get__"))) (ctk : PySem.W.takesIn K (.builtin "object.__class__") = some true)
    (aC : PySem.W.nsIn K mainGlobals "NoService" = some (some (.ref C))) (xL : K.lookup C = some (excClassObj nm q C N bs leL true sn sub ab col dd k0 k1 k2 k3 k5 "LookupError.__new__"))
    (sa : PySem.W.findIn K (.ref C) "__setattr__" = some (some (.builtin "object.__setattr__"))) (ga : PySem.W.findIn K (.ref C) "__getattribute__" = some (some (.builtin "BaseException.__getattribute__"))) (gg : PySem.W.findIn K (.ref C) "__getattr__" = some none)
    (ca : PySem.W.findIn K (.ref C) "__class__" = some (some (.builtin "object.__class__"))) (kc : PySem.W.keepIn K (.ref C) = true) (no : PySem.W.findIn K (.ref C) "value" = some none) (tk : PySem.W.takerIn K C "value" = some none)
    (iC : PySem.W.findIn K (.ref C) "__init__" = some (some (.ref fI))) (tI : PySem.W.typeIn K (.ref fI) = some (.type "function"))
    (lI : K.lookup fI = some ⟨oc, od, .func (PySem.W.fnOf "__init__" "NoService.__init__" (defArgs sI16) (defBody sI16) (defScope sI16) .none kV doc pm an cd ct), osl⟩) (cI : PySem.W.codeIn K cd "NoService.__init__" = true) (kI : PySem.W.keepIn K (.ref fI) = true) :
    CT P w K mg base "NoService" "value" "LookupError" "LookupError.__new__" "LookupError.__init__" leL C := by
  obtain ⟨l1, l2, l3, l4, l5⟩ := line_of xL (by decide +kernel)
  have be : PySem.W.subIn K (.ref C) (.type "BaseException") = some true := (mro_sub l4 _).trans (congrArg some (by rw [List.contains_cons]; rfl))
  have cm : PySem.W.mroIn K C (.type "object") = some true := (mro_sub l4 _).trans (congrArg some (by rw [List.contains_cons]; rfl))
  have ex : ExC K C leL "LookupError.__new__" := ⟨l1, l2, sa, l3, ga, gg, be, kc, ca, cg, ctk, cm⟩
  have F := fun_mk (st := sI16) lI cI kI
  have G := F.ok (P := P) (w := w) (mg := mg) (base := base) (k := 0) (sp := spIni C "value") scI16 (fun vs H Q E h => by
      obtain ⟨a, y, rfl, _⟩ := h
      rfl) (fun cdv A outer s H vs Q E hr h => by
      obtain ⟨a, y, rfl, ha, k⟩ := h
      exact ⟨_, pss_one (ps_first PySem.F.store_LookupError ex tk (pv 0) (pv 1)), _, rfl, _, rfl, a, rfl, ha, k⟩)
  have b1 := F.binds (ps := ["self", "value"]) fun _ _ _ _ _ _ us hl => match us, hl with | [_, _], _ => rfl
  exact ⟨PySem.F.excBase_LookupError, ex, l4, l5, PySem.W.mg_of inK glob aC, no, fI, _, iC, tI, G, b1, fun s a u => .of_eq rfl⟩

abbrev sI5 : Stmt := inClass (top 5) 0
theorem scI5 : FnScope ["self", "reason"] ["self", "reason"] (defScope sI5) := ⟨rfl, rfl, rfl, by decide +kernel, rfl, by decide +kernel, by decide +kernel⟩
theorem ct5 {h : Heap} {C fI N : Addr} {nm q : Str} {bs : List Value} {sn : List Str} {sub : List Value} {ab : Bool} {col : Option Bool} {dd od an : Option Addr} {k0 k1 k2 k3 k5 : Option Value} {oc kV doc pm cd ct : Value} {osl : Array (Option Value)} (inK : K.In h) (glob : h.Ns mainGlobals mg)
    (cg : PySem.W.specialIn K (.builtin "object.__class__") "__get__" = some (some (.builtin "getset_descriptor.__get__"))) (ctk : PySem.W.takesIn K (.builtin "object.__class__") = some true)
    (aC : PySem.W.nsIn K mainGlobals "InvalidService" = some (some (.ref C))) (xL : K.lookup C = some (excClassObj nm q C N bs veL true sn sub ab col dd k0 k1 k2 k3 k5 "ValueError.__new__"))
    (sa : PySem.W.findIn K (.ref C) "__setattr__" = some (some (.builtin "object.__setattr__"))) (ga : PySem.W.findIn K (.ref C) "__getattribute__" = some (some (.builtin "BaseException.__getattribute__"))) (gg : PySem.W.findIn K (.ref C) "__getattr__" = some none)
    (ca : PySem.W.findIn K (.ref C) "__class__" = some (some (.builtin "object.__class__"))) (kc : PySem.W.keepIn K (.ref C) = true) (no : PySem.W.findIn K (.ref C) "reason" = some none) (tk : PySem.W.takerIn K C "reason" = some none)
    (iC : PySem.W.findIn K (.ref C) "__init__" = some (some (.ref fI))) (tI : PySem.W.typeIn K (.ref fI) = some (.type "function"))
    (lI : K.lookup fI = some ⟨oc, od, .func (PySem.W.fnOf "__init__" "InvalidService.__init__" (defArgs sI5) (defBody sI5) (defScope sI5) .none kV doc pm an cd ct), osl⟩) (cI : PySem.W.codeIn K cd "InvalidService.__init__" = true) (kI : PySem.W.keepIn K (.ref fI) = true) :
    CT P w K mg base "InvalidService" "reason" "ValueError" "ValueError.__new__" "ValueError.__init__" veL C := by
  obtain ⟨l1, l2, l3, l4, l5⟩ := line_of xL (by decide +kernel)
  have be : PySem.W.subIn K (.ref C) (.type "BaseException") = some true := (mro_sub l4 _).trans (congrArg some (by rw [List.contains_cons]; rfl))
  have cm : PySem.W.mroIn K C (.type "object") = some true := (mro_sub l4 _).trans (congrArg some (by rw [List.contains_cons]; rfl))
  have ex : ExC K C veL "ValueError.__new__" := ⟨l1, l2, sa, l3, ga, gg, be, kc, ca, cg, ctk, cm⟩
  have F := fun_mk (st := sI5) lI cI kI
  have G := F.ok (P := P) (w := w) (mg := mg) (base := base) (k := 0) (sp := spIni C "reason") scI5 (fun vs H Q E h => by
      obtain ⟨a, y, rfl, _⟩ := h
      rfl) (fun cdv A outer s H vs Q E hr h => by
      obtain ⟨a, y, rfl, ha, k⟩ := h
      exact ⟨_, pss_one (ps_first PySem.F.store_ValueError ex tk (pv 0) (pv 1)), _, rfl, _, rfl, a, rfl, ha, k⟩)
  have b1 := F.binds (ps := ["self", "reason"]) fun _ _ _ _ _ _ us hl => match us, hl with | [_, _], _ => rfl
  exact ⟨PySem.F.excBase_ValueError, ex, l4, l5, PySem.W.mg_of inK glob aC, no, fI, _, iC, tI, G, b1, fun s a u => .of_eq rfl⟩

abbrev sI6 : Stmt := inClass (top 6) 0
theorem scI6 : FnScope ["self", "reason"] ["self", "reason"] (defScope sI6) := ⟨rfl, rfl, rfl, by decide +kernel, rfl, by decide +kernel, by decide +kernel⟩
theorem ct6 {h : Heap} {C fI N : Addr} {nm q : Str} {bs : List Value} {sn : List Str} {sub : List Value} {ab : Bool} {col : Option Bool} {dd od an : Option Addr} {k0 k1 k2 k3 k5 : Option Value} {oc kV doc pm cd ct : Value} {osl : Array (Option Value)} (inK : K.In h) (glob : h.Ns mainGlobals mg)
    (cg : PySem.W.specialIn K (.builtin "object.__class__") "__get__" = some (some (.builtin "getset_descriptor.__get__"))) (ctk : PySem.W.takesIn K (.builtin "object.__class__") = some true)
    (aC : PySem.W.nsIn K mainGlobals "InvalidSystem" = some (some (.ref C))) (xL : K.lookup C = some (excClassObj nm q C N bs veL true sn sub ab col dd k0 k1 k2 k3 k5 "ValueError.__new__"))
    (sa : PySem.W.findIn K (.ref C) "__setattr__" = some (some (.builtin "object.__setattr__"))) (ga : PySem.W.findIn K (.ref C) "__getattribute__" = some (some (.builtin "BaseException.__getattribute__"))) (gg : PySem.W.findIn K (.ref C) "__getattr__" = some none)
    (ca : PySem.W.findIn K (.ref C) "__class__" = some (some (.builtin "object.__class__"))) (kc : PySem.W.keepIn K (.ref C) = true) (no : PySem.W.findIn K (.ref C) "reason" = some none) (tk : PySem.W.takerIn K C "reason" = some none)
    (iC : PySem.W.findIn K (.ref C) "__init__" = some (some (.ref fI))) (tI : PySem.W.typeIn K (.ref fI) = some (.type "function"))
    (lI : K.lookup fI = some ⟨oc, od, .func (PySem.W.fnOf "__init__" "InvalidSystem.__init__" (defArgs sI6) (defBody sI6) (defScope sI6) .none kV doc pm an cd ct), osl⟩) (cI : PySem.W.codeIn K cd "InvalidSystem.__init__" = true) (kI : PySem.W.keepIn K (.ref fI) = true) :
    CT P w K mg base "InvalidSystem" "reason" "ValueError" "ValueError.__new__" "ValueError.__init__" veL C := by
  obtain ⟨l1, l2, l3, l4, l5⟩ := line_of xL (by decide +kernel)
  have be : PySem.W.subIn K (.ref C) (.type "BaseException") = some true := (mro_sub l4 _).trans (congrArg some (by rw [List.contains_cons]; rfl))
  have cm : PySem.W.mroIn K C (.type "object") = some true := (mro_sub l4 _).trans (congrArg some (by rw [List.contains_cons]; rfl))
  have ex : ExC K C veL "ValueError.__new__" := ⟨l1, l2, sa, l3, ga, gg, be, kc, ca, cg, ctk, cm⟩
  have F := fun_mk (st := sI6) lI cI kI
  have G := F.ok (P := P) (w := w) (mg := mg) (base := base) (k := 0) (sp := spIni C "reason") scI6 (fun vs H Q E h => by
      obtain ⟨a, y, rfl, _⟩ := h
      rfl) (fun cdv A outer s H vs Q E hr h => by
      obtain ⟨a, y, rfl, ha, k⟩ := h
      exact ⟨_, pss_one (ps_first PySem.F.store_ValueError ex tk (pv 0) (pv 1)), _, rfl, _, rfl, a, rfl, ha, k⟩)
  have b1 := F.binds (ps := ["self", "reason"]) fun _ _ _ _ _ _ us hl => match us, hl with | [_, _], _ => rfl
  exact ⟨PySem.F.excBase_ValueError, ex, l4, l5, PySem.W.mg_of inK glob aC, no, fI, _, iC, tI, G, b1, fun s a u => .of_eq rfl⟩

abbrev sI7 : Stmt := inClass (top 7) 0
theorem scI7 : FnScope ["self", "index"] ["self", "index"] (defScope sI7) := ⟨rfl, rfl, rfl, by decide +kernel, rfl, by decide +kernel, by decide +kernel⟩
theorem ct7 {h : Heap} {C fI N : Addr} {nm q : Str} {bs : List Value} {sn : List Str} {sub : List Value} {ab : Bool} {col : Option Bool} {dd od an : Option Addr} {k0 k1 k2 k3 k5 : Option Value} {oc kV doc pm cd ct : Value} {osl : Array (Option Value)} (inK : K.In h) (glob : h.Ns mainGlobals mg)
    (cg : PySem.W.specialIn K (.builtin "object.__class__") "__get__" = some (some (.builtin "getset_descriptor.__get__"))) (ctk : PySem.W.takesIn K (.builtin "object.__class__") = some true)
    (aC : PySem.W.nsIn K mainGlobals "NotPlayed" = some (some (.ref C))) (xL : K.lookup C = some (excClassObj nm q C N bs veL true sn sub ab col dd k0 k1 k2 k3 k5 "ValueError.__new__"))
    (sa : PySem.W.findIn K (.ref C) "__setattr__" = some (some (.builtin "object.__setattr__"))) (ga : PySem.W.findIn K (.ref C) "__getattribute__" = some (some (.builtin "BaseException.__getattribute__"))) (gg : PySem.W.findIn K (.ref C) "__getattr__" = some none)
    (ca : PySem.W.findIn K (.ref C) "__class__" = some (some (.builtin "object.__class__"))) (kc : PySem.W.keepIn K (.ref C) = true) (no : PySem.W.findIn K (.ref C) "index" = some none) (tk : PySem.W.takerIn K C "index" = some none)
    (iC : PySem.W.findIn K (.ref C) "__init__" = some (some (.ref fI))) (tI : PySem.W.typeIn K (.ref fI) = some (.type "function"))
    (lI : K.lookup fI = some ⟨oc, od, .func (PySem.W.fnOf "__init__" "NotPlayed.__init__" (defArgs sI7) (defBody sI7) (defScope sI7) .none kV doc pm an cd ct), osl⟩) (cI : PySem.W.codeIn K cd "NotPlayed.__init__" = true) (kI : PySem.W.keepIn K (.ref fI) = true) :
    CT P w K mg base "NotPlayed" "index" "ValueError" "ValueError.__new__" "ValueError.__init__" veL C := by
  obtain ⟨l1, l2, l3, l4, l5⟩ := line_of xL (by decide +kernel)
  have be : PySem.W.subIn K (.ref C) (.type "BaseException") = some true := (mro_sub l4 _).trans (congrArg some (by rw [List.contains_cons]; rfl))
  have cm : PySem.W.mroIn K C (.type "object") = some true := (mro_sub l4 _).trans (congrArg some (by rw [List.contains_cons]; rfl))
  have ex : ExC K C veL "ValueError.__new__" := ⟨l1, l2, sa, l3, ga, gg, be, kc, ca, cg, ctk, cm⟩
  have F := fun_mk (st := sI7) lI cI kI
  have G := F.ok (P := P) (w := w) (mg := mg) (base := base) (k := 0) (sp := spIni C "index") scI7 (fun vs H Q E h => by
      obtain ⟨a, y, rfl, _⟩ := h
      rfl) (fun cdv A outer s H vs Q E hr h => by
      obtain ⟨a, y, rfl, ha, k⟩ := h
      exact ⟨_, pss_one (ps_first PySem.F.store_ValueError ex tk (pv 0) (pv 1)), _, rfl, _, rfl, a, rfl, ha, k⟩)
  have b1 := F.binds (ps := ["self", "index"]) fun _ _ _ _ _ _ us hl => match us, hl with | [_, _], _ => rfl
  exact ⟨PySem.F.excBase_ValueError, ex, l4, l5, PySem.W.mg_of inK glob aC, no, fI, _, iC, tI, G, b1, fun s a u => .of_eq rfl⟩

abbrev sI9 : Stmt := inClass (top 9) 0
theorem scI9 : FnScope ["self", "test"] ["self", "test"] (defScope sI9) := ⟨rfl, rfl, rfl, by decide +kernel, rfl, by decide +kernel, by decide +kernel⟩
theorem ct9 {h : Heap} {C fI N : Addr} {nm q : Str} {bs : List Value} {sn : List Str} {sub : List Value} {ab : Bool} {col : Option Bool} {dd od an : Option Addr} {k0 k1 k2 k3 k5 : Option Value} {oc kV doc pm cd ct : Value} {osl : Array (Option Value)} (inK : K.In h) (glob : h.Ns mainGlobals mg)
    (cg : PySem.W.specialIn K (.builtin "object.__class__") "__get__" = some (some (.builtin "getset_descriptor.__get__"))) (ctk : PySem.W.takesIn K (.builtin "object.__class__") = some true)
    (aC : PySem.W.nsIn K mainGlobals "InvalidTest" = some (some (.ref C))) (xL : K.lookup C = some (excClassObj nm q C N bs veL true sn sub ab col dd k0 k1 k2 k3 k5 "ValueError.__new__"))
    (sa : PySem.W.findIn K (.ref C) "__setattr__" = some (some (.builtin "object.__setattr__"))) (ga : PySem.W.findIn K (.ref C) "__getattribute__" = some (some (.builtin "BaseException.__getattribute__"))) (gg : PySem.W.findIn K (.ref C) "__getattr__" = some none)
    (ca : PySem.W.findIn K (.ref C) "__class__" = some (some (.builtin "object.__class__"))) (kc : PySem.W.keepIn K (.ref C) = true) (no : PySem.W.findIn K (.ref C) "test" = some none) (tk : PySem.W.takerIn K C "test" = some none)
    (iC : PySem.W.findIn K (.ref C) "__init__" = some (some (.ref fI))) (tI : PySem.W.typeIn K (.ref fI) = some (.type "function"))
    (lI : K.lookup fI = some ⟨oc, od, .func (PySem.W.fnOf "__init__" "InvalidTest.__init__" (defArgs sI9) (defBody sI9) (defScope sI9) .none kV doc pm an cd ct), osl⟩) (cI : PySem.W.codeIn K cd "InvalidTest.__init__" = true) (kI : PySem.W.keepIn K (.ref fI) = true) :
    CT P w K mg base "InvalidTest" "test" "ValueError" "ValueError.__new__" "ValueError.__init__" veL C := by
  obtain ⟨l1, l2, l3, l4, l5⟩ := line_of xL (by decide +kernel)
  have be : PySem.W.subIn K (.ref C) (.type "BaseException") = some true := (mro_sub l4 _).trans (congrArg some (by rw [List.contains_cons]; rfl))
  have cm : PySem.W.mroIn K C (.type "object") = some true := (mro_sub l4 _).trans (congrArg some (by rw [List.contains_cons]; rfl))
  have ex : ExC K C veL "ValueError.__new__" := ⟨l1, l2, sa, l3, ga, gg, be, kc, ca, cg, ctk, cm⟩
  have F := fun_mk (st := sI9) lI cI kI
  have G := F.ok (P := P) (w := w) (mg := mg) (base := base) (k := 0) (sp := spIni C "test") scI9 (fun vs H Q E h => by
      obtain ⟨a, y, rfl, _⟩ := h
      rfl) (fun cdv A outer s H vs Q E hr h => by
      obtain ⟨a, y, rfl, ha, k⟩ := h
      exact ⟨_, pss_one (ps_first PySem.F.store_ValueError ex tk (pv 0) (pv 1)), _, rfl, _, rfl, a, rfl, ha, k⟩)
  have b1 := F.binds (ps := ["self", "test"]) fun _ _ _ _ _ _ us hl => match us, hl with | [_, _], _ => rfl
  exact ⟨PySem.F.excBase_ValueError, ex, l4, l5, PySem.W.mg_of inK glob aC, no, fI, _, iC, tI, G, b1, fun s a u => .of_eq rfl⟩

abbrev sI10 : Stmt := inClass (top 10) 0
theorem scI10 : FnScope ["self", "cut"] ["self", "cut"] (defScope sI10) := ⟨rfl, rfl, rfl, by decide +kernel, rfl, by decide +kernel, by decide +kernel⟩
theorem ct10 {h : Heap} {C fI N : Addr} {nm q : Str} {bs : List Value} {sn : List Str} {sub : List Value} {ab : Bool} {col : Option Bool} {dd od an : Option Addr} {k0 k1 k2 k3 k5 : Option Value} {oc kV doc pm cd ct : Value} {osl : Array (Option Value)} (inK : K.In h) (glob : h.Ns mainGlobals mg)
    (cg : PySem.W.specialIn K (.builtin "object.__class__") "__get__" = some (some (.builtin "getset_descriptor.__get__"))) (ctk : PySem.W.takesIn K (.builtin "object.__class__") = some true)
    (aC : PySem.W.nsIn K mainGlobals "InvalidCut" = some (some (.ref C))) (xL : K.lookup C = some (excClassObj nm q C N bs veL true sn sub ab col dd k0 k1 k2 k3 k5 "ValueError.__new__"))
    (sa : PySem.W.findIn K (.ref C) "__setattr__" = some (some (.builtin "object.__setattr__"))) (ga : PySem.W.findIn K (.ref C) "__getattribute__" = some (some (.builtin "BaseException.__getattribute__"))) (gg : PySem.W.findIn K (.ref C) "__getattr__" = some none)
    (ca : PySem.W.findIn K (.ref C) "__class__" = some (some (.builtin "object.__class__"))) (kc : PySem.W.keepIn K (.ref C) = true) (no : PySem.W.findIn K (.ref C) "cut" = some none) (tk : PySem.W.takerIn K C "cut" = some none)
    (iC : PySem.W.findIn K (.ref C) "__init__" = some (some (.ref fI))) (tI : PySem.W.typeIn K (.ref fI) = some (.type "function"))
    (lI : K.lookup fI = some ⟨oc, od, .func (PySem.W.fnOf "__init__" "InvalidCut.__init__" (defArgs sI10) (defBody sI10) (defScope sI10) .none kV doc pm an cd ct), osl⟩) (cI : PySem.W.codeIn K cd "InvalidCut.__init__" = true) (kI : PySem.W.keepIn K (.ref fI) = true) :
    CT P w K mg base "InvalidCut" "cut" "ValueError" "ValueError.__new__" "ValueError.__init__" veL C := by
  obtain ⟨l1, l2, l3, l4, l5⟩ := line_of xL (by decide +kernel)
  have be : PySem.W.subIn K (.ref C) (.type "BaseException") = some true := (mro_sub l4 _).trans (congrArg some (by rw [List.contains_cons]; rfl))
  have cm : PySem.W.mroIn K C (.type "object") = some true := (mro_sub l4 _).trans (congrArg some (by rw [List.contains_cons]; rfl))
  have ex : ExC K C veL "ValueError.__new__" := ⟨l1, l2, sa, l3, ga, gg, be, kc, ca, cg, ctk, cm⟩
  have F := fun_mk (st := sI10) lI cI kI
  have G := F.ok (P := P) (w := w) (mg := mg) (base := base) (k := 0) (sp := spIni C "cut") scI10 (fun vs H Q E h => by
      obtain ⟨a, y, rfl, _⟩ := h
      rfl) (fun cdv A outer s H vs Q E hr h => by
      obtain ⟨a, y, rfl, ha, k⟩ := h
      exact ⟨_, pss_one (ps_first PySem.F.store_ValueError ex tk (pv 0) (pv 1)), _, rfl, _, rfl, a, rfl, ha, k⟩)
  have b1 := F.binds (ps := ["self", "cut"]) fun _ _ _ _ _ _ us hl => match us, hl with | [_, _], _ => rfl
  exact ⟨PySem.F.excBase_ValueError, ex, l4, l5, PySem.W.mg_of inK glob aC, no, fI, _, iC, tI, G, b1, fun s a u => .of_eq rfl⟩

abbrev sI13 : Stmt := inClass (top 13) 0
theorem scI13 : FnScope ["self", "fact"] ["self", "fact"] (defScope sI13) := ⟨rfl, rfl, rfl, by decide +kernel, rfl, by decide +kernel, by decide +kernel⟩
theorem ct13 {h : Heap} {C fI N : Addr} {nm q : Str} {bs : List Value} {sn : List Str} {sub : List Value} {ab : Bool} {col : Option Bool} {dd od an : Option Addr} {k0 k1 k2 k3 k5 : Option Value} {oc kV doc pm cd ct : Value} {osl : Array (Option Value)} (inK : K.In h) (glob : h.Ns mainGlobals mg)
    (cg : PySem.W.specialIn K (.builtin "object.__class__") "__get__" = some (some (.builtin "getset_descriptor.__get__"))) (ctk : PySem.W.takesIn K (.builtin "object.__class__") = some true)
    (aC : PySem.W.nsIn K mainGlobals "NoFact" = some (some (.ref C))) (xL : K.lookup C = some (excClassObj nm q C N bs leL true sn sub ab col dd k0 k1 k2 k3 k5 "LookupError.__new__"))
    (sa : PySem.W.findIn K (.ref C) "__setattr__" = some (some (.builtin "object.__setattr__"))) (ga : PySem.W.findIn K (.ref C) "__getattribute__" = some (some (.builtin "BaseException.__getattribute__"))) (gg : PySem.W.findIn K (.ref C) "__getattr__" = some none)
    (ca : PySem.W.findIn K (.ref C) "__class__" = some (some (.builtin "object.__class__"))) (kc : PySem.W.keepIn K (.ref C) = true) (no : PySem.W.findIn K (.ref C) "fact" = some none) (tk : PySem.W.takerIn K C "fact" = some none)
    (iC : PySem.W.findIn K (.ref C) "__init__" = some (some (.ref fI))) (tI : PySem.W.typeIn K (.ref fI) = some (.type "function"))
    (lI : K.lookup fI = some ⟨oc, od, .func (PySem.W.fnOf "__init__" "NoFact.__init__" (defArgs sI13) (defBody sI13) (defScope sI13) .none kV doc pm an cd ct), osl⟩) (cI : PySem.W.codeIn K cd "NoFact.__init__" = true) (kI : PySem.W.keepIn K (.ref fI) = true) :
    CT P w K mg base "NoFact" "fact" "LookupError" "LookupError.__new__" "LookupError.__init__" leL C := by
  obtain ⟨l1, l2, l3, l4, l5⟩ := line_of xL (by decide +kernel)
  have be : PySem.W.subIn K (.ref C) (.type "BaseException") = some true := (mro_sub l4 _).trans (congrArg some (by rw [List.contains_cons]; rfl))
  have cm : PySem.W.mroIn K C (.type "object") = some true := (mro_sub l4 _).trans (congrArg some (by rw [List.contains_cons]; rfl))
  have ex : ExC K C leL "LookupError.__new__" := ⟨l1, l2, sa, l3, ga, gg, be, kc, ca, cg, ctk, cm⟩
  have F := fun_mk (st := sI13) lI cI kI
  have G := F.ok (P := P) (w := w) (mg := mg) (base := base) (k := 0) (sp := spIni C "fact") scI13 (fun vs H Q E h => by
      obtain ⟨a, y, rfl, _⟩ := h
      rfl) (fun cdv A outer s H vs Q E hr h => by
      obtain ⟨a, y, rfl, ha, k⟩ := h
      exact ⟨_, pss_one (ps_first PySem.F.store_LookupError ex tk (pv 0) (pv 1)), _, rfl, _, rfl, a, rfl, ha, k⟩)
  have b1 := F.binds (ps := ["self", "fact"]) fun _ _ _ _ _ _ us hl => match us, hl with | [_, _], _ => rfl
  exact ⟨PySem.F.excBase_LookupError, ex, l4, l5, PySem.W.mg_of inK glob aC, no, fI, _, iC, tI, G, b1, fun s a u => .of_eq rfl⟩

abbrev sI14 : Stmt := inClass (top 14) 0
theorem scI14 : FnScope ["self", "thing"] ["self", "thing"] (defScope sI14) := ⟨rfl, rfl, rfl, by decide +kernel, rfl, by decide +kernel, by decide +kernel⟩
theorem ct14 {h : Heap} {C fI N : Addr} {nm q : Str} {bs : List Value} {sn : List Str} {sub : List Value} {ab : Bool} {col : Option Bool} {dd od an : Option Addr} {k0 k1 k2 k3 k5 : Option Value} {oc kV doc pm cd ct : Value} {osl : Array (Option Value)} (inK : K.In h) (glob : h.Ns mainGlobals mg)
    (cg : PySem.W.specialIn K (.builtin "object.__class__") "__get__" = some (some (.builtin "getset_descriptor.__get__"))) (ctk : PySem.W.takesIn K (.builtin "object.__class__") = some true)
    (aC : PySem.W.nsIn K mainGlobals "NoThing" = some (some (.ref C))) (xL : K.lookup C = some (excClassObj nm q C N bs leL true sn sub ab col dd k0 k1 k2 k3 k5 "LookupError.__new__"))
    (sa : PySem.W.findIn K (.ref C) "__setattr__" = some (some (.builtin "object.__setattr__"))) (ga : PySem.W.findIn K (.ref C) "__getattribute__" = some (some (.builtin "BaseException.__getattribute__"))) (gg : PySem.W.findIn K (.ref C) "__getattr__" = some none)
    (ca : PySem.W.findIn K (.ref C) "__class__" = some (some (.builtin "object.__class__"))) (kc : PySem.W.keepIn K (.ref C) = true) (no : PySem.W.findIn K (.ref C) "thing" = some none) (tk : PySem.W.takerIn K C "thing" = some none)
    (iC : PySem.W.findIn K (.ref C) "__init__" = some (some (.ref fI))) (tI : PySem.W.typeIn K (.ref fI) = some (.type "function"))
    (lI : K.lookup fI = some ⟨oc, od, .func (PySem.W.fnOf "__init__" "NoThing.__init__" (defArgs sI14) (defBody sI14) (defScope sI14) .none kV doc pm an cd ct), osl⟩) (cI : PySem.W.codeIn K cd "NoThing.__init__" = true) (kI : PySem.W.keepIn K (.ref fI) = true) :
    CT P w K mg base "NoThing" "thing" "LookupError" "LookupError.__new__" "LookupError.__init__" leL C := by
  obtain ⟨l1, l2, l3, l4, l5⟩ := line_of xL (by decide +kernel)
  have be : PySem.W.subIn K (.ref C) (.type "BaseException") = some true := (mro_sub l4 _).trans (congrArg some (by rw [List.contains_cons]; rfl))
  have cm : PySem.W.mroIn K C (.type "object") = some true := (mro_sub l4 _).trans (congrArg some (by rw [List.contains_cons]; rfl))
  have ex : ExC K C leL "LookupError.__new__" := ⟨l1, l2, sa, l3, ga, gg, be, kc, ca, cg, ctk, cm⟩
  have F := fun_mk (st := sI14) lI cI kI
  have G := F.ok (P := P) (w := w) (mg := mg) (base := base) (k := 0) (sp := spIni C "thing") scI14 (fun vs H Q E h => by
      obtain ⟨a, y, rfl, _⟩ := h
      rfl) (fun cdv A outer s H vs Q E hr h => by
      obtain ⟨a, y, rfl, ha, k⟩ := h
      exact ⟨_, pss_one (ps_first PySem.F.store_LookupError ex tk (pv 0) (pv 1)), _, rfl, _, rfl, a, rfl, ha, k⟩)
  have b1 := F.binds (ps := ["self", "thing"]) fun _ _ _ _ _ _ us hl => match us, hl with | [_, _], _ => rfl
  exact ⟨PySem.F.excBase_LookupError, ex, l4, l5, PySem.W.mg_of inK glob aC, no, fI, _, iC, tI, G, b1, fun s a u => .of_eq rfl⟩

abbrev sI15 : Stmt := inClass (top 15) 0
theorem scI15 : FnScope ["self", "word"] ["self", "word"] (defScope sI15) := ⟨rfl, rfl, rfl, by decide +kernel, rfl, by decide +kernel, by decide +kernel⟩
theorem ct15 {h : Heap} {C fI N : Addr} {nm q : Str} {bs : List Value} {sn : List Str} {sub : List Value} {ab : Bool} {col : Option Bool} {dd od an : Option Addr} {k0 k1 k2 k3 k5 : Option Value} {oc kV doc pm cd ct : Value} {osl : Array (Option Value)} (inK : K.In h) (glob : h.Ns mainGlobals mg)
    (cg : PySem.W.specialIn K (.builtin "object.__class__") "__get__" = some (some (.builtin "getset_descriptor.__get__"))) (ctk : PySem.W.takesIn K (.builtin "object.__class__") = some true)
    (aC : PySem.W.nsIn K mainGlobals "NoWord" = some (some (.ref C))) (xL : K.lookup C = some (excClassObj nm q C N bs leL true sn sub ab col dd k0 k1 k2 k3 k5 "LookupError.__new__"))
    (sa : PySem.W.findIn K (.ref C) "__setattr__" = some (some (.builtin "object.__setattr__"))) (ga : PySem.W.findIn K (.ref C) "__getattribute__" = some (some (.builtin "BaseException.__getattribute__"))) (gg : PySem.W.findIn K (.ref C) "__getattr__" = some none)
    (ca : PySem.W.findIn K (.ref C) "__class__" = some (some (.builtin "object.__class__"))) (kc : PySem.W.keepIn K (.ref C) = true) (no : PySem.W.findIn K (.ref C) "word" = some none) (tk : PySem.W.takerIn K C "word" = some none)
    (iC : PySem.W.findIn K (.ref C) "__init__" = some (some (.ref fI))) (tI : PySem.W.typeIn K (.ref fI) = some (.type "function"))
    (lI : K.lookup fI = some ⟨oc, od, .func (PySem.W.fnOf "__init__" "NoWord.__init__" (defArgs sI15) (defBody sI15) (defScope sI15) .none kV doc pm an cd ct), osl⟩) (cI : PySem.W.codeIn K cd "NoWord.__init__" = true) (kI : PySem.W.keepIn K (.ref fI) = true) :
    CT P w K mg base "NoWord" "word" "LookupError" "LookupError.__new__" "LookupError.__init__" leL C := by
  obtain ⟨l1, l2, l3, l4, l5⟩ := line_of xL (by decide +kernel)
  have be : PySem.W.subIn K (.ref C) (.type "BaseException") = some true := (mro_sub l4 _).trans (congrArg some (by rw [List.contains_cons]; rfl))
  have cm : PySem.W.mroIn K C (.type "object") = some true := (mro_sub l4 _).trans (congrArg some (by rw [List.contains_cons]; rfl))
  have ex : ExC K C leL "LookupError.__new__" := ⟨l1, l2, sa, l3, ga, gg, be, kc, ca, cg, ctk, cm⟩
  have F := fun_mk (st := sI15) lI cI kI
  have G := F.ok (P := P) (w := w) (mg := mg) (base := base) (k := 0) (sp := spIni C "word") scI15 (fun vs H Q E h => by
      obtain ⟨a, y, rfl, _⟩ := h
      rfl) (fun cdv A outer s H vs Q E hr h => by
      obtain ⟨a, y, rfl, ha, k⟩ := h
      exact ⟨_, pss_one (ps_first PySem.F.store_LookupError ex tk (pv 0) (pv 1)), _, rfl, _, rfl, a, rfl, ha, k⟩)
  have b1 := F.binds (ps := ["self", "word"]) fun _ _ _ _ _ _ us hl => match us, hl with | [_, _], _ => rfl
  exact ⟨PySem.F.excBase_LookupError, ex, l4, l5, PySem.W.mg_of inK glob aC, no, fI, _, iC, tI, G, b1, fun s a u => .of_eq rfl⟩

abbrev sI17 : Stmt := inClass (top 17) 0
theorem scI17 : FnScope ["self", "count"] ["self", "count"] (defScope sI17) := ⟨rfl, rfl, rfl, by decide +kernel, rfl, by decide +kernel, by decide +kernel⟩
theorem ct17 {h : Heap} {C fI N : Addr} {nm q : Str} {bs : List Value} {sn : List Str} {sub : List Value} {ab : Bool} {col : Option Bool} {dd od an : Option Addr} {k0 k1 k2 k3 k5 : Option Value} {oc kV doc pm cd ct : Value} {osl : Array (Option Value)} (inK : K.In h) (glob : h.Ns mainGlobals mg)
    (cg : PySem.W.specialIn K (.builtin "object.__class__") "__get__" = some (some (.builtin "getset_descriptor.__get__"))) (ctk : PySem.W.takesIn K (.builtin "object.__class__") = some true)
    (aC : PySem.W.nsIn K mainGlobals "OutOfRange" = some (some (.ref C))) (xL : K.lookup C = some (excClassObj nm q C N bs leL true sn sub ab col dd k0 k1 k2 k3 k5 "LookupError.__new__"))
    (sa : PySem.W.findIn K (.ref C) "__setattr__" = some (some (.builtin "object.__setattr__"))) (ga : PySem.W.findIn K (.ref C) "__getattribute__" = some (some (.builtin "BaseException.__getattribute__"))) (gg : PySem.W.findIn K (.ref C) "__getattr__" = some none)
    (ca : PySem.W.findIn K (.ref C) "__class__" = some (some (.builtin "object.__class__"))) (kc : PySem.W.keepIn K (.ref C) = true) (no : PySem.W.findIn K (.ref C) "count" = some none) (tk : PySem.W.takerIn K C "count" = some none)
    (iC : PySem.W.findIn K (.ref C) "__init__" = some (some (.ref fI))) (tI : PySem.W.typeIn K (.ref fI) = some (.type "function"))
    (lI : K.lookup fI = some ⟨oc, od, .func (PySem.W.fnOf "__init__" "OutOfRange.__init__" (defArgs sI17) (defBody sI17) (defScope sI17) .none kV doc pm an cd ct), osl⟩) (cI : PySem.W.codeIn K cd "OutOfRange.__init__" = true) (kI : PySem.W.keepIn K (.ref fI) = true) :
    CT P w K mg base "OutOfRange" "count" "LookupError" "LookupError.__new__" "LookupError.__init__" leL C := by
  obtain ⟨l1, l2, l3, l4, l5⟩ := line_of xL (by decide +kernel)
  have be : PySem.W.subIn K (.ref C) (.type "BaseException") = some true := (mro_sub l4 _).trans (congrArg some (by rw [List.contains_cons]; rfl))
  have cm : PySem.W.mroIn K C (.type "object") = some true := (mro_sub l4 _).trans (congrArg some (by rw [List.contains_cons]; rfl))
  have ex : ExC K C leL "LookupError.__new__" := ⟨l1, l2, sa, l3, ga, gg, be, kc, ca, cg, ctk, cm⟩
  have F := fun_mk (st := sI17) lI cI kI
  have G := F.ok (P := P) (w := w) (mg := mg) (base := base) (k := 0) (sp := spIni C "count") scI17 (fun vs H Q E h => by
      obtain ⟨a, y, rfl, _⟩ := h
      rfl) (fun cdv A outer s H vs Q E hr h => by
      obtain ⟨a, y, rfl, ha, k⟩ := h
      exact ⟨_, pss_one (ps_first PySem.F.store_LookupError ex tk (pv 0) (pv 1)), _, rfl, _, rfl, a, rfl, ha, k⟩)
  have b1 := F.binds (ps := ["self", "count"]) fun _ _ _ _ _ _ us hl => match us, hl with | [_, _], _ => rfl
  exact ⟨PySem.F.excBase_LookupError, ex, l4, l5, PySem.W.mg_of inK glob aC, no, fI, _, iC, tI, G, b1, fun s a u => .of_eq rfl⟩

abbrev sI18 : Stmt := inClass (top 18) 0
theorem scI18 : FnScope ["self", "most"] ["self", "most"] (defScope sI18) := ⟨rfl, rfl, rfl, by decide +kernel, rfl, by decide +kernel, by decide +kernel⟩
theorem ct18 {h : Heap} {C fI N : Addr} {nm q : Str} {bs : List Value} {sn : List Str} {sub : List Value} {ab : Bool} {col : Option Bool} {dd od an : Option Addr} {k0 k1 k2 k3 k5 : Option Value} {oc kV doc pm cd ct : Value} {osl : Array (Option Value)} (inK : K.In h) (glob : h.Ns mainGlobals mg)
    (cg : PySem.W.specialIn K (.builtin "object.__class__") "__get__" = some (some (.builtin "getset_descriptor.__get__"))) (ctk : PySem.W.takesIn K (.builtin "object.__class__") = some true)
    (aC : PySem.W.nsIn K mainGlobals "TooMany" = some (some (.ref C))) (xL : K.lookup C = some (excClassObj nm q C N bs oeL true sn sub ab col dd k0 k1 k2 k3 k5 "OverflowError.__new__"))
    (sa : PySem.W.findIn K (.ref C) "__setattr__" = some (some (.builtin "object.__setattr__"))) (ga : PySem.W.findIn K (.ref C) "__getattribute__" = some (some (.builtin "BaseException.__getattribute__"))) (gg : PySem.W.findIn K (.ref C) "__getattr__" = some none)
    (ca : PySem.W.findIn K (.ref C) "__class__" = some (some (.builtin "object.__class__"))) (kc : PySem.W.keepIn K (.ref C) = true) (no : PySem.W.findIn K (.ref C) "most" = some none) (tk : PySem.W.takerIn K C "most" = some none)
    (iC : PySem.W.findIn K (.ref C) "__init__" = some (some (.ref fI))) (tI : PySem.W.typeIn K (.ref fI) = some (.type "function"))
    (lI : K.lookup fI = some ⟨oc, od, .func (PySem.W.fnOf "__init__" "TooMany.__init__" (defArgs sI18) (defBody sI18) (defScope sI18) .none kV doc pm an cd ct), osl⟩) (cI : PySem.W.codeIn K cd "TooMany.__init__" = true) (kI : PySem.W.keepIn K (.ref fI) = true) :
    CT P w K mg base "TooMany" "most" "OverflowError" "OverflowError.__new__" "OverflowError.__init__" oeL C := by
  obtain ⟨l1, l2, l3, l4, l5⟩ := line_of xL (by decide +kernel)
  have be : PySem.W.subIn K (.ref C) (.type "BaseException") = some true := (mro_sub l4 _).trans (congrArg some (by rw [List.contains_cons]; rfl))
  have cm : PySem.W.mroIn K C (.type "object") = some true := (mro_sub l4 _).trans (congrArg some (by rw [List.contains_cons]; rfl))
  have ex : ExC K C oeL "OverflowError.__new__" := ⟨l1, l2, sa, l3, ga, gg, be, kc, ca, cg, ctk, cm⟩
  have F := fun_mk (st := sI18) lI cI kI
  have G := F.ok (P := P) (w := w) (mg := mg) (base := base) (k := 0) (sp := spIni C "most") scI18 (fun vs H Q E h => by
      obtain ⟨a, y, rfl, _⟩ := h
      rfl) (fun cdv A outer s H vs Q E hr h => by
      obtain ⟨a, y, rfl, ha, k⟩ := h
      exact ⟨_, pss_one (ps_first PySem.F.store_OverflowError ex tk (pv 0) (pv 1)), _, rfl, _, rfl, a, rfl, ha, k⟩)
  have b1 := F.binds (ps := ["self", "most"]) fun _ _ _ _ _ _ us hl => match us, hl with | [_, _], _ => rfl
  exact ⟨PySem.F.excBase_OverflowError, ex, l4, l5, PySem.W.mg_of inK glob aC, no, fI, _, iC, tI, G, b1, fun s a u => .of_eq rfl⟩
end
end K00

set_option Elab.async false
set_option linter.all false
set_option maxRecDepth 100000
set_option maxHeartbeats 4000000
namespace K00
open PySem L2 Pen RG Dat Exn
/-- (one, other, v, v), both exceptions of the class at C that hold v -/
def RowAt (H : Hp) (v : V) (C : Addr) (x : V) : Prop := ∃ (t a b : Addr) (f : Str), x = .ref t ∧ H t = some (.tup [.ref a, .ref b, v, v]) ∧ ExA H a C f v ∧ ExA H b C f v
/-- (one, other), .. that hold v as f -/
def PairAt (K : PySem.W.Frag) (H : Hp) (v : V) (f : Str) (C : Addr) (x : V) : Prop := ∃ (t a b : Addr) (bm : List Value) (newId : String), x = .ref t ∧ H t = some (.tup [.ref a, .ref b]) ∧ ExA H a C f v ∧ ExA H b C f v ∧ ExC K C bm newId ∧ PySem.W.findIn K (.ref C) f = some none
/-- all but the list at l is as it was -/
def ButL (l : Addr) (H H1 : Hp) : Prop := (∃ xs, H l = some (.lst xs)) ∧ ∀ b o, b ≠ l → H b = some o → H1 b = some o
theorem ButL.upd {l : Addr} {H : Hp} {xs ys : List V} (h : H l = some (.lst xs)) : ButL l H (upd H l (.lst ys)) := ⟨⟨xs, h⟩, fun b o hb q => by rw [upd_ne hb]; exact q⟩
theorem ButL.get {l b : Addr} {H H1 : Hp} {o : HO} (s : ButL l H H1) (h : H b = some o) (n : ∀ xs, o ≠ .lst xs) : H1 b = some o := by
  obtain ⟨⟨xs, hl⟩, k⟩ := s
  refine k b o ?_ h
  intro e
  rw [e, hl] at h
  exact n xs (Option.some.inj h).symm
theorem exo_lst {e C : Addr} {d : Option Addr} : ∀ xs, exo e C d ≠ .lst xs := fun xs z => by
  have z' : HO.ext _ = HO.lst xs := z
  cases z'
theorem exd_lst {e : Addr} {fs : List (Str × V)} : ∀ xs, exd e fs ≠ .lst xs := fun xs z => by
  have z' : HO.ext _ = HO.lst xs := z
  cases z'
theorem ExA_but {l : Addr} {H H1 : Hp} {a C : Addr} {f : Str} {y : V} (s : ButL l H H1) (e : ExA H a C f y) : ExA H1 a C f y := by
  obtain ⟨dx, h1, h2⟩ := e
  exact ⟨dx, s.get h1 exo_lst, s.get h2 exd_lst⟩
theorem RowAt.same {H H1 : Hp} {v : V} {C : Addr} {x : V} (r : RowAt H v C x) (s : Same H H1) : RowAt H1 v C x := by
  obtain ⟨t, a, b, f, e, h, ea, eb⟩ := r
  exact ⟨t, a, b, f, e, s _ _ h, ea.same s, eb.same s⟩
theorem RowAt.but {l : Addr} {H H1 : Hp} {v : V} {C : Addr} {x : V} (r : RowAt H v C x) (s : ButL l H H1) : RowAt H1 v C x := by
  obtain ⟨t, a, b, f, e, h, ea, eb⟩ := r
  exact ⟨t, a, b, f, e, s.get h (fun _ z => nomatch z), ExA_but s ea, ExA_but s eb⟩
theorem PairAt.same {K : PySem.W.Frag} {H H1 : Hp} {v : V} {f : Str} {C : Addr} {x : V} (r : PairAt K H v f C x) (s : Same H H1) : PairAt K H1 v f C x := by
  obtain ⟨t, a, b, bm, newId, e, h, ea, eb, q⟩ := r
  exact ⟨t, a, b, bm, newId, e, s _ _ h, ea.same s, eb.same s, q⟩
theorem PairAt.but {K : PySem.W.Frag} {l : Addr} {H H1 : Hp} {v : V} {f : Str} {C : Addr} {x : V} (r : PairAt K H v f C x) (s : ButL l H H1) : PairAt K H1 v f C x := by
  obtain ⟨t, a, b, bm, newId, e, h, ea, eb, q⟩ := r
  exact ⟨t, a, b, bm, newId, e, s.get h (fun _ z => nomatch z), ExA_but s ea, ExA_but s eb, q⟩
theorem paired_map {α β : Type} {F G : α → β → Prop} {l : List α} {m : List β} (p : Paired F l m) (k : ∀ a b, F a b → G a b) : Paired G l m := L2.Paired.mapP p k
theorem paired_app {α β : Type} {F : α → β → Prop} : ∀ {l l2 : List α} {m m2 : List β}, Paired F l m → Paired F l2 m2 → Paired F (l ++ l2) (m ++ m2)
  | _, _, _, _, .nil, q => q
  | _, _, _, _, .cons h t, q => .cons h (paired_app t q)
theorem paired_get {α β : Type} {F : α → β → Prop} : ∀ {l : List α} {m : List β} {i : Nat} {b : β}, Paired F l m → m[i]? = some b → ∃ a, l[i]? = some a ∧ F a b
  | _, _, i, _, .nil, h => by simp at h
  | _, _, 0, b, .cons q t, h => by
    have e := Option.some.inj h
    subst e
    exact ⟨_, rfl, q⟩
  | _, _, i + 1, b, .cons q t, h => by
    obtain ⟨a, e, r⟩ := paired_get (i := i) t h
    exact ⟨a, e, r⟩
theorem take_more {α : Type} : ∀ {l : List α} {i : Nat} {x : α}, l[i]? = some x → l.take (i + 1) = l.take i ++ [x]
  | [], i, x, h => by simp at h
  | a :: l, 0, x, h => by
    have e : a = x := Option.some.inj h
    subst e
    rfl
  | a :: l, i + 1, x, h => by
    have ih := take_more (l := l) (i := i) (x := x) h
    show a :: l.take (i + 1) = a :: l.take i ++ [x]
    rw [ih]
    rfl
end K00

set_option Elab.async false
set_option linter.all false
set_option maxRecDepth 100000
set_option maxHeartbeats 8000000
namespace K00
open PySem L2 Pen RG Dat Exn
abbrev sVal : Stmt := top 24
abbrev sOth : Stmt := top 25
structure AllC (P : Program) (w : World) (K : PySem.W.Frag) (mg : Str → Option Value) (base : Heap) (C : Nat → Addr) : Prop where
  t0 : CT P w K mg base "InvalidHandler" "value" "ValueError" "ValueError.__new__" "ValueError.__init__" veL (C 0)
  t1 : CT P w K mg base "InvalidRows" "value" "ValueError" "ValueError.__new__" "ValueError.__init__" veL (C 1)
  t2 : CT P w K mg base "InvalidMessage" "value" "ValueError" "ValueError.__new__" "ValueError.__init__" veL (C 2)
  t3 : CT P w K mg base "InvalidWay" "value" "ValueError" "ValueError.__new__" "ValueError.__init__" veL (C 3)
  t4 : CT P w K mg base "InvalidState" "value" "ValueError" "ValueError.__new__" "ValueError.__init__" veL (C 4)
  t5 : CT P w K mg base "InvalidCount" "value" "ValueError" "ValueError.__new__" "ValueError.__init__" veL (C 5)
  t6 : CT P w K mg base "NoService" "value" "LookupError" "LookupError.__new__" "LookupError.__init__" leL (C 6)
  t7 : CT P w K mg base "InvalidService" "reason" "ValueError" "ValueError.__new__" "ValueError.__init__" veL (C 7)
  t8 : CT P w K mg base "InvalidSystem" "reason" "ValueError" "ValueError.__new__" "ValueError.__init__" veL (C 8)
  t9 : CT P w K mg base "NotPlayed" "index" "ValueError" "ValueError.__new__" "ValueError.__init__" veL (C 9)
  t10 : CT P w K mg base "InvalidTest" "test" "ValueError" "ValueError.__new__" "ValueError.__init__" veL (C 10)
  t11 : CT P w K mg base "InvalidCut" "cut" "ValueError" "ValueError.__new__" "ValueError.__init__" veL (C 11)
  t12 : CT P w K mg base "NoFact" "fact" "LookupError" "LookupError.__new__" "LookupError.__init__" leL (C 12)
  t13 : CT P w K mg base "NoThing" "thing" "LookupError" "LookupError.__new__" "LookupError.__init__" leL (C 13)
  t14 : CT P w K mg base "NoWord" "word" "LookupError" "LookupError.__new__" "LookupError.__init__" leL (C 14)
  t15 : CT P w K mg base "OutOfRange" "count" "LookupError" "LookupError.__new__" "LookupError.__init__" leL (C 15)
  t16 : CT P w K mg base "TooMany" "most" "OverflowError" "OverflowError.__new__" "OverflowError.__init__" oeL (C 16)
def spVal (C : Nat → Addr) : Sp := fun vs H Q _ => ∃ v, vs = [v] ∧ ∀ (l : Addr) (xs : List V) (H' : Hp), Same H H' → H l = none → H' l = some (.lst xs) → Paired (RowAt H' v) [C 0, C 1, C 2, C 3, C 4, C 5, C 6] xs → Q (.ref l) H'
def spOth (C : Nat → Addr) : Sp := fun vs H Q _ => ∃ v, vs = [v] ∧ ∀ (l : Addr) (xs : List V) (H' : Hp), Same H H' → H l = none → H' l = some (.lst xs) → Paired (RowAt H' v) [C 7, C 8, C 9, C 10, C 11, C 12, C 13, C 14, C 15, C 16] xs → Q (.ref l) H'
section
variable {P : Program} {w : World} {K : PySem.W.Frag} {mg : Str → Option Value} {base : Heap} {C : Nat → Addr}
theorem scVal : FnScope ["_law_odd_here", "_law_some", "_law_one", "_law_other"] ["_law_odd_here"] (defScope sVal) := ⟨rfl, rfl, rfl, by decide +kernel, rfl, by decide +kernel, by decide +kernel⟩
theorem ok_val {f : Addr} {fd : FuncData} (F : Fun K "_law_values" "_law_values" sVal f fd) (A : AllC P w K mg base C) : FnOk P w K mg base CX0 3 f fd ["_law_odd_here"] (spVal C) := by
  refine F.ok scVal (fun vs H Q E h => ?_) (fun cdv A' outer s H vs Q E hr h => ?_)
  · obtain ⟨v, rfl, _⟩ := h
    rfl
  · obtain ⟨v, rfl, k⟩ := h
    obtain ⟨fI0, fd0, i0, j0, g0, b0, k0⟩ := A.t0.made
    obtain ⟨fI1, fd1, i1, j1, g1, b1, k1⟩ := A.t1.made
    obtain ⟨fI2, fd2, i2, j2, g2, b2, k2⟩ := A.t2.made
    obtain ⟨fI3, fd3, i3, j3, g3, b3, k3⟩ := A.t3.made
    obtain ⟨fI4, fd4, i4, j4, g4, b4, k4⟩ := A.t4.made
    obtain ⟨fI5, fd5, i5, j5, g5, b5, k5⟩ := A.t5.made
    obtain ⟨fI6, fd6, i6, j6, g6, b6, k6⟩ := A.t6.made
    refine ⟨_, (pss_cons (ps_set (i := 1) scVal.nd rfl (Or.inl rfl) (Ab.pe_lstA (pa_cons (Ab.pe_tupA (pa_cons (pe_newx A.t0.fb A.t0.ex i0 j0 g0 (hr.mono (by decide)) b0 rfl A.t0.named (pa_cons (pv 0) pa_nil)) (pa_cons (pe_newk A.t0.fb A.t0.ex i0 j0 g0 (hr.mono (by decide)) k0 rfl A.t0.named (pk_cons (pv 0) pk_nil)) pa_nil))) (pa_cons (Ab.pe_tupA (pa_cons (pe_newx A.t1.fb A.t1.ex i1 j1 g1 (hr.mono (by decide)) b1 rfl A.t1.named (pa_cons (pv 0) pa_nil)) (pa_cons (pe_newk A.t1.fb A.t1.ex i1 j1 g1 (hr.mono (by decide)) k1 rfl A.t1.named (pk_cons (pv 0) pk_nil)) pa_nil))) pa_nil))))
      (pss_cons (ps_expr (pe_bm PySem.F.plainAttrs_list PySem.F.slot_list_append PySem.F.type_list_append mt_append (pv 1) (pa_cons (Ab.pe_tupA (pa_cons (pe_newx A.t2.fb A.t2.ex i2 j2 g2 (hr.mono (by decide)) b2 rfl A.t2.named (pa_cons (pv 0) pa_nil)) (pa_cons (pe_newk A.t2.fb A.t2.ex i2 j2 g2 (hr.mono (by decide)) k2 rfl A.t2.named (pk_cons (pv 0) pk_nil)) pa_nil))) pa_nil)))
      (pss_cons (ps_set (i := 1) scVal.nd rfl (Or.inl rfl) (pe_op Ab.op_catA (pv 1) (Ab.pe_lstA (pa_cons (Ab.pe_tupA (pa_cons (pe_newx A.t3.fb A.t3.ex i3 j3 g3 (hr.mono (by decide)) b3 rfl A.t3.named (pa_cons (pv 0) pa_nil)) (pa_cons (pe_newk A.t3.fb A.t3.ex i3 j3 g3 (hr.mono (by decide)) k3 rfl A.t3.named (pk_cons (pv 0) pk_nil)) pa_nil))) (pa_cons (Ab.pe_tupA (pa_cons (pe_newx A.t4.fb A.t4.ex i4 j4 g4 (hr.mono (by decide)) b4 rfl A.t4.named (pa_cons (pv 0) pa_nil)) (pa_cons (pe_newk A.t4.fb A.t4.ex i4 j4 g4 (hr.mono (by decide)) k4 rfl A.t4.named (pk_cons (pv 0) pk_nil)) pa_nil))) pa_nil)))))
      (pss_cons (ps_set (i := 1) scVal.nd rfl (Or.inl rfl) (pe_op Ab.op_catA (pv 1) (Ab.pe_lstA (pa_cons (Ab.pe_tupA (pa_cons (pe_newx A.t5.fb A.t5.ex i5 j5 g5 (hr.mono (by decide)) b5 rfl A.t5.named (pa_cons (pv 0) pa_nil)) (pa_cons (pe_newk A.t5.fb A.t5.ex i5 j5 g5 (hr.mono (by decide)) k5 rfl A.t5.named (pk_cons (pv 0) pk_nil)) pa_nil))) (pa_cons (Ab.pe_tupA (pa_cons (pe_newx A.t6.fb A.t6.ex i6 j6 g6 (hr.mono (by decide)) b6 rfl A.t6.named (pa_cons (pv 0) pa_nil)) (pa_cons (pe_newk A.t6.fb A.t6.ex i6 j6 g6 (hr.mono (by decide)) k6 rfl A.t6.named (pk_cons (pv 0) pk_nil)) pa_nil))) pa_nil)))))
      (pss_one (ps_ret (pe_lc (own := [("_law_one", 2), ("_law_other", 3)]) (g := gTup K 2 (gCons (gName 2) (gCons (gName 3) gNil))) (tt := tYes) (te := (Ab.tTupA (tCons (tVar 2) (tCons (tVar 3) (tCons (tFldX K (tVar 2) "value") (tCons (tFldX K (tVar 3) "value") tNil)))))) rfl scVal.nd (pi_list (pv 1)) (blkOk_by (N := ["_law_odd_here", "_law_some", "_law_one", "_law_other"]) (sc := defScope sVal) (by decide +kernel)) (fun _ _ _ _ _ => by exact (pg_tup (by rfl) (pgs_cons (pg_name (i := 2) scVal.nd rfl (Or.inl rfl)) (pgs_cons (pg_name (i := 3) scVal.nd rfl (Or.inl rfl)) pgs_nil)))) (fun _ _ _ _ _ => by exact pts_nil) (fun _ _ _ _ _ => by exact (Ab.pe_tupA (pa_cons (pv 2) (pa_cons (pv 3) (pa_cons (pe_fldx (pv 2) rfl) (pa_cons (pe_fldx (pv 3) rfl) pa_nil))))))))))))), ?_⟩
    refine ⟨_, rfl, _, rfl, fun a0 A0 fa0 sa0 xa0 => ?_⟩
    have allA0 := (Same.refl H).trans sa0
    refine ⟨_, rfl, _, rfl, fun a1 A1 fa1 sa1 xa1 => ?_⟩
    have allA1 := allA0.trans sa1
    refine ⟨sz (by simp), fun t2 H2 f2 s2 e2 => ?_⟩
    have allH2 := allA1.trans s2
    have p0 : PairAt K H2 v "value" (C 0) (.ref t2) := ⟨t2, a0, a1, _, _, rfl, e2, xa0.same (sa1.trans s2), xa1.same s2, A.t0.ex, A.t0.no⟩
    refine ⟨_, rfl, _, rfl, fun a3 A3 fa3 sa3 xa3 => ?_⟩
    replace p0 := p0.same sa3
    have allA3 := allH2.trans sa3
    refine ⟨_, rfl, _, rfl, fun a4 A4 fa4 sa4 xa4 => ?_⟩
    replace p0 := p0.same sa4
    have allA4 := allA3.trans sa4
    refine ⟨sz (by simp), fun t5 H5 f5 s5 e5 => ?_⟩
    replace p0 := p0.same s5
    have allH5 := allA4.trans s5
    have p1 : PairAt K H5 v "value" (C 1) (.ref t5) := ⟨t5, a3, a4, _, _, rfl, e5, xa3.same (sa4.trans s5), xa4.same s5, A.t1.ex, A.t1.no⟩
    refine ⟨sz (by simp), fun l1 G1 fl1 nl1 sl1 el1 => ?_⟩
    replace p0 := p0.same sl1
    replace p1 := p1.same sl1
    have allG1 := allH5.trans sl1
    refine ⟨_, rfl, .inl ⟨rfl, _, SqL.of el1⟩, ?_⟩
    refine ⟨_, rfl, _, rfl, fun a6 A6 fa6 sa6 xa6 => ?_⟩
    replace p0 := p0.same sa6
    replace p1 := p1.same sa6
    replace el1 := sa6 _ _ el1
    have allA6 := allG1.trans sa6
    refine ⟨_, rfl, _, rfl, fun a7 A7 fa7 sa7 xa7 => ?_⟩
    replace p0 := p0.same sa7
    replace p1 := p1.same sa7
    replace el1 := sa7 _ _ el1
    have allA7 := allA6.trans sa7
    refine ⟨sz (by simp), fun t8 H8 f8 s8 e8 => ?_⟩
    replace p0 := p0.same s8
    replace p1 := p1.same s8
    replace el1 := s8 _ _ el1
    have allH8 := allA7.trans s8
    have p2 : PairAt K H8 v "value" (C 2) (.ref t8) := ⟨t8, a6, a7, _, _, rfl, e8, xa6.same (sa7.trans s8), xa7.same s8, A.t2.ex, A.t2.no⟩
    refine ⟨l1, _, _, rfl, rfl, el1, szl (by simp), ?_⟩
    have u1 := ButL.upd (ys := [V.ref t2, V.ref t5] ++ [V.ref t8]) el1
    have el2 : upd H8 l1 (.lst ([V.ref t2, V.ref t5] ++ [V.ref t8])) l1 = some (.lst ([V.ref t2, V.ref t5] ++ [V.ref t8])) := upd_same
    have all2 : Same H (upd H8 l1 (.lst ([V.ref t2, V.ref t5] ++ [V.ref t8]))) := fun b o q => u1.2 b o (ne_of_none (allH5 _ _ q) fl1) (allH8 _ _ q)
    generalize upd H8 l1 (.lst ([V.ref t2, V.ref t5] ++ [V.ref t8])) = G2 at u1 el2 all2 ⊢
    replace p0 := p0.but u1
    replace p1 := p1.but u1
    replace p2 := p2.but u1
    refine ⟨_, rfl, ?_⟩
    refine ⟨_, rfl, _, rfl, fun a9 A9 fa9 sa9 xa9 => ?_⟩
    replace p0 := p0.same sa9
    replace p1 := p1.same sa9
    replace p2 := p2.same sa9
    replace el2 := sa9 _ _ el2
    have allA9 := all2.trans sa9
    refine ⟨_, rfl, _, rfl, fun a10 A10 fa10 sa10 xa10 => ?_⟩
    replace p0 := p0.same sa10
    replace p1 := p1.same sa10
    replace p2 := p2.same sa10
    replace el2 := sa10 _ _ el2
    have allA10 := allA9.trans sa10
    refine ⟨sz (by simp), fun t11 H11 f11 s11 e11 => ?_⟩
    replace p0 := p0.same s11
    replace p1 := p1.same s11
    replace p2 := p2.same s11
    replace el2 := s11 _ _ el2
    have allH11 := allA10.trans s11
    have p3 : PairAt K H11 v "value" (C 3) (.ref t11) := ⟨t11, a9, a10, _, _, rfl, e11, xa9.same (sa10.trans s11), xa10.same s11, A.t3.ex, A.t3.no⟩
    refine ⟨_, rfl, _, rfl, fun a12 A12 fa12 sa12 xa12 => ?_⟩
    replace p0 := p0.same sa12
    replace p1 := p1.same sa12
    replace p2 := p2.same sa12
    replace p3 := p3.same sa12
    replace el2 := sa12 _ _ el2
    have allA12 := allH11.trans sa12
    refine ⟨_, rfl, _, rfl, fun a13 A13 fa13 sa13 xa13 => ?_⟩
    replace p0 := p0.same sa13
    replace p1 := p1.same sa13
    replace p2 := p2.same sa13
    replace p3 := p3.same sa13
    replace el2 := sa13 _ _ el2
    have allA13 := allA12.trans sa13
    refine ⟨sz (by simp), fun t14 H14 f14 s14 e14 => ?_⟩
    replace p0 := p0.same s14
    replace p1 := p1.same s14
    replace p2 := p2.same s14
    replace p3 := p3.same s14
    replace el2 := s14 _ _ el2
    have allH14 := allA13.trans s14
    have p4 : PairAt K H14 v "value" (C 4) (.ref t14) := ⟨t14, a12, a13, _, _, rfl, e14, xa12.same (sa13.trans s14), xa13.same s14, A.t4.ex, A.t4.no⟩
    refine ⟨sz (by simp), fun l3 G3 fl3 nl3 sl3 el3 => ?_⟩
    replace p0 := p0.same sl3
    replace p1 := p1.same sl3
    replace p2 := p2.same sl3
    replace p3 := p3.same sl3
    replace p4 := p4.same sl3
    replace el2 := sl3 _ _ el2
    have allG3 := allH14.trans sl3
    refine ⟨l1, l3, _, _, rfl, rfl, el2, el3, sz (by simp), fun l4 G4 fl4 sl4 el4 => ?_⟩
    replace p0 := p0.same sl4
    replace p1 := p1.same sl4
    replace p2 := p2.same sl4
    replace p3 := p3.same sl4
    replace p4 := p4.same sl4
    have allG4 := allG3.trans sl4
    refine ⟨_, rfl, ?_⟩
    refine ⟨_, rfl, _, rfl, fun a15 A15 fa15 sa15 xa15 => ?_⟩
    replace p0 := p0.same sa15
    replace p1 := p1.same sa15
    replace p2 := p2.same sa15
    replace p3 := p3.same sa15
    replace p4 := p4.same sa15
    replace el4 := sa15 _ _ el4
    have allA15 := allG4.trans sa15
    refine ⟨_, rfl, _, rfl, fun a16 A16 fa16 sa16 xa16 => ?_⟩
    replace p0 := p0.same sa16
    replace p1 := p1.same sa16
    replace p2 := p2.same sa16
    replace p3 := p3.same sa16
    replace p4 := p4.same sa16
    replace el4 := sa16 _ _ el4
    have allA16 := allA15.trans sa16
    refine ⟨sz (by simp), fun t17 H17 f17 s17 e17 => ?_⟩
    replace p0 := p0.same s17
    replace p1 := p1.same s17
    replace p2 := p2.same s17
    replace p3 := p3.same s17
    replace p4 := p4.same s17
    replace el4 := s17 _ _ el4
    have allH17 := allA16.trans s17
    have p5 : PairAt K H17 v "value" (C 5) (.ref t17) := ⟨t17, a15, a16, _, _, rfl, e17, xa15.same (sa16.trans s17), xa16.same s17, A.t5.ex, A.t5.no⟩
    refine ⟨_, rfl, _, rfl, fun a18 A18 fa18 sa18 xa18 => ?_⟩
    replace p0 := p0.same sa18
    replace p1 := p1.same sa18
    replace p2 := p2.same sa18
    replace p3 := p3.same sa18
    replace p4 := p4.same sa18
    replace p5 := p5.same sa18
    replace el4 := sa18 _ _ el4
    have allA18 := allH17.trans sa18
    refine ⟨_, rfl, _, rfl, fun a19 A19 fa19 sa19 xa19 => ?_⟩
    replace p0 := p0.same sa19
    replace p1 := p1.same sa19
    replace p2 := p2.same sa19
    replace p3 := p3.same sa19
    replace p4 := p4.same sa19
    replace p5 := p5.same sa19
    replace el4 := sa19 _ _ el4
    have allA19 := allA18.trans sa19
    refine ⟨sz (by simp), fun t20 H20 f20 s20 e20 => ?_⟩
    replace p0 := p0.same s20
    replace p1 := p1.same s20
    replace p2 := p2.same s20
    replace p3 := p3.same s20
    replace p4 := p4.same s20
    replace p5 := p5.same s20
    replace el4 := s20 _ _ el4
    have allH20 := allA19.trans s20
    have p6 : PairAt K H20 v "value" (C 6) (.ref t20) := ⟨t20, a18, a19, _, _, rfl, e20, xa18.same (sa19.trans s20), xa19.same s20, A.t6.ex, A.t6.no⟩
    refine ⟨sz (by simp), fun l5 G5 fl5 nl5 sl5 el5 => ?_⟩
    replace p0 := p0.same sl5
    replace p1 := p1.same sl5
    replace p2 := p2.same sl5
    replace p3 := p3.same sl5
    replace p4 := p4.same sl5
    replace p5 := p5.same sl5
    replace p6 := p6.same sl5
    replace el4 := sl5 _ _ el4
    have allG5 := allH20.trans sl5
    refine ⟨l4, l5, _, _, rfl, rfl, el4, el5, sz (by simp), fun l6 G6 fl6 sl6 el6 => ?_⟩
    replace p0 := p0.same sl6
    replace p1 := p1.same sl6
    replace p2 := p2.same sl6
    replace p3 := p3.same sl6
    replace p4 := p4.same sl6
    replace p5 := p5.same sl6
    replace p6 := p6.same sl6
    have allG6 := allG5.trans sl6
    have PP : Paired (PairAt K G6 v "value") [C 0, C 1, C 2, C 3, C 4, C 5, C 6] ((([V.ref t2, V.ref t5] ++ [V.ref t8]) ++ [V.ref t11, V.ref t14]) ++ [V.ref t17, V.ref t20]) := .cons p0 (.cons p1 (.cons p2 (.cons p3 (.cons p4 (.cons p5 (.cons p6 .nil))))))
    refine ⟨_, rfl, l6, rfl, ⟨_, SqL.of el6⟩, fun D hD => lc_list (xs := ((([V.ref t2, V.ref t5] ++ [V.ref t8]) ++ [V.ref t11, V.ref t14]) ++ [V.ref t17, V.ref t20])) (fun i H' => ∃ acc, H' D = some (.lst acc) ∧ acc.length = i ∧ Same G6 H' ∧ Paired (RowAt H' v) (([C 0, C 1, C 2, C 3, C 4, C 5, C 6] : List Addr).take i) acc) ?_ ?_ ?_ ?_⟩
    · exact ⟨[], upd_same, rfl, Ab.same_up hD, .nil⟩
    · intro i H' _ ⟨acc, _, _, s, _⟩
      exact SqL.of (s _ _ el6)
    · intro i x H' hx ⟨acc, hD', hlen, s, pr⟩
      obtain ⟨Ci, hCi, t, a, b, bm, nw, rfl, ht, ea, eb, ex, no⟩ := paired_get PP hx
      have ht' := s _ _ ht
      have ea' := ea.same s
      have eb' := eb.same s
      have hi : i < 7 := by
        have := (List.getElem?_eq_some_iff.mp hx).1
        simpa using this
      refine ⟨t, _, rfl, SqT.of ht', rfl, .ref a, _, rfl, .ref b, _, rfl, rfl, rfl, ?_⟩
      unfold tYes
      simp only [↓reduceIte]
      refine ⟨_, rfl, _, rfl, _, rfl, a, Ci, v, bm, nw, rfl, ea', ex, no, _, rfl, b, Ci, v, bm, nw, rfl, eb', ex, no, sz (by simp), fun t2 H2 f2 s2 e2 => ?_⟩
      have hD2 := s2 _ _ hD'
      refine ⟨acc, hD2, szl (by omega), acc ++ [.ref t2], upd_same, by simp [hlen], ?_, ?_⟩
      · intro b' o q
        have n1 : b' ≠ D := ne_of_none q hD
        rw [upd_ne n1]
        exact s2 _ _ (s _ _ q)
      · rw [take_more hCi]
        have u := ButL.upd (ys := acc ++ [.ref t2]) hD2
        exact paired_app (paired_map pr fun c x r => (r.same s2).but u) (.cons ⟨t2, a, b, "value", rfl, u.get e2 (fun _ z => nomatch z), ExA_but u (ea'.same s2), ExA_but u (eb'.same s2)⟩ .nil)
    · intro H' ⟨acc, hD', hlen, s, pr⟩
      exact k D acc H' (allG6.trans s) (Same.free allG6 hD) hD' pr
end
end K00

set_option Elab.async false
set_option linter.all false
set_option maxRecDepth 100000
set_option maxHeartbeats 8000000
namespace K00
open PySem L2 Pen RG Dat Exn
/-- all but what stands at l stays -/
def NotL (l : Addr) (H H1 : Hp) : Prop := ∀ b o, b ≠ l → H b = some o → H1 b = some o
theorem NotL.refl (l : Addr) (H : Hp) : NotL l H H := fun _ _ _ q => q
theorem NotL.same {l : Addr} {H H1 H2 : Hp} (n : NotL l H H1) (s : Same H1 H2) : NotL l H H2 := fun b o hb q => s _ _ (n b o hb q)
theorem NotL.upd {l : Addr} {H H1 : Hp} {o : HO} (n : NotL l H H1) : NotL l H (upd H1 l o) := fun b u hb q => by rw [upd_ne hb]; exact n b u hb q
theorem NotL.all {l : Addr} {H H1 : Hp} (n : NotL l H H1) (h : H l = none) : Same H H1 := fun b o q => n b o (ne_of_none q h) q
theorem NotL.get {l b : Addr} {H H1 : Hp} {o : HO} {xs : List V} (s : NotL l H H1) (hl : H l = some (.lst xs)) (h : H b = some o) (n : ∀ xs, o ≠ .lst xs) : H1 b = some o := by
  refine s b o ?_ h
  intro e
  rw [e, hl] at h
  exact n xs (Option.some.inj h).symm
theorem ExA_not {l : Addr} {H H1 : Hp} {a C : Addr} {f : Str} {y : V} {xs : List V} (s : NotL l H H1) (hl : H l = some (.lst xs)) (e : ExA H a C f y) : ExA H1 a C f y := by
  obtain ⟨dx, h1, h2⟩ := e
  exact ⟨dx, s.get hl h1 exo_lst, s.get hl h2 exd_lst⟩
/-- between two rows -/
def StO (l : Addr) (v : V) (H : Hp) (Cs : List Addr) (n : Nat) (σ : L2.St) (G : Hp) : Prop := σ[0]? = some (some v) ∧ σ[1]? = some (some (.ref l)) ∧ σ.length = 4 ∧ ∃ acc, G l = some (.lst acc) ∧ acc.length = n ∧ NotL l H G ∧ Paired (RowAt G v) Cs acc
/-- one row more -/
theorem row_app {H H2 : Hp} {l t a b C : Addr} {f : Str} {v : V} {Cs : List Addr} {acc : List V} (pr : Paired (RowAt H v) Cs acc) (hl : H2 l = some (.lst acc)) (s : Same H H2) (e : H2 t = some (.tup [.ref a, .ref b, v, v])) (ea : ExA H2 a C f v) (eb : ExA H2 b C f v) :
    Paired (RowAt (upd H2 l (.lst (acc ++ [.ref t]))) v) (Cs ++ [C]) (acc ++ [.ref t]) := by
  have u := ButL.upd (ys := acc ++ [.ref t]) hl
  exact paired_app (paired_map pr fun c x r => (r.same s).but u) (.cons ⟨t, a, b, f, rfl, u.get e (fun _ z => nomatch z), ExA_but u ea, ExA_but u eb⟩ .nil)
section
variable {P : Program} {w : World} {K : PySem.W.Frag} {mg : Str → Option Value} {base : Heap} {C : Nat → Addr}
theorem scOth : FnScope ["_law_odd_here", "_law_found", "_law_one", "_law_other"] ["_law_odd_here"] (defScope sOth) := ⟨rfl, rfl, rfl, by decide +kernel, rfl, by decide +kernel, by decide +kernel⟩
theorem ok_oth {f : Addr} {fd : FuncData} (F : Fun K "_law_others" "_law_others" sOth f fd) (A : AllC P w K mg base C) : FnOk P w K mg base CX0 3 f fd ["_law_odd_here"] (spOth C) := by
  refine F.ok scOth (fun vs H Q E h => ?_) (fun cdv A' outer s H vs Q E hr h => ?_)
  · obtain ⟨v, rfl, _⟩ := h
    rfl
  · obtain ⟨v, rfl, k⟩ := h
    obtain ⟨fI7, fd7, i7, j7, g7, b7, k7⟩ := A.t7.made
    obtain ⟨fI8, fd8, i8, j8, g8, b8, k8⟩ := A.t8.made
    obtain ⟨fI9, fd9, i9, j9, g9, b9, k9⟩ := A.t9.made
    obtain ⟨fI10, fd10, i10, j10, g10, b10, k10⟩ := A.t10.made
    obtain ⟨fI11, fd11, i11, j11, g11, b11, k11⟩ := A.t11.made
    obtain ⟨fI12, fd12, i12, j12, g12, b12, k12⟩ := A.t12.made
    obtain ⟨fI13, fd13, i13, j13, g13, b13, k13⟩ := A.t13.made
    obtain ⟨fI14, fd14, i14, j14, g14, b14, k14⟩ := A.t14.made
    obtain ⟨fI15, fd15, i15, j15, g15, b15, k15⟩ := A.t15.made
    obtain ⟨fI16, fd16, i16, j16, g16, b16, k16⟩ := A.t16.made
    refine ⟨_, (pss_cons (ps_set (i := 1) scOth.nd rfl (Or.inl rfl) (Ab.pe_lstA pa_nil))
      (pss_cons (ps_for PassesOwn.never rfl (pi_list (Ab.pe_lstA (pa_cons (Ab.pe_tupA (pa_cons (pe_newx A.t7.fb A.t7.ex i7 j7 g7 (hr.mono (by decide)) b7 rfl A.t7.named (pa_cons (pv 0) pa_nil)) (pa_cons (pe_newk A.t7.fb A.t7.ex i7 j7 g7 (hr.mono (by decide)) k7 rfl A.t7.named (pk_cons (pv 0) pk_nil)) pa_nil))) (pa_cons (Ab.pe_tupA (pa_cons (pe_newx A.t8.fb A.t8.ex i8 j8 g8 (hr.mono (by decide)) b8 rfl A.t8.named (pa_cons (pv 0) pa_nil)) (pa_cons (pe_newk A.t8.fb A.t8.ex i8 j8 g8 (hr.mono (by decide)) k8 rfl A.t8.named (pk_cons (pv 0) pk_nil)) pa_nil))) pa_nil)))) (pg_tup (by rfl) (pgs_cons (pg_name (i := 2) scOth.nd rfl (Or.inl rfl)) (pgs_cons (pg_name (i := 3) scOth.nd rfl (Or.inl rfl)) pgs_nil))) (pss_one (ps_expr (pe_bm PySem.F.plainAttrs_list PySem.F.slot_list_append PySem.F.type_list_append mt_append (pv 1) (pa_cons (Ab.pe_tupA (pa_cons (pv 2) (pa_cons (pv 3) (pa_cons (pe_fldx (pv 2) rfl) (pa_cons (pe_fldx (pv 3) rfl) pa_nil))))) pa_nil)))))
      (pss_cons (ps_par (i := 2) (j := 3) (by rfl) scOth.nd rfl rfl (by decide) rfl rfl (pa_cons (pe_newx A.t9.fb A.t9.ex i9 j9 g9 (hr.mono (by decide)) b9 rfl A.t9.named (pa_cons (pv 0) pa_nil)) (pa_cons (pe_newk A.t9.fb A.t9.ex i9 j9 g9 (hr.mono (by decide)) k9 rfl A.t9.named (pk_cons (pv 0) pk_nil)) pa_nil)) (by rfl))
      (pss_cons (ps_expr (pe_bm PySem.F.plainAttrs_list PySem.F.slot_list_append PySem.F.type_list_append mt_append (pv 1) (pa_cons (Ab.pe_tupA (pa_cons (pv 2) (pa_cons (pv 3) (pa_cons (pe_fldx (pv 2) rfl) (pa_cons (pe_fldx (pv 3) rfl) pa_nil))))) pa_nil)))
      (pss_cons (ps_par (i := 2) (j := 3) (by rfl) scOth.nd rfl rfl (by decide) rfl rfl (pa_cons (pe_newx A.t10.fb A.t10.ex i10 j10 g10 (hr.mono (by decide)) b10 rfl A.t10.named (pa_cons (pv 0) pa_nil)) (pa_cons (pe_newk A.t10.fb A.t10.ex i10 j10 g10 (hr.mono (by decide)) k10 rfl A.t10.named (pk_cons (pv 0) pk_nil)) pa_nil)) (by rfl))
      (pss_cons (ps_expr (pe_bm PySem.F.plainAttrs_list PySem.F.slot_list_append PySem.F.type_list_append mt_append (pv 1) (pa_cons (Ab.pe_tupA (pa_cons (pv 2) (pa_cons (pv 3) (pa_cons (pe_fldx (pv 2) rfl) (pa_cons (pe_fldx (pv 3) rfl) pa_nil))))) pa_nil)))
      (pss_cons (ps_par (i := 2) (j := 3) (by rfl) scOth.nd rfl rfl (by decide) rfl rfl (pa_cons (pe_newx A.t11.fb A.t11.ex i11 j11 g11 (hr.mono (by decide)) b11 rfl A.t11.named (pa_cons (pv 0) pa_nil)) (pa_cons (pe_newk A.t11.fb A.t11.ex i11 j11 g11 (hr.mono (by decide)) k11 rfl A.t11.named (pk_cons (pv 0) pk_nil)) pa_nil)) (by rfl))
      (pss_cons (ps_expr (pe_bm PySem.F.plainAttrs_list PySem.F.slot_list_append PySem.F.type_list_append mt_append (pv 1) (pa_cons (Ab.pe_tupA (pa_cons (pv 2) (pa_cons (pv 3) (pa_cons (pe_fldx (pv 2) rfl) (pa_cons (pe_fldx (pv 3) rfl) pa_nil))))) pa_nil)))
      (pss_cons (ps_par (i := 2) (j := 3) (by rfl) scOth.nd rfl rfl (by decide) rfl rfl (pa_cons (pe_newx A.t12.fb A.t12.ex i12 j12 g12 (hr.mono (by decide)) b12 rfl A.t12.named (pa_cons (pv 0) pa_nil)) (pa_cons (pe_newk A.t12.fb A.t12.ex i12 j12 g12 (hr.mono (by decide)) k12 rfl A.t12.named (pk_cons (pv 0) pk_nil)) pa_nil)) (by rfl))
      (pss_cons (ps_expr (pe_bm PySem.F.plainAttrs_list PySem.F.slot_list_append PySem.F.type_list_append mt_append (pv 1) (pa_cons (Ab.pe_tupA (pa_cons (pv 2) (pa_cons (pv 3) (pa_cons (pe_fldx (pv 2) rfl) (pa_cons (pe_fldx (pv 3) rfl) pa_nil))))) pa_nil)))
      (pss_cons (ps_par (i := 2) (j := 3) (by rfl) scOth.nd rfl rfl (by decide) rfl rfl (pa_cons (pe_newx A.t13.fb A.t13.ex i13 j13 g13 (hr.mono (by decide)) b13 rfl A.t13.named (pa_cons (pv 0) pa_nil)) (pa_cons (pe_newk A.t13.fb A.t13.ex i13 j13 g13 (hr.mono (by decide)) k13 rfl A.t13.named (pk_cons (pv 0) pk_nil)) pa_nil)) (by rfl))
      (pss_cons (ps_expr (pe_bm PySem.F.plainAttrs_list PySem.F.slot_list_append PySem.F.type_list_append mt_append (pv 1) (pa_cons (Ab.pe_tupA (pa_cons (pv 2) (pa_cons (pv 3) (pa_cons (pe_fldx (pv 2) rfl) (pa_cons (pe_fldx (pv 3) rfl) pa_nil))))) pa_nil)))
      (pss_cons (ps_par (i := 2) (j := 3) (by rfl) scOth.nd rfl rfl (by decide) rfl rfl (pa_cons (pe_newx A.t14.fb A.t14.ex i14 j14 g14 (hr.mono (by decide)) b14 rfl A.t14.named (pa_cons (pv 0) pa_nil)) (pa_cons (pe_newk A.t14.fb A.t14.ex i14 j14 g14 (hr.mono (by decide)) k14 rfl A.t14.named (pk_cons (pv 0) pk_nil)) pa_nil)) (by rfl))
      (pss_cons (ps_expr (pe_bm PySem.F.plainAttrs_list PySem.F.slot_list_append PySem.F.type_list_append mt_append (pv 1) (pa_cons (Ab.pe_tupA (pa_cons (pv 2) (pa_cons (pv 3) (pa_cons (pe_fldx (pv 2) rfl) (pa_cons (pe_fldx (pv 3) rfl) pa_nil))))) pa_nil)))
      (pss_cons (ps_par (i := 2) (j := 3) (by rfl) scOth.nd rfl rfl (by decide) rfl rfl (pa_cons (pe_newx A.t15.fb A.t15.ex i15 j15 g15 (hr.mono (by decide)) b15 rfl A.t15.named (pa_cons (pv 0) pa_nil)) (pa_cons (pe_newk A.t15.fb A.t15.ex i15 j15 g15 (hr.mono (by decide)) k15 rfl A.t15.named (pk_cons (pv 0) pk_nil)) pa_nil)) (by rfl))
      (pss_cons (ps_expr (pe_bm PySem.F.plainAttrs_list PySem.F.slot_list_append PySem.F.type_list_append mt_append (pv 1) (pa_cons (Ab.pe_tupA (pa_cons (pv 2) (pa_cons (pv 3) (pa_cons (pe_fldx (pv 2) rfl) (pa_cons (pe_fldx (pv 3) rfl) pa_nil))))) pa_nil)))
      (pss_cons (ps_par (i := 2) (j := 3) (by rfl) scOth.nd rfl rfl (by decide) rfl rfl (pa_cons (pe_newx A.t16.fb A.t16.ex i16 j16 g16 (hr.mono (by decide)) b16 rfl A.t16.named (pa_cons (pv 0) pa_nil)) (pa_cons (pe_newk A.t16.fb A.t16.ex i16 j16 g16 (hr.mono (by decide)) k16 rfl A.t16.named (pk_cons (pv 0) pk_nil)) pa_nil)) (by rfl))
      (pss_cons (ps_expr (pe_bm PySem.F.plainAttrs_list PySem.F.slot_list_append PySem.F.type_list_append mt_append (pv 1) (pa_cons (Ab.pe_tupA (pa_cons (pv 2) (pa_cons (pv 3) (pa_cons (pe_fldx (pv 2) rfl) (pa_cons (pe_fldx (pv 3) rfl) pa_nil))))) pa_nil)))
      (pss_one (ps_ret (pv 1))))))))))))))))))))), ?_⟩
    refine ⟨sz (by simp), fun l G0 fl nl sl el => ?_⟩
    have allG0 := (Same.refl H).trans sl
    refine ⟨_, rfl, _, rfl, fun a0 A0 fa0 sa0 xa0 => ?_⟩
    replace el := sa0 _ _ el
    have allA0 := allG0.trans sa0
    refine ⟨_, rfl, _, rfl, fun a1 A1 fa1 sa1 xa1 => ?_⟩
    replace el := sa1 _ _ el
    have allA1 := allA0.trans sa1
    refine ⟨sz (by simp), fun t2 H2 f2 s2 e2 => ?_⟩
    replace el := s2 _ _ el
    have allH2 := allA1.trans s2
    have p7 : PairAt K H2 v "reason" (C 7) (.ref t2) := ⟨t2, a0, a1, _, _, rfl, e2, xa0.same (sa1.trans s2), xa1.same s2, A.t7.ex, A.t7.no⟩
    refine ⟨_, rfl, _, rfl, fun a3 A3 fa3 sa3 xa3 => ?_⟩
    replace p7 := p7.same sa3
    replace el := sa3 _ _ el
    have allA3 := allH2.trans sa3
    refine ⟨_, rfl, _, rfl, fun a4 A4 fa4 sa4 xa4 => ?_⟩
    replace p7 := p7.same sa4
    replace el := sa4 _ _ el
    have allA4 := allA3.trans sa4
    refine ⟨sz (by simp), fun t5 H5 f5 s5 e5 => ?_⟩
    replace p7 := p7.same s5
    replace el := s5 _ _ el
    have allH5 := allA4.trans s5
    have p8 : PairAt K H5 v "reason" (C 8) (.ref t5) := ⟨t5, a3, a4, _, _, rfl, e5, xa3.same (sa4.trans s5), xa4.same s5, A.t8.ex, A.t8.no⟩
    refine ⟨sz (by simp), fun l1 G1 fl1 nl1 sl1 el1 => ?_⟩
    have nn : l1 ≠ l := (ne_of_none el fl1).symm
    replace p7 := p7.same sl1
    replace p8 := p8.same sl1
    replace el := sl1 _ _ el
    have allG1 := allH5.trans sl1
    refine ⟨l1, rfl, ⟨_, SqL.of el1⟩, ?_⟩
    have PP : Paired (PairAt K G1 v "reason") [C 7, C 8] [V.ref t2, V.ref t5] := .cons p7 (.cons p8 .nil)
    refine for_list (xs := [V.ref t2, V.ref t5]) (fun i σ H' => StO l v G1 (([C 7, C 8] : List Addr).take i) i σ H') ?_ ?_ ?_ ?_
    · exact ⟨rfl, rfl, rfl, [], el, rfl, .refl _ _, .nil⟩
    · intro i σ H' _ ⟨_, _, _, acc, _, _, s, _⟩
      exact SqL.of (s _ _ nn el1)
    · intro i x σ H' hx ⟨v0, v1, v2, acc, hD', hlen, s, pr⟩
      obtain ⟨Ci, hCi, t, a, b, bm, nw, rfl, ht, ea, eb, ex, no⟩ := paired_get PP hx
      have ht' := s.get el ht (fun _ z => nomatch z)
      have ea' := ExA_not s el ea
      have eb' := ExA_not s el eb
      have hi : i < 2 := by
        have := (List.getElem?_eq_some_iff.mp hx).1
        simpa using this
      refine ⟨t, _, rfl, SqT.of ht', rfl, .ref a, _, rfl, .ref b, _, rfl, rfl, ?_⟩
      have s0 : ((σ.set 2 (some (.ref a))).set 3 (some (.ref b)))[0]? = some (some v) := by simp [v0]
      have s1 : ((σ.set 2 (some (.ref a))).set 3 (some (.ref b)))[1]? = some (some (.ref l)) := by simp [v1]
      have s2 : ((σ.set 2 (some (.ref a))).set 3 (some (.ref b)))[2]? = some (some (.ref a)) := by simp [v2]
      have s3 : ((σ.set 2 (some (.ref a))).set 3 (some (.ref b)))[3]? = some (some (.ref b)) := by simp [v2]
      refine ⟨_, s1, .inl ⟨rfl, _, SqL.of hD'⟩, _, s2, _, s3, _, s2, a, Ci, v, bm, nw, rfl, ea', ex, no, _, s3, b, Ci, v, bm, nw, rfl, eb', ex, no, sz (by simp), fun t2 H2 f2 q2 e2 => ?_⟩
      have hD2 := q2 _ _ hD'
      refine ⟨l, acc, _, rfl, rfl, hD2, szl (by omega), s0, s1, by simp [v2], acc ++ [.ref t2], upd_same, by simp [hlen], (s.same q2).upd, ?_⟩
      rw [take_more hCi]
      exact row_app pr hD2 q2 e2 (ea'.same q2) (eb'.same q2)
    rintro σ8 G8 ⟨v0, v1, v2, acc, hD, hlen, s, pr⟩
    have n8 : NotL l H G8 := fun b o hb q => s b o hb (allG1 _ _ q)
    have st8 : StO l v H [C 7, C 8] 2 σ8 G8 := ⟨v0, v1, v2, acc, hD, hlen, n8, pr⟩
    clear v0 v1 v2 hD hlen s pr
    obtain ⟨v0, v1, v2, acc, hD, hlen, nn9, pr⟩ := st8
    refine ⟨_, v0, _, rfl, fun a A1 fa sa xa => ⟨_, v0, _, rfl, fun b A2 fb sb xb => ⟨_, _, rfl, ?_⟩⟩⟩
    have s0 : ((σ8.set 2 (some (.ref a))).set 3 (some (.ref b)))[0]? = some (some v) := by simp [v0]
    have s1 : ((σ8.set 2 (some (.ref a))).set 3 (some (.ref b)))[1]? = some (some (.ref l)) := by simp [v1]
    have s2 : ((σ8.set 2 (some (.ref a))).set 3 (some (.ref b)))[2]? = some (some (.ref a)) := by simp [v2]
    have s3 : ((σ8.set 2 (some (.ref a))).set 3 (some (.ref b)))[3]? = some (some (.ref b)) := by simp [v2]
    have s4 : ((σ8.set 2 (some (.ref a))).set 3 (some (.ref b))).length = 4 := by simp [v2]
    generalize ((σ8.set 2 (some (.ref a))).set 3 (some (.ref b))) = σ9 at s0 s1 s2 s3 s4 ⊢
    replace xa := xa.same sb
    refine ⟨_, s1, .inl ⟨rfl, _, SqL.of (sb _ _ (sa _ _ hD))⟩, _, s2, _, s3, _, s2, a, _, v, _, _, rfl, xa, A.t9.ex, A.t9.no, _, s3, b, _, v, _, _, rfl, xb, A.t9.ex, A.t9.no, sz (by simp), fun t A3 ft q2 e2 => ?_⟩
    have ss := (sa.trans sb).trans q2
    have hD2 := ss _ _ hD
    refine ⟨l, acc, _, rfl, rfl, hD2, szl (by omega), ?_⟩
    have st9 : StO l v H [C 7, C 8, C 9] 3 σ9 (upd A3 l (.lst (acc ++ [.ref t]))) := ⟨s0, s1, s4, _, upd_same, by simp [hlen], (nn9.same ss).upd, row_app pr hD2 ss e2 (xa.same q2) (xb.same q2)⟩
    generalize upd A3 l (.lst (acc ++ [.ref t])) = G9 at st9 ⊢
    clear v0 v1 v2 hD hlen pr sa sb q2 ss hD2 xa xb e2
    obtain ⟨v0, v1, v2, acc, hD, hlen, nn10, pr⟩ := st9
    refine ⟨_, v0, _, rfl, fun a A1 fa sa xa => ⟨_, v0, _, rfl, fun b A2 fb sb xb => ⟨_, _, rfl, ?_⟩⟩⟩
    have s0 : ((σ9.set 2 (some (.ref a))).set 3 (some (.ref b)))[0]? = some (some v) := by simp [v0]
    have s1 : ((σ9.set 2 (some (.ref a))).set 3 (some (.ref b)))[1]? = some (some (.ref l)) := by simp [v1]
    have s2 : ((σ9.set 2 (some (.ref a))).set 3 (some (.ref b)))[2]? = some (some (.ref a)) := by simp [v2]
    have s3 : ((σ9.set 2 (some (.ref a))).set 3 (some (.ref b)))[3]? = some (some (.ref b)) := by simp [v2]
    have s4 : ((σ9.set 2 (some (.ref a))).set 3 (some (.ref b))).length = 4 := by simp [v2]
    generalize ((σ9.set 2 (some (.ref a))).set 3 (some (.ref b))) = σ10 at s0 s1 s2 s3 s4 ⊢
    replace xa := xa.same sb
    refine ⟨_, s1, .inl ⟨rfl, _, SqL.of (sb _ _ (sa _ _ hD))⟩, _, s2, _, s3, _, s2, a, _, v, _, _, rfl, xa, A.t10.ex, A.t10.no, _, s3, b, _, v, _, _, rfl, xb, A.t10.ex, A.t10.no, sz (by simp), fun t A3 ft q2 e2 => ?_⟩
    have ss := (sa.trans sb).trans q2
    have hD2 := ss _ _ hD
    refine ⟨l, acc, _, rfl, rfl, hD2, szl (by omega), ?_⟩
    have st10 : StO l v H [C 7, C 8, C 9, C 10] 4 σ10 (upd A3 l (.lst (acc ++ [.ref t]))) := ⟨s0, s1, s4, _, upd_same, by simp [hlen], (nn10.same ss).upd, row_app pr hD2 ss e2 (xa.same q2) (xb.same q2)⟩
    generalize upd A3 l (.lst (acc ++ [.ref t])) = G10 at st10 ⊢
    clear v0 v1 v2 hD hlen pr sa sb q2 ss hD2 xa xb e2
    obtain ⟨v0, v1, v2, acc, hD, hlen, nn11, pr⟩ := st10
    refine ⟨_, v0, _, rfl, fun a A1 fa sa xa => ⟨_, v0, _, rfl, fun b A2 fb sb xb => ⟨_, _, rfl, ?_⟩⟩⟩
    have s0 : ((σ10.set 2 (some (.ref a))).set 3 (some (.ref b)))[0]? = some (some v) := by simp [v0]
    have s1 : ((σ10.set 2 (some (.ref a))).set 3 (some (.ref b)))[1]? = some (some (.ref l)) := by simp [v1]
    have s2 : ((σ10.set 2 (some (.ref a))).set 3 (some (.ref b)))[2]? = some (some (.ref a)) := by simp [v2]
    have s3 : ((σ10.set 2 (some (.ref a))).set 3 (some (.ref b)))[3]? = some (some (.ref b)) := by simp [v2]
    have s4 : ((σ10.set 2 (some (.ref a))).set 3 (some (.ref b))).length = 4 := by simp [v2]
    generalize ((σ10.set 2 (some (.ref a))).set 3 (some (.ref b))) = σ11 at s0 s1 s2 s3 s4 ⊢
    replace xa := xa.same sb
    refine ⟨_, s1, .inl ⟨rfl, _, SqL.of (sb _ _ (sa _ _ hD))⟩, _, s2, _, s3, _, s2, a, _, v, _, _, rfl, xa, A.t11.ex, A.t11.no, _, s3, b, _, v, _, _, rfl, xb, A.t11.ex, A.t11.no, sz (by simp), fun t A3 ft q2 e2 => ?_⟩
    have ss := (sa.trans sb).trans q2
    have hD2 := ss _ _ hD
    refine ⟨l, acc, _, rfl, rfl, hD2, szl (by omega), ?_⟩
    have st11 : StO l v H [C 7, C 8, C 9, C 10, C 11] 5 σ11 (upd A3 l (.lst (acc ++ [.ref t]))) := ⟨s0, s1, s4, _, upd_same, by simp [hlen], (nn11.same ss).upd, row_app pr hD2 ss e2 (xa.same q2) (xb.same q2)⟩
    generalize upd A3 l (.lst (acc ++ [.ref t])) = G11 at st11 ⊢
    clear v0 v1 v2 hD hlen pr sa sb q2 ss hD2 xa xb e2
    obtain ⟨v0, v1, v2, acc, hD, hlen, nn12, pr⟩ := st11
    refine ⟨_, v0, _, rfl, fun a A1 fa sa xa => ⟨_, v0, _, rfl, fun b A2 fb sb xb => ⟨_, _, rfl, ?_⟩⟩⟩
    have s0 : ((σ11.set 2 (some (.ref a))).set 3 (some (.ref b)))[0]? = some (some v) := by simp [v0]
    have s1 : ((σ11.set 2 (some (.ref a))).set 3 (some (.ref b)))[1]? = some (some (.ref l)) := by simp [v1]
    have s2 : ((σ11.set 2 (some (.ref a))).set 3 (some (.ref b)))[2]? = some (some (.ref a)) := by simp [v2]
    have s3 : ((σ11.set 2 (some (.ref a))).set 3 (some (.ref b)))[3]? = some (some (.ref b)) := by simp [v2]
    have s4 : ((σ11.set 2 (some (.ref a))).set 3 (some (.ref b))).length = 4 := by simp [v2]
    generalize ((σ11.set 2 (some (.ref a))).set 3 (some (.ref b))) = σ12 at s0 s1 s2 s3 s4 ⊢
    replace xa := xa.same sb
    refine ⟨_, s1, .inl ⟨rfl, _, SqL.of (sb _ _ (sa _ _ hD))⟩, _, s2, _, s3, _, s2, a, _, v, _, _, rfl, xa, A.t12.ex, A.t12.no, _, s3, b, _, v, _, _, rfl, xb, A.t12.ex, A.t12.no, sz (by simp), fun t A3 ft q2 e2 => ?_⟩
    have ss := (sa.trans sb).trans q2
    have hD2 := ss _ _ hD
    refine ⟨l, acc, _, rfl, rfl, hD2, szl (by omega), ?_⟩
    have st12 : StO l v H [C 7, C 8, C 9, C 10, C 11, C 12] 6 σ12 (upd A3 l (.lst (acc ++ [.ref t]))) := ⟨s0, s1, s4, _, upd_same, by simp [hlen], (nn12.same ss).upd, row_app pr hD2 ss e2 (xa.same q2) (xb.same q2)⟩
    generalize upd A3 l (.lst (acc ++ [.ref t])) = G12 at st12 ⊢
    clear v0 v1 v2 hD hlen pr sa sb q2 ss hD2 xa xb e2
    obtain ⟨v0, v1, v2, acc, hD, hlen, nn13, pr⟩ := st12
    refine ⟨_, v0, _, rfl, fun a A1 fa sa xa => ⟨_, v0, _, rfl, fun b A2 fb sb xb => ⟨_, _, rfl, ?_⟩⟩⟩
    have s0 : ((σ12.set 2 (some (.ref a))).set 3 (some (.ref b)))[0]? = some (some v) := by simp [v0]
    have s1 : ((σ12.set 2 (some (.ref a))).set 3 (some (.ref b)))[1]? = some (some (.ref l)) := by simp [v1]
    have s2 : ((σ12.set 2 (some (.ref a))).set 3 (some (.ref b)))[2]? = some (some (.ref a)) := by simp [v2]
    have s3 : ((σ12.set 2 (some (.ref a))).set 3 (some (.ref b)))[3]? = some (some (.ref b)) := by simp [v2]
    have s4 : ((σ12.set 2 (some (.ref a))).set 3 (some (.ref b))).length = 4 := by simp [v2]
    generalize ((σ12.set 2 (some (.ref a))).set 3 (some (.ref b))) = σ13 at s0 s1 s2 s3 s4 ⊢
    replace xa := xa.same sb
    refine ⟨_, s1, .inl ⟨rfl, _, SqL.of (sb _ _ (sa _ _ hD))⟩, _, s2, _, s3, _, s2, a, _, v, _, _, rfl, xa, A.t13.ex, A.t13.no, _, s3, b, _, v, _, _, rfl, xb, A.t13.ex, A.t13.no, sz (by simp), fun t A3 ft q2 e2 => ?_⟩
    have ss := (sa.trans sb).trans q2
    have hD2 := ss _ _ hD
    refine ⟨l, acc, _, rfl, rfl, hD2, szl (by omega), ?_⟩
    have st13 : StO l v H [C 7, C 8, C 9, C 10, C 11, C 12, C 13] 7 σ13 (upd A3 l (.lst (acc ++ [.ref t]))) := ⟨s0, s1, s4, _, upd_same, by simp [hlen], (nn13.same ss).upd, row_app pr hD2 ss e2 (xa.same q2) (xb.same q2)⟩
    generalize upd A3 l (.lst (acc ++ [.ref t])) = G13 at st13 ⊢
    clear v0 v1 v2 hD hlen pr sa sb q2 ss hD2 xa xb e2
    obtain ⟨v0, v1, v2, acc, hD, hlen, nn14, pr⟩ := st13
    refine ⟨_, v0, _, rfl, fun a A1 fa sa xa => ⟨_, v0, _, rfl, fun b A2 fb sb xb => ⟨_, _, rfl, ?_⟩⟩⟩
    have s0 : ((σ13.set 2 (some (.ref a))).set 3 (some (.ref b)))[0]? = some (some v) := by simp [v0]
    have s1 : ((σ13.set 2 (some (.ref a))).set 3 (some (.ref b)))[1]? = some (some (.ref l)) := by simp [v1]
    have s2 : ((σ13.set 2 (some (.ref a))).set 3 (some (.ref b)))[2]? = some (some (.ref a)) := by simp [v2]
    have s3 : ((σ13.set 2 (some (.ref a))).set 3 (some (.ref b)))[3]? = some (some (.ref b)) := by simp [v2]
    have s4 : ((σ13.set 2 (some (.ref a))).set 3 (some (.ref b))).length = 4 := by simp [v2]
    generalize ((σ13.set 2 (some (.ref a))).set 3 (some (.ref b))) = σ14 at s0 s1 s2 s3 s4 ⊢
    replace xa := xa.same sb
    refine ⟨_, s1, .inl ⟨rfl, _, SqL.of (sb _ _ (sa _ _ hD))⟩, _, s2, _, s3, _, s2, a, _, v, _, _, rfl, xa, A.t14.ex, A.t14.no, _, s3, b, _, v, _, _, rfl, xb, A.t14.ex, A.t14.no, sz (by simp), fun t A3 ft q2 e2 => ?_⟩
    have ss := (sa.trans sb).trans q2
    have hD2 := ss _ _ hD
    refine ⟨l, acc, _, rfl, rfl, hD2, szl (by omega), ?_⟩
    have st14 : StO l v H [C 7, C 8, C 9, C 10, C 11, C 12, C 13, C 14] 8 σ14 (upd A3 l (.lst (acc ++ [.ref t]))) := ⟨s0, s1, s4, _, upd_same, by simp [hlen], (nn14.same ss).upd, row_app pr hD2 ss e2 (xa.same q2) (xb.same q2)⟩
    generalize upd A3 l (.lst (acc ++ [.ref t])) = G14 at st14 ⊢
    clear v0 v1 v2 hD hlen pr sa sb q2 ss hD2 xa xb e2
    obtain ⟨v0, v1, v2, acc, hD, hlen, nn15, pr⟩ := st14
    refine ⟨_, v0, _, rfl, fun a A1 fa sa xa => ⟨_, v0, _, rfl, fun b A2 fb sb xb => ⟨_, _, rfl, ?_⟩⟩⟩
    have s0 : ((σ14.set 2 (some (.ref a))).set 3 (some (.ref b)))[0]? = some (some v) := by simp [v0]
    have s1 : ((σ14.set 2 (some (.ref a))).set 3 (some (.ref b)))[1]? = some (some (.ref l)) := by simp [v1]
    have s2 : ((σ14.set 2 (some (.ref a))).set 3 (some (.ref b)))[2]? = some (some (.ref a)) := by simp [v2]
    have s3 : ((σ14.set 2 (some (.ref a))).set 3 (some (.ref b)))[3]? = some (some (.ref b)) := by simp [v2]
    have s4 : ((σ14.set 2 (some (.ref a))).set 3 (some (.ref b))).length = 4 := by simp [v2]
    generalize ((σ14.set 2 (some (.ref a))).set 3 (some (.ref b))) = σ15 at s0 s1 s2 s3 s4 ⊢
    replace xa := xa.same sb
    refine ⟨_, s1, .inl ⟨rfl, _, SqL.of (sb _ _ (sa _ _ hD))⟩, _, s2, _, s3, _, s2, a, _, v, _, _, rfl, xa, A.t15.ex, A.t15.no, _, s3, b, _, v, _, _, rfl, xb, A.t15.ex, A.t15.no, sz (by simp), fun t A3 ft q2 e2 => ?_⟩
    have ss := (sa.trans sb).trans q2
    have hD2 := ss _ _ hD
    refine ⟨l, acc, _, rfl, rfl, hD2, szl (by omega), ?_⟩
    have st15 : StO l v H [C 7, C 8, C 9, C 10, C 11, C 12, C 13, C 14, C 15] 9 σ15 (upd A3 l (.lst (acc ++ [.ref t]))) := ⟨s0, s1, s4, _, upd_same, by simp [hlen], (nn15.same ss).upd, row_app pr hD2 ss e2 (xa.same q2) (xb.same q2)⟩
    generalize upd A3 l (.lst (acc ++ [.ref t])) = G15 at st15 ⊢
    clear v0 v1 v2 hD hlen pr sa sb q2 ss hD2 xa xb e2
    obtain ⟨v0, v1, v2, acc, hD, hlen, nn16, pr⟩ := st15
    refine ⟨_, v0, _, rfl, fun a A1 fa sa xa => ⟨_, v0, _, rfl, fun b A2 fb sb xb => ⟨_, _, rfl, ?_⟩⟩⟩
    have s0 : ((σ15.set 2 (some (.ref a))).set 3 (some (.ref b)))[0]? = some (some v) := by simp [v0]
    have s1 : ((σ15.set 2 (some (.ref a))).set 3 (some (.ref b)))[1]? = some (some (.ref l)) := by simp [v1]
    have s2 : ((σ15.set 2 (some (.ref a))).set 3 (some (.ref b)))[2]? = some (some (.ref a)) := by simp [v2]
    have s3 : ((σ15.set 2 (some (.ref a))).set 3 (some (.ref b)))[3]? = some (some (.ref b)) := by simp [v2]
    have s4 : ((σ15.set 2 (some (.ref a))).set 3 (some (.ref b))).length = 4 := by simp [v2]
    generalize ((σ15.set 2 (some (.ref a))).set 3 (some (.ref b))) = σ16 at s0 s1 s2 s3 s4 ⊢
    replace xa := xa.same sb
    refine ⟨_, s1, .inl ⟨rfl, _, SqL.of (sb _ _ (sa _ _ hD))⟩, _, s2, _, s3, _, s2, a, _, v, _, _, rfl, xa, A.t16.ex, A.t16.no, _, s3, b, _, v, _, _, rfl, xb, A.t16.ex, A.t16.no, sz (by simp), fun t A3 ft q2 e2 => ?_⟩
    have ss := (sa.trans sb).trans q2
    have hD2 := ss _ _ hD
    refine ⟨l, acc, _, rfl, rfl, hD2, szl (by omega), ?_⟩
    have st16 : StO l v H [C 7, C 8, C 9, C 10, C 11, C 12, C 13, C 14, C 15, C 16] 10 σ16 (upd A3 l (.lst (acc ++ [.ref t]))) := ⟨s0, s1, s4, _, upd_same, by simp [hlen], (nn16.same ss).upd, row_app pr hD2 ss e2 (xa.same q2) (xb.same q2)⟩
    generalize upd A3 l (.lst (acc ++ [.ref t])) = G16 at st16 ⊢
    clear v0 v1 v2 hD hlen pr sa sb q2 ss hD2 xa xb e2
    obtain ⟨v0, v1, v2, acc, hD, hlen, nn, pr⟩ := st16
    exact ⟨_, v1, k l acc G16 (nn.all fl) fl hD pr⟩
end
end K00

set_option Elab.async false
set_option linter.all false
set_option maxRecDepth 100000
set_option maxHeartbeats 8000000
namespace K00
open PySem L2 Pen RG Dat Exn
abbrev sBase : Stmt := top 26
abbrev sKinds : Stmt := top 27
def bmOf (k : Nat) : List Value := if k = 16 then oeL else if k = 12 ∨ k = 13 ∨ k = 14 ∨ k = 6 ∨ k = 15 then leL else veL
def bsOf (k : Nat) : Int := if k = 16 then 2 else if k = 12 ∨ k = 13 ∨ k = 14 ∨ k = 6 ∨ k = 15 then 1 else 0
def nmOf (k : Nat) : Str := ([Str.ofString "InvalidHandler", Str.ofString "InvalidRows", Str.ofString "InvalidMessage", Str.ofString "InvalidWay", Str.ofString "InvalidState", Str.ofString "InvalidCount", Str.ofString "NoService", Str.ofString "InvalidService", Str.ofString "InvalidSystem", Str.ofString "NotPlayed", Str.ofString "InvalidTest", Str.ofString "InvalidCut", Str.ofString "NoFact", Str.ofString "NoThing", Str.ofString "NoWord", Str.ofString "OutOfRange", Str.ofString "TooMany", Str.ofString "OtherWorld"] : List Str).getD k Str.empty
structure K18 (K : PySem.W.Frag) (mg : Str → Option Value) (C : Nat → Addr) : Prop where
  ex : ∀ k, k < 18 → ∃ nw, ExC K (C k) (bmOf k) nw
  mro : ∀ k, k < 18 → Mro K (C k) (bmOf k)
  ty : ∀ k, k < 18 → PySem.W.typeIn K (.ref (C k)) = some (.type "type")
  named : ∀ k, k < 18 → mg (nmOf k) = some (.ref (C k))
  inj : ∀ i j, i < 18 → j < 18 → C i = C j → i = j
structure TxtK (mg : Str → Option Value) : Prop where
  isinstance : mg "isinstance" = none
  repr : mg "repr" = none
  range : mg "range" = none
  len : mg "len" = none
  ve : mg "ValueError" = none
  le : mg "LookupError" = none
  oe : mg "OverflowError" = none
theorem plain_bm (k : Nat) (d : Addr) : (bmOf k).contains (.ref d) = false := by
  unfold bmOf
  split
  · exact plain_oe d
  · split
    · exact plain_le d
    · exact plain_ve d
theorem K18.kit {K : PySem.W.Frag} {mg : Str → Option Value} {C : Nat → Addr} (A : K18 K mg C) {k j : Nat} (hk : k < 18) (hj : j < 18) : PySem.W.kitOne K (.ref (C k)) (.ref (C j)) = some (decide (k = j)) := by
  rw [kit_own (A.mro k hk) (A.mro j hj) (A.ty j hj) (plain_bm k)]
  by_cases e : k = j
  · rw [e]
    simp
  · have n : C k ≠ C j := fun z => e (A.inj k j hk hj z)
    rw [decide_eq_false e, decide_eq_false n]
theorem K18.kit5 {K : PySem.W.Frag} {mg : Str → Option Value} {C : Nat → Addr} (A : K18 K mg C) {k : Nat} (hk : k < 18) : PySem.W.kitAny K (.ref (C k)) [.ref (C 12), .ref (C 13), .ref (C 14), .ref (C 6), .ref (C 15)] = some (decide (k = 12 ∨ k = 13 ∨ k = 14 ∨ k = 6 ∨ k = 15)) := by
  simp only [PySem.W.kitAny, A.kit hk (show 12 < 18 by decide), A.kit hk (show 13 < 18 by decide), A.kit hk (show 14 < 18 by decide), A.kit hk (show 6 < 18 by decide), A.kit hk (show 15 < 18 by decide)]
  by_cases h1 : k = 12
  · simp [h1]
  by_cases h2 : k = 13
  · simp [h2]
  by_cases h3 : k = 14
  · simp [h3]
  by_cases h4 : k = 6
  · simp [h4]
  by_cases h5 : k = 15
  · simp [h5]
  simp [h1, h2, h3, h4, h5]
def kindsL (k : Nat) : List V := (List.range 18).map fun j => .bl (decide (k = j))
def spBase (C : Nat → Addr) : Sp := fun vs H Q _ => ∃ a k, vs = [.ref a] ∧ k < 18 ∧ ExO H a (C k) ∧ ∀ H', Same H H' → Q (.int (bsOf k)) H'
def spKinds (C : Nat → Addr) : Sp := fun vs H Q _ => ∃ a k, vs = [.ref a] ∧ k < 18 ∧ ExO H a (C k) ∧ ∀ (l : Addr) (H' : Hp), Same H H' → H l = none → H' l = some (.lst (kindsL k)) → Q (.ref l) H'
section
variable {P : Program} {w : World} {K : PySem.W.Frag} {mg : Str → Option Value} {base : Heap} {C : Nat → Addr}
theorem scBase : FnScope ["_law_one"] ["_law_one"] (defScope sBase) := ⟨rfl, rfl, rfl, by decide +kernel, rfl, by decide +kernel, by decide +kernel⟩
theorem ok_base {f : Addr} {fd : FuncData} (F : Fun K "_law_base" "_law_base" sBase f fd) (T : TxtK mg) (A : K18 K mg C) : FnOk P w K mg base CX0 1 f fd ["_law_one"] (spBase C) := by
  refine F.ok scBase (fun vs H Q E h => ?_) (fun cdv A' outer s H vs Q E hr h => ?_)
  · obtain ⟨a, k, rfl, _⟩ := h
    rfl
  · obtain ⟨a, k, rfl, hk, ea, kk⟩ := h
    obtain ⟨nw, ex⟩ := A.ex k hk
    refine ⟨_, (pss_cons (ps_if (pt_val (pe_callB call_isx (by rfl) T.isinstance (by decide +kernel) (pa_cons (pv 0) (pa_cons (pe_glob (v := V.ref (C 16)) (by rfl) (show mg "TooMany" = some (.ref (C 16)) from A.named 16 (by decide)) rfl) pa_nil)))) (pss_one (ps_ret pe_int)) pss_nil)
      (pss_one (ps_ret (pe_ifExp (pt_val (pe_callB call_isxT (by rfl) T.isinstance (by decide +kernel) (pa_cons (pv 0) (pa_cons (Ab.pe_tupA (pa_cons (pe_glob (v := V.ref (C 12)) (by rfl) (show mg "NoFact" = some (.ref (C 12)) from A.named 12 (by decide)) rfl) (pa_cons (pe_glob (v := V.ref (C 13)) (by rfl) (show mg "NoThing" = some (.ref (C 13)) from A.named 13 (by decide)) rfl) (pa_cons (pe_glob (v := V.ref (C 14)) (by rfl) (show mg "NoWord" = some (.ref (C 14)) from A.named 14 (by decide)) rfl) (pa_cons (pe_glob (v := V.ref (C 6)) (by rfl) (show mg "NoService" = some (.ref (C 6)) from A.named 6 (by decide)) rfl) (pa_cons (pe_glob (v := V.ref (C 15)) (by rfl) (show mg "OutOfRange" = some (.ref (C 15)) from A.named 15 (by decide)) rfl) pa_nil)))))) pa_nil)))) pe_int pe_int)))), ?_⟩
    refine ⟨_, rfl, a, C k, _, _, _, _, _, rfl, ea, ex, .own _, A.kit hk (show 16 < 18 by decide), _, rfl, ite2 (fun h => ?_) (fun h => ?_)⟩
    · have e : k = 16 := of_decide_eq_true h
      have := kk H (Same.refl H)
      rw [show bsOf k = 2 by unfold bsOf; rw [if_pos e]] at this
      exact this
    · have e : ¬ k = 16 := fun z => h (decide_eq_true z)
      refine ⟨_, rfl, sz (by simp), fun t G1 ft st et => ?_⟩
      refine ⟨a, C k, _, _, t, _, _, _, rfl, ea.same st, ex, et, .cons (.own _) (.cons (.own _) (.cons (.own _) (.cons (.own _) (.cons (.own _) .nil)))), A.kit5 hk, _, rfl, ite2 (fun h2 => ?_) (fun h2 => ?_)⟩
      · have e2 := of_decide_eq_true h2
        have := kk G1 st
        rw [show bsOf k = 1 by unfold bsOf; rw [if_neg e, if_pos e2]] at this
        exact this
      · have e2 := fun z => h2 (decide_eq_true z)
        have := kk G1 st
        rw [show bsOf k = 0 by unfold bsOf; rw [if_neg e, if_neg e2]] at this
        exact this
theorem scKinds : FnScope ["_law_one", "_law_found"] ["_law_one"] (defScope sKinds) := ⟨rfl, rfl, rfl, by decide +kernel, rfl, by decide +kernel, by decide +kernel⟩
theorem ok_kinds {f : Addr} {fd : FuncData} (F : Fun K "_law_kinds_of" "_law_kinds_of" sKinds f fd) (T : TxtK mg) (A : K18 K mg C) : FnOk P w K mg base CX0 1 f fd ["_law_one"] (spKinds C) := by
  refine F.ok scKinds (fun vs H Q E h => ?_) (fun cdv A' outer s H vs Q E hr h => ?_)
  · obtain ⟨a, k, rfl, _⟩ := h
    rfl
  · obtain ⟨a, k, rfl, hk, ea, kk⟩ := h
    obtain ⟨nw, ex⟩ := A.ex k hk
    refine ⟨_, (pss_cons (ps_set (i := 1) scKinds.nd rfl (Or.inl rfl) (Ab.pe_lstA (pa_cons (pe_callB call_isx (by rfl) T.isinstance (by decide +kernel) (pa_cons (pv 0) (pa_cons (pe_glob (v := V.ref (C 0)) (by rfl) (show mg "InvalidHandler" = some (.ref (C 0)) from A.named 0 (by decide)) rfl) pa_nil))) (pa_cons (pe_callB call_isx (by rfl) T.isinstance (by decide +kernel) (pa_cons (pv 0) (pa_cons (pe_glob (v := V.ref (C 1)) (by rfl) (show mg "InvalidRows" = some (.ref (C 1)) from A.named 1 (by decide)) rfl) pa_nil))) (pa_cons (pe_callB call_isx (by rfl) T.isinstance (by decide +kernel) (pa_cons (pv 0) (pa_cons (pe_glob (v := V.ref (C 2)) (by rfl) (show mg "InvalidMessage" = some (.ref (C 2)) from A.named 2 (by decide)) rfl) pa_nil))) pa_nil)))))
      (pss_cons (ps_set (i := 1) scKinds.nd rfl (Or.inl rfl) (pe_op Ab.op_catA (pv 1) (Ab.pe_lstA (pa_cons (pe_callB call_isx (by rfl) T.isinstance (by decide +kernel) (pa_cons (pv 0) (pa_cons (pe_glob (v := V.ref (C 3)) (by rfl) (show mg "InvalidWay" = some (.ref (C 3)) from A.named 3 (by decide)) rfl) pa_nil))) (pa_cons (pe_callB call_isx (by rfl) T.isinstance (by decide +kernel) (pa_cons (pv 0) (pa_cons (pe_glob (v := V.ref (C 4)) (by rfl) (show mg "InvalidState" = some (.ref (C 4)) from A.named 4 (by decide)) rfl) pa_nil))) (pa_cons (pe_callB call_isx (by rfl) T.isinstance (by decide +kernel) (pa_cons (pv 0) (pa_cons (pe_glob (v := V.ref (C 5)) (by rfl) (show mg "InvalidCount" = some (.ref (C 5)) from A.named 5 (by decide)) rfl) pa_nil))) pa_nil))))))
      (pss_cons (ps_set (i := 1) scKinds.nd rfl (Or.inl rfl) (pe_op Ab.op_catA (pv 1) (Ab.pe_lstA (pa_cons (pe_callB call_isx (by rfl) T.isinstance (by decide +kernel) (pa_cons (pv 0) (pa_cons (pe_glob (v := V.ref (C 6)) (by rfl) (show mg "NoService" = some (.ref (C 6)) from A.named 6 (by decide)) rfl) pa_nil))) (pa_cons (pe_callB call_isx (by rfl) T.isinstance (by decide +kernel) (pa_cons (pv 0) (pa_cons (pe_glob (v := V.ref (C 7)) (by rfl) (show mg "InvalidService" = some (.ref (C 7)) from A.named 7 (by decide)) rfl) pa_nil))) (pa_cons (pe_callB call_isx (by rfl) T.isinstance (by decide +kernel) (pa_cons (pv 0) (pa_cons (pe_glob (v := V.ref (C 8)) (by rfl) (show mg "InvalidSystem" = some (.ref (C 8)) from A.named 8 (by decide)) rfl) pa_nil))) pa_nil))))))
      (pss_cons (ps_set (i := 1) scKinds.nd rfl (Or.inl rfl) (pe_op Ab.op_catA (pv 1) (Ab.pe_lstA (pa_cons (pe_callB call_isx (by rfl) T.isinstance (by decide +kernel) (pa_cons (pv 0) (pa_cons (pe_glob (v := V.ref (C 9)) (by rfl) (show mg "NotPlayed" = some (.ref (C 9)) from A.named 9 (by decide)) rfl) pa_nil))) (pa_cons (pe_callB call_isx (by rfl) T.isinstance (by decide +kernel) (pa_cons (pv 0) (pa_cons (pe_glob (v := V.ref (C 10)) (by rfl) (show mg "InvalidTest" = some (.ref (C 10)) from A.named 10 (by decide)) rfl) pa_nil))) (pa_cons (pe_callB call_isx (by rfl) T.isinstance (by decide +kernel) (pa_cons (pv 0) (pa_cons (pe_glob (v := V.ref (C 11)) (by rfl) (show mg "InvalidCut" = some (.ref (C 11)) from A.named 11 (by decide)) rfl) pa_nil))) pa_nil))))))
      (pss_cons (ps_set (i := 1) scKinds.nd rfl (Or.inl rfl) (pe_op Ab.op_catA (pv 1) (Ab.pe_lstA (pa_cons (pe_callB call_isx (by rfl) T.isinstance (by decide +kernel) (pa_cons (pv 0) (pa_cons (pe_glob (v := V.ref (C 12)) (by rfl) (show mg "NoFact" = some (.ref (C 12)) from A.named 12 (by decide)) rfl) pa_nil))) (pa_cons (pe_callB call_isx (by rfl) T.isinstance (by decide +kernel) (pa_cons (pv 0) (pa_cons (pe_glob (v := V.ref (C 13)) (by rfl) (show mg "NoThing" = some (.ref (C 13)) from A.named 13 (by decide)) rfl) pa_nil))) (pa_cons (pe_callB call_isx (by rfl) T.isinstance (by decide +kernel) (pa_cons (pv 0) (pa_cons (pe_glob (v := V.ref (C 14)) (by rfl) (show mg "NoWord" = some (.ref (C 14)) from A.named 14 (by decide)) rfl) pa_nil))) pa_nil))))))
      (pss_one (ps_ret (pe_op Ab.op_catA (pv 1) (Ab.pe_lstA (pa_cons (pe_callB call_isx (by rfl) T.isinstance (by decide +kernel) (pa_cons (pv 0) (pa_cons (pe_glob (v := V.ref (C 15)) (by rfl) (show mg "OutOfRange" = some (.ref (C 15)) from A.named 15 (by decide)) rfl) pa_nil))) (pa_cons (pe_callB call_isx (by rfl) T.isinstance (by decide +kernel) (pa_cons (pv 0) (pa_cons (pe_glob (v := V.ref (C 16)) (by rfl) (show mg "TooMany" = some (.ref (C 16)) from A.named 16 (by decide)) rfl) pa_nil))) (pa_cons (pe_callB call_isx (by rfl) T.isinstance (by decide +kernel) (pa_cons (pv 0) (pa_cons (pe_glob (v := V.ref (C 17)) (by rfl) (show mg "OtherWorld" = some (.ref (C 17)) from A.named 17 (by decide)) rfl) pa_nil))) pa_nil)))))))))))), ?_⟩
    refine ⟨_, rfl, a, C k, _, _, _, _, _, rfl, ea, ex, .own _, A.kit hk (show 0 < 18 by decide), _, rfl, a, C k, _, _, _, _, _, rfl, ea, ex, .own _, A.kit hk (show 1 < 18 by decide), _, rfl, a, C k, _, _, _, _, _, rfl, ea, ex, .own _, A.kit hk (show 2 < 18 by decide), sz (by simp), fun l1 G1 f1 n1 s1 e1 => ?_⟩
    have a1 : Same H G1 := s1
    replace ea := ea.same s1
    refine ⟨_, rfl, _, rfl, a, C k, _, _, _, _, _, rfl, ea, ex, .own _, A.kit hk (show 3 < 18 by decide), _, rfl, a, C k, _, _, _, _, _, rfl, ea, ex, .own _, A.kit hk (show 4 < 18 by decide), _, rfl, a, C k, _, _, _, _, _, rfl, ea, ex, .own _, A.kit hk (show 5 < 18 by decide), sz (by simp), fun m2 M2 fm2 nm2 sm2 em2 => ?_⟩
    refine ⟨l1, m2, _, _, rfl, rfl, sm2 _ _ e1, em2, sz (by simp), fun l2 G2 f2 s2 e2 => ?_⟩
    have a2 : Same H G2 := (a1.trans sm2).trans s2
    replace ea := (ea.same sm2).same s2
    have fr2 : H l2 = none := (a1.trans sm2).free f2
    refine ⟨_, rfl, _, rfl, a, C k, _, _, _, _, _, rfl, ea, ex, .own _, A.kit hk (show 6 < 18 by decide), _, rfl, a, C k, _, _, _, _, _, rfl, ea, ex, .own _, A.kit hk (show 7 < 18 by decide), _, rfl, a, C k, _, _, _, _, _, rfl, ea, ex, .own _, A.kit hk (show 8 < 18 by decide), sz (by simp), fun m3 M3 fm3 nm3 sm3 em3 => ?_⟩
    refine ⟨l2, m3, _, _, rfl, rfl, sm3 _ _ e2, em3, sz (by simp), fun l3 G3 f3 s3 e3 => ?_⟩
    have a3 : Same H G3 := (a2.trans sm3).trans s3
    replace ea := (ea.same sm3).same s3
    have fr3 : H l3 = none := (a2.trans sm3).free f3
    refine ⟨_, rfl, _, rfl, a, C k, _, _, _, _, _, rfl, ea, ex, .own _, A.kit hk (show 9 < 18 by decide), _, rfl, a, C k, _, _, _, _, _, rfl, ea, ex, .own _, A.kit hk (show 10 < 18 by decide), _, rfl, a, C k, _, _, _, _, _, rfl, ea, ex, .own _, A.kit hk (show 11 < 18 by decide), sz (by simp), fun m4 M4 fm4 nm4 sm4 em4 => ?_⟩
    refine ⟨l3, m4, _, _, rfl, rfl, sm4 _ _ e3, em4, sz (by simp), fun l4 G4 f4 s4 e4 => ?_⟩
    have a4 : Same H G4 := (a3.trans sm4).trans s4
    replace ea := (ea.same sm4).same s4
    have fr4 : H l4 = none := (a3.trans sm4).free f4
    refine ⟨_, rfl, _, rfl, a, C k, _, _, _, _, _, rfl, ea, ex, .own _, A.kit hk (show 12 < 18 by decide), _, rfl, a, C k, _, _, _, _, _, rfl, ea, ex, .own _, A.kit hk (show 13 < 18 by decide), _, rfl, a, C k, _, _, _, _, _, rfl, ea, ex, .own _, A.kit hk (show 14 < 18 by decide), sz (by simp), fun m5 M5 fm5 nm5 sm5 em5 => ?_⟩
    refine ⟨l4, m5, _, _, rfl, rfl, sm5 _ _ e4, em5, sz (by simp), fun l5 G5 f5 s5 e5 => ?_⟩
    have a5 : Same H G5 := (a4.trans sm5).trans s5
    replace ea := (ea.same sm5).same s5
    have fr5 : H l5 = none := (a4.trans sm5).free f5
    refine ⟨_, rfl, _, rfl, a, C k, _, _, _, _, _, rfl, ea, ex, .own _, A.kit hk (show 15 < 18 by decide), _, rfl, a, C k, _, _, _, _, _, rfl, ea, ex, .own _, A.kit hk (show 16 < 18 by decide), _, rfl, a, C k, _, _, _, _, _, rfl, ea, ex, .own _, A.kit hk (show 17 < 18 by decide), sz (by simp), fun m6 M6 fm6 nm6 sm6 em6 => ?_⟩
    refine ⟨l5, m6, _, _, rfl, rfl, sm6 _ _ e5, em6, sz (by simp), fun l6 G6 f6 s6 e6 => ?_⟩
    have a6 : Same H G6 := (a5.trans sm6).trans s6
    replace ea := (ea.same sm6).same s6
    have fr6 : H l6 = none := (a5.trans sm6).free f6
    exact kk l6 G6 a6 fr6 (show G6 l6 = some (.lst (kindsL k)) from e6)
end
end K00

set_option Elab.async false
set_option linter.all false
set_option maxRecDepth 100000
set_option maxHeartbeats 8000000
namespace K00
open PySem L2 Pen RG Dat Exn
/-- short enough -/
def Fine (m n : Nat) (d : PyData) : Prop := d.showable = true ∧ d.depth ≤ m ∧ d.shown.length ≤ n
theorem odd_fine {d : PyData} (h : d ∈ oddL) : Fine 10 400 d := by
  have all : (oddL.all fun d => d.showable && decide (d.depth ≤ 10) && decide (d.shown.length ≤ 400)) = true := by decide +kernel
  have := List.all_eq_true.mp all d h
  simp only [Bool.and_eq_true, decide_eq_true_eq] at this
  exact ⟨this.1.1, this.1.2, this.2⟩
theorem len_one {c : String} (h : (Str.ofString c).length ≤ 2) : (Str.ofString c).length ≤ 2 := h
theorem two_len (x y : Str) : (PySem.listText [x, y]).length ≤ x.length + y.length + 10 := by
  have e : PySem.listText [x, y] = (((Str.ofString "[" ++ Str.ofString "") ++ x) ++ Str.ofString ", " ++ y) ++ Str.ofString "]" := rfl
  rw [e]
  simp only [Str.length_append]
  have h1 : (Str.ofString "[").length = 1 := by decide
  have h2 : (Str.ofString "").length = 0 := by decide
  have h3 : (Str.ofString ", ").length = 2 := by decide
  have h4 : (Str.ofString "]").length = 1 := by decide
  omega
theorem two_lenT (x y : Str) : (PySem.tupleText [x, y]).length ≤ x.length + y.length + 10 := by
  have e : PySem.tupleText [x, y] = (Str.ofString "(" ++ (x ++ Str.ofString ", " ++ y)) ++ Str.ofString ")" := rfl
  rw [e]
  simp only [Str.length_append]
  have h1 : (Str.ofString "(").length = 1 := by decide
  have h3 : (Str.ofString ", ").length = 2 := by decide
  have h4 : (Str.ofString ")").length = 1 := by decide
  omega
theorem pair_fine {m n : Nat} {d e : PyData} (h : Fine m n d) (k : Fine m n e) : Fine (m + 1) (2 * n + 10) (.tuple [d, e]) := by
  obtain ⟨h1, h2, h3⟩ := h
  obtain ⟨k1, k2, k3⟩ := k
  refine ⟨?_, ?_, ?_⟩
  · show (d.showable && (e.showable && true)) = true
    rw [h1, k1]
    rfl
  · show max d.depth (max e.depth 0) + 1 ≤ m + 1
    omega
  · have := two_lenT d.shown e.shown
    show (PySem.tupleText [d.shown, e.shown]).length ≤ _
    omega
theorem list_fine {m n : Nat} {d e : PyData} (h : Fine m n d) (k : Fine m n e) : Fine (m + 1) (2 * n + 10) (.list [d, e]) := by
  obtain ⟨h1, h2, h3⟩ := h
  obtain ⟨k1, k2, k3⟩ := k
  refine ⟨?_, ?_, ?_⟩
  · show (d.showable && (e.showable && true)) = true
    rw [h1, k1]
    rfl
  · show max d.depth (max e.depth 0) + 1 ≤ m + 1
    omega
  · have := two_len d.shown e.shown
    show (PySem.listText [d.shown, e.shown]).length ≤ _
    omega
theorem Fine.mono {m n m2 n2 : Nat} {d : PyData} (h : Fine m n d) (a : m ≤ m2) (b : n ≤ n2) : Fine m2 n2 d := ⟨h.1, Nat.le_trans h.2.1 a, Nat.le_trans h.2.2 b⟩
/-- what is asked of repr([v, v]) -/
theorem told_fine {d : PyData} (h : Fine 11 810 d) : (PyData.list [d, d]).showable = true ∧ (PyData.list [d, d]).depth ≤ 64 ∧ (PyData.list [d, d]).shown.length ≤ sizeLine := by
  obtain ⟨h1, h2, h3⟩ := list_fine h h
  exact ⟨h1, by omega, Nat.le_trans h3 (by decide)⟩
/-! ### lists of bools -/
def blD (bs : List Bool) : PyData := .list (bs.map PyData.bool)
theorem dp_all {K : PySem.W.Frag} {H : Hp} : ∀ bs : List Bool, DpAll K H (bs.map V.bl) (bs.map PyData.bool)
  | [] => .nil
  | b :: bs => .cons (.bl b) (dp_all bs)
theorem dp_bl {K : PySem.W.Frag} {H : Hp} {l : Addr} {bs : List Bool} (h : H l = some (.lst (bs.map V.bl))) : Dp K H (.ref l) (blD bs) := .lst (SqL.of h) (dp_all bs)
theorem eqv_all : ∀ bs : List Bool, PyData.eqvAll (bs.map PyData.bool) (bs.map PyData.bool) = true
  | [] => rfl
  | b :: bs => by
    show (PyData.eqv (.bool b) (.bool b) && PyData.eqvAll (bs.map PyData.bool) (bs.map PyData.bool)) = true
    rw [eqv_all bs]
    cases b <;> rfl
theorem eqv_bl (bs : List Bool) : PyData.eqv (blD bs) (blD bs) = true := eqv_all bs
theorem lay_all : ∀ bs : List Bool, PyData.canLayAll0 (bs.map PyData.bool) = true
  | [] => rfl
  | b :: bs => by
    show (PyData.canLay0 (.bool b) && PyData.canLayAll0 (bs.map PyData.bool)) = true
    rw [lay_all bs]
    rfl
theorem deep_all : ∀ bs : List Bool, PyData.depthAll (bs.map PyData.bool) = 0
  | [] => rfl
  | b :: bs => by
    show max 0 (PyData.depthAll (bs.map PyData.bool)) = 0
    rw [deep_all bs]
    rfl
theorem shaped_bl (bs : List Bool) : SeqAt.shaped (blD bs) = true := by
  unfold SeqAt.shaped
  rw [show (blD bs).canLay0 = true from lay_all bs, show (blD bs).depth = 1 from congrArg (· + 1) (deep_all bs)]
  rfl
end K00

set_option Elab.async false
set_option linter.all false
set_option maxRecDepth 100000
set_option maxHeartbeats 8000000
namespace K00
open PySem L2 Pen RG Dat Exn
abbrev sLaw : Stmt := top 28
def spLaw (K : PySem.W.Frag) : Sp := fun vs H Q _ => ∃ (a : Addr) (ns : List Int), vs = [.ref a] ∧ SqL K H a (ns.map V.int) ∧ ns.length ≤ 63 ∧ ∀ G', Q (.bl true) G'
theorem blp_upd {H1 H4 : Hp} {D : Addr} {o : HO} (hD : H1 D = none) (s : Same H1 H4) : Same H1 (upd H4 D o) := fun b u q => by
  rw [upd_ne (ne_of_none q hD)]
  exact s _ _ q
/-- [.. for j in range(n)], a list of bools; j is local 12 -/
theorem lc_bools {n : Nat} {te : TE} {σ : St} {H1 : Hp} {D : Addr} {Qd : Hp → Prop} (g : Nat → Bool) (hD : H1 D = none) (hn : n ≤ 99)
    (step : ∀ (i : Nat) (H : Hp) (Q : VK), i < n → Same H1 H → (∀ H4, Same H H4 → Q (.bl (g i)) H4) → te ((wipe σ [12]).set 12 (some (.int (0 + (i : Int))))) H Q)
    (fin : ∀ H, Same H1 H → H D = some (.lst (((List.range n).map g).map V.bl)) → Qd H) :
    ∃ W : Nat → Nat → Hp → Prop, (∃ m, W 0 m (upd H1 D (.lst []))) ∧ ∀ i m H, W i m H →
      ((Itr 0 n).stop i H ∧ Qd H) ∨ ((Itr 0 n).go i H ∧ ∃ Nx : Hp → Prop, (∀ H', Nx H' → ∃ m', m' < m ∧ W (i + 1) m' H') ∧ ∀ x H', (Itr 0 n).yld i H x H' → (gName 12) x (wipe σ [12]) H' fun σ2 H2 => wipe σ2 [12] = wipe σ [12] ∧ tYes σ2 H2 fun b H3 =>
        if b = true then te σ2 H3 fun y H4 => ∃ acc, H4 D = some (.lst acc) ∧ acc.length < sizeLine ∧ Nx (upd H4 D (.lst (acc ++ [y]))) else Nx H3) := by
  refine lc_range (fun i H => H D = some (.lst (((List.range i).map g).map V.bl)) ∧ Same H1 H) ⟨upd_same, blp_upd hD (.refl _)⟩ ?_ fun H p => fin H p.2 p.1
  intro i H hi ⟨e, s⟩
  refine ⟨by simp [wipe], ?_⟩
  unfold tYes
  simp only [↓reduceIte]
  refine step i H _ hi s fun H4 s4 => ⟨_, s4 _ _ e, szl (by simp; omega), ?_, blp_upd hD (s.trans s4)⟩
  rw [upd_same, List.range_succ]
  simp
theorem ne_bools {K : PySem.W.Frag} {H : Hp} {l D : Addr} {bs cs : List Bool} {Q : VK} (hl : H l = some (.lst (bs.map V.bl))) (hD : H D = some (.lst (cs.map V.bl))) (e : bs = cs) (q : Q (.bl false) H) : rNeD K (.ref l) (.ref D) H Q :=
  ⟨blD bs, blD cs, dp_bl hl, dp_bl hD, shaped_bl _, shaped_bl _, by rw [← e, eqv_bl]; exact q⟩
theorem eq_bools {K : PySem.W.Frag} {H : Hp} {l D : Addr} {bs cs : List Bool} {Q : VK} (hl : H l = some (.lst (bs.map V.bl))) (hD : H D = some (.lst (cs.map V.bl))) (e : bs = cs) (q : Q (.bl true) H) : rEqD K (.ref l) (.ref D) H Q :=
  ⟨blD bs, blD cs, dp_bl hl, dp_bl hD, shaped_bl _, shaped_bl _, by rw [← e, eqv_bl]; exact q⟩
theorem bases_eq (k : Nat) : [(bmOf k).contains (.type "ValueError"), (bmOf k).contains (.type "LookupError"), (bmOf k).contains (.type "OverflowError")] = (List.range 3).map fun (i : Nat) => decide (V.int (0 + (i : Int)) = V.int (bsOf k)) := by
  unfold bmOf bsOf
  split
  · decide +kernel
  · split
    · decide +kernel
    · decide +kernel
theorem kinds_eq (k : Nat) : ((List.range 18).map fun j => decide (k = j)) = (List.range 18).map fun (i : Nat) => decide (V.int (0 + (i : Int)) = V.int (0 + (k : Int))) := by
  apply List.map_congr_left
  intro j _
  rw [decide_eq_decide]
  constructor
  · intro e
    rw [e]
  · intro e
    have := V.int.inj e
    omega
theorem kinds_eq17 : ((List.range 18).map fun j => decide (17 = j)) = (List.range 18).map fun (i : Nat) => decide (V.int (0 + (i : Int)) = V.int 17) := by
  apply List.map_congr_left
  intro j _
  rw [decide_eq_decide]
  constructor
  · intro e
    rw [← e]
    rfl
  · intro e
    have := V.int.inj e
    omega
theorem kindsL_map (k : Nat) : kindsL k = ((List.range 18).map fun j => decide (k = j)).map V.bl := by
  unfold kindsL
  rw [List.map_map]
  rfl
theorem row_class {C : Nat → Addr} {j : Nat} {D : Addr} (h : ((List.range 17).map C)[j]? = some D) : j < 17 ∧ D = C j := by
  rw [List.getElem?_map] at h
  by_cases hj : j < 17
  · rw [List.getElem?_range hj] at h
    exact ⟨hj, (Option.some.inj h).symm⟩
  · rw [List.getElem?_eq_none (by simpa using hj)] at h
    cases h
theorem paired_len {α β : Type} {F : α → β → Prop} : ∀ {l : List α} {m : List β}, Paired F l m → l.length = m.length
  | _, _, .nil => rfl
  | _, _, .cons _ t => congrArg (· + 1) (paired_len t)

section
variable {P : Program} {w : World} {K : PySem.W.Frag} {mg : Str → Option Value} {base : Heap} {C : Nat → Addr}
theorem scLaw : FnScope ["_law_script", "_law_pen_here", "_law_turn", "_law_odd_here", "_law_some", "_law_k", "_law_one", "_law_other", "_law_told", "_law_named", "_law_made", "_law_bases", "_law_j"] ["_law_script"] (defScope sLaw) := ⟨rfl, rfl, rfl, by decide +kernel, rfl, by decide +kernel, by decide +kernel⟩
theorem ok_law {fL fPen fPick fOdd fVal fOth fBase fKin fO cda cc : Addr} {dL dPen dPick dOdd dVal dOth dBase dKin : FuncData} {qO newId initId : String}
    (F : Fun K "law" "law" sLaw fL dL) (T : TxtK mg) (A : K18 K mg C)
    (O : OwT P K qO (C 17) fO cda cc "ValueError" newId initId veL) (FB : ExcBaseFacts "ValueError" newId initId veL) (KF : PySem.W.KxsFacts "ValueError" initId)
    (GPen : FnOk P w K mg base CX0 1 fPen dPen ["_law_script"] (spPen K)) (TPen : DefT K mg "_law_pen" fPen) (bPen : Binds K dPen ["_law_script"] [])
    (GPick : FnOk P w K mg base CX0 2 fPick dPick ["_law_pen_here", "_law_items"] (spPick K)) (TPick : DefT K mg "_law_pick" fPick) (bPick : Binds K dPick ["_law_pen_here", "_law_items"] [])
    (GOdd : FnOk P w K mg base CX0 3 fOdd dOdd ["_law_pen_here"] (spOdd K)) (TOdd : DefT K mg "_law_odd" fOdd) (bOdd : Binds K dOdd ["_law_pen_here"] [])
    (GVal : FnOk P w K mg base CX0 3 fVal dVal ["_law_odd_here"] (spVal C)) (TVal : DefT K mg "_law_values" fVal) (bVal : Binds K dVal ["_law_odd_here"] [])
    (GOth : FnOk P w K mg base CX0 3 fOth dOth ["_law_odd_here"] (spOth C)) (TOth : DefT K mg "_law_others" fOth) (bOth : Binds K dOth ["_law_odd_here"] [])
    (GBase : FnOk P w K mg base CX0 1 fBase dBase ["_law_one"] (spBase C)) (TBase : DefT K mg "_law_base" fBase) (bBase : Binds K dBase ["_law_one"] [])
    (GKin : FnOk P w K mg base CX0 1 fKin dKin ["_law_one"] (spKinds C)) (TKin : DefT K mg "_law_kinds_of" fKin) (bKin : Binds K dKin ["_law_one"] []) :
    FnG P w K mg base CX0 5 fL dL ["_law_script"] (spLaw K) := by
  refine okG F scLaw (fun ys G Want Err h => ?_) (fun cd B up st G ys Want Err hg hr told => ?_)
  · obtain ⟨a, ns, rfl, _⟩ := h
    rfl
  · obtain ⟨a, ns, rfl, hS, hlen, kk⟩ := told
    refine ⟨_, (pss_cons (ps_set (i := 1) scLaw.nd rfl (Or.inl rfl) (pe_call GPen (hr.mono (by decide)) rfl TPen.mg TPen.kp bPen .nil pass0 (pa_cons (pv 0) pa_nil)))
      (pss_cons (ps_for PassesOwn.never rfl (pi_range1 (by rfl) T.range (pa_cons pe_int pa_nil)) (pg_name (i := 2) scLaw.nd rfl (Or.inl rfl)) (pss_cons (ps_set (i := 3) scLaw.nd rfl (Or.inl rfl) (pe_call GPick (hr.mono (by decide)) rfl TPick.mg TPick.kp bPick .nil pass0 (pa_cons (pv 1) (pa_cons (Ab.pe_lstA (pa_cons (pe_call GOdd (hr.mono (by decide)) rfl TOdd.mg TOdd.kp bOdd .nil pass0 (pa_cons (pv 1) pa_nil)) (pa_cons (pe_call GOdd (hr.mono (by decide)) rfl TOdd.mg TOdd.kp bOdd .nil pass0 (pa_cons (pv 1) pa_nil)) (pa_cons (Ab.pe_tupA (pa_cons (pe_call GOdd (hr.mono (by decide)) rfl TOdd.mg TOdd.kp bOdd .nil pass0 (pa_cons (pv 1) pa_nil)) (pa_cons (pe_call GOdd (hr.mono (by decide)) rfl TOdd.mg TOdd.kp bOdd .nil pass0 (pa_cons (pv 1) pa_nil)) pa_nil))) pa_nil)))) pa_nil))))
      (pss_cons (ps_set (i := 4) scLaw.nd rfl (Or.inl rfl) (pe_op Ab.op_catA (pe_call GVal (hr.mono (by decide)) rfl TVal.mg TVal.kp bVal .nil pass0 (pa_cons (pv 3) pa_nil)) (pe_call GOth (hr.mono (by decide)) rfl TOth.mg TOth.kp bOth .nil pass0 (pa_cons (pv 3) pa_nil))))
      (pss_one (ps_for PassesOwn.never rfl (pi_range1 (by rfl) T.range (pa_cons (pe_callB call_len_seq (by rfl) T.len PySem.boot_len (pa_cons (pv 4) pa_nil)) pa_nil)) (pg_name (i := 5) scLaw.nd rfl (Or.inr rfl)) (pss_cons (ps_asg (pe_ix ix_list (pv 4) (pv 5) (fun _ _ => rfl)) (pg_tup (by rfl) (pgs_cons (pg_name (i := 6) scLaw.nd rfl (Or.inl rfl)) (pgs_cons (pg_name (i := 7) scLaw.nd rfl (Or.inl rfl)) (pgs_cons (pg_name (i := 8) scLaw.nd rfl (Or.inl rfl)) (pgs_cons (pg_name (i := 9) scLaw.nd rfl (Or.inl rfl)) pgs_nil))))))
      (pss_cons (ps_if (pt_cmpR op_ne (pe_callB (call_repr hg hr) (by rfl) T.repr (by decide +kernel) (pa_cons (Ab.pe_lstA (pa_cons (pv 8) (pa_cons (pv 9) pa_nil))) pa_nil)) (pe_callB (call_repr hg hr) (by rfl) T.repr (by decide +kernel) (pa_cons (Ab.pe_lstA (pa_cons (pv 3) (pa_cons (pv 3) pa_nil))) pa_nil)) (nomark _)) (pss_one (ps_ret pe_bl)) pss_nil)
      (pss_one (ps_for PassesOwn.never rfl (pi_tup (Ab.pe_tupA (pa_cons (pv 6) (pa_cons (pv 7) pa_nil)))) (pg_name (i := 10) scLaw.nd rfl (Or.inr rfl)) (pss_cons (ps_set (i := 11) scLaw.nd rfl (Or.inl rfl) (Ab.pe_lstA (pa_cons (pe_callB call_isx (by rfl) T.isinstance (by decide +kernel) (pa_cons (pv 10) (pa_cons (pe_bltn (v := V.ty "ValueError") (by rfl) T.ve (by decide +kernel) rfl) pa_nil))) (pa_cons (pe_callB call_isx (by rfl) T.isinstance (by decide +kernel) (pa_cons (pv 10) (pa_cons (pe_bltn (v := V.ty "LookupError") (by rfl) T.le (by decide +kernel) rfl) pa_nil))) (pa_cons (pe_callB call_isx (by rfl) T.isinstance (by decide +kernel) (pa_cons (pv 10) (pa_cons (pe_bltn (v := V.ty "OverflowError") (by rfl) T.oe (by decide +kernel) rfl) pa_nil))) pa_nil)))))
      (pss_cons (ps_if (pt_cmpR (op_neD hr.units) (pv 11) (pe_lc (own := [("_law_j", 12)]) (g := gName 12) (tt := tYes) (te := (tOp rEq (tVar 12) (tCall (spBase C) [] E0 (tCons (tVar 10) tNil)))) rfl scLaw.nd (pi_range1 (by rfl) T.range (pa_cons pe_int pa_nil)) (blkOk_by (N := ["_law_script", "_law_pen_here", "_law_turn", "_law_odd_here", "_law_some", "_law_k", "_law_one", "_law_other", "_law_told", "_law_named", "_law_made", "_law_bases", "_law_j"]) (sc := defScope sLaw) (by decide +kernel)) (fun _ _ _ _ _ => by exact (pg_name (i := 12) scLaw.nd rfl (Or.inl rfl))) (fun _ _ _ _ _ => by exact pts_nil) (fun _ _ _ _ _ => by exact (pe_cmpR op_eq (pv 12) (pe_call GBase (hr.mono (by decide)) rfl TBase.mg TBase.kp bBase .nil pass0 (pa_cons (pv 10) pa_nil)) (nomark _)))) (nomark _)) (pss_one (ps_ret pe_bl)) pss_nil)
      (pss_one (ps_if (pt_cmpR (op_neD hr.units) (pe_call GKin (hr.mono (by decide)) rfl TKin.mg TKin.kp bKin .nil pass0 (pa_cons (pv 10) pa_nil)) (pe_lc (own := [("_law_j", 12)]) (g := gName 12) (tt := tYes) (te := (tOp rEq (tVar 12) (tVar 5))) rfl scLaw.nd (pi_range1 (by rfl) T.range (pa_cons pe_int pa_nil)) (blkOk_by (N := ["_law_script", "_law_pen_here", "_law_turn", "_law_odd_here", "_law_some", "_law_k", "_law_one", "_law_other", "_law_told", "_law_named", "_law_made", "_law_bases", "_law_j"]) (sc := defScope sLaw) (by decide +kernel)) (fun _ _ _ _ _ => by exact (pg_name (i := 12) scLaw.nd rfl (Or.inl rfl))) (fun _ _ _ _ _ => by exact pts_nil) (fun _ _ _ _ _ => by exact (pe_cmpR op_eq (pv 12) (pv 5) (nomark _)))) (nomark _)) (pss_one (ps_ret pe_bl)) pss_nil)))))))))))))
      (pss_cons (ps_set (i := 10) scLaw.nd rfl (Or.inr rfl) (pe_new0 O FB KF (hr.mono (show 1 ≤ 4 by decide)) (by rfl) (show mg "OtherWorld" = some (.ref (C 17)) from A.named 17 (by decide))))
      (pss_one (ps_ret (pe_and (pe_callB call_isx (by rfl) T.isinstance (by decide +kernel) (pa_cons (pv 10) (pa_cons (pe_bltn (v := V.ty "ValueError") (by rfl) T.ve (by decide +kernel) rfl) pa_nil))) (pe_one (pe_cmpR (op_eqD hr.units) (pe_call GKin (hr.mono (by decide)) rfl TKin.mg TKin.kp bKin .nil pass0 (pa_cons (pv 10) pa_nil)) (pe_lc (own := [("_law_j", 12)]) (g := gName 12) (tt := tYes) (te := (tOp rEq (tVar 12) (tC (.int 17)))) rfl scLaw.nd (pi_range1 (by rfl) T.range (pa_cons pe_int pa_nil)) (blkOk_by (N := ["_law_script", "_law_pen_here", "_law_turn", "_law_odd_here", "_law_some", "_law_k", "_law_one", "_law_other", "_law_told", "_law_named", "_law_made", "_law_bases", "_law_j"]) (sc := defScope sLaw) (by decide +kernel)) (fun _ _ _ _ _ => by exact (pg_name (i := 12) scLaw.nd rfl (Or.inl rfl))) (fun _ _ _ _ _ => by exact pts_nil) (fun _ _ _ _ _ => by exact (pe_cmpR op_eq (pv 12) pe_int (nomark _)))) (nomark _))))))))), ?_⟩
    refine ⟨_, rfl, a, ns, rfl, hS, hlen, fun p c H1 np Pn s1 => ?_⟩
    refine ⟨12, rfl, by decide, by decide, for_range (n := 12) (fun i σ H => σ.length = 13 ∧ σ[1]? = some (some (.ref p)) ∧ PenAt H p c ns (5 * i)) ⟨rfl, rfl, Pn⟩ ?_ ?_⟩
    · intro i σ G hi ⟨L0, v1, P0⟩
      have z1 : (σ.set 2 (some (V.int (0 + (i : Int)))))[1]? = some (some (.ref p)) := by simp [v1]
      refine ⟨_, z1, _, z1, p, c, ns, _, rfl, P0, hlen, by omega, fun o1 d1 G1 m1 r1 P1 x1 => ?_⟩
      refine ⟨_, z1, p, c, ns, _, rfl, P1, hlen, by omega, fun o2 d2 G2 m2 r2 P2 x2 => ?_⟩
      refine ⟨_, z1, p, c, ns, _, rfl, P2, hlen, by omega, fun o3 d3 G3 m3 r3 P3 x3 => ?_⟩
      refine ⟨_, z1, p, c, ns, _, rfl, P3, hlen, by omega, fun o4 d4 G4 m4 r4 P4 x4 => ?_⟩
      refine ⟨sz (by simp), fun t Ht ft st et => ?_⟩
      refine ⟨sz (by simp), fun l Hl fl nl sl el => ?_⟩
      refine ⟨p, c, ns, _, l, _, rfl, (P4.same st).same sl, hlen, by omega, el, by simp, by simp, fun v Gv hv Pv sv => ?_⟩
      have tp : t ≠ p := by
        obtain ⟨⟨_, _, hp4, _⟩, _⟩ := id P4
        exact (ne_of_none hp4 ft).symm
      have y4 : SameX p G4 Gv := ((Same.X st).trans (Same.X sl)).trans sv
      have y3 := x4.trans y4
      have y2 := x3.trans y3
      have y1 := x2.trans y2
      have rp : RpAll K (delp p Gv) [o1, o2, V.ref t] [d1, d2, .tuple [d3, d4]] := .cons (Rp.same (delp_same y1) r1) (.cons (Rp.same (delp_same y2) r2) (.cons (.tup (SqT.of (show delp p Gv t = some (.tup [o3, o4]) from (delp_ne tp).trans (sv _ _ tp (sl _ _ et)))) (.cons (Rp.same (delp_same y3) r3) (.cons (Rp.same (delp_same y4) r4) .nil))) .nil))
      obtain ⟨d, hd, rv⟩ := RpAll.mem rp hv
      have fd : Fine 11 810 d := by
        rcases List.mem_cons.mp hd with e | hd
        · rw [e]
          exact (odd_fine m1).mono (by decide) (by decide)
        rcases List.mem_cons.mp hd with e | hd
        · rw [e]
          exact (odd_fine m2).mono (by decide) (by decide)
        rcases List.mem_cons.mp hd with e | hd
        · rw [e]
          exact pair_fine (odd_fine m3) (odd_fine m4)
        · cases hd
      replace rv : Rp K Gv v d := Rp.same delp_le rv
      obtain ⟨f1, f2, f3⟩ := told_fine fd
      clear rp hd hv y1 y2 y3 y4 r1 r2 r3 r4 x1 x2 x3 x4 el et
      have z3 : ((σ.set 2 (some (V.int (0 + (i : Int))))).set 3 (some v))[3]? = some (some v) := by simp [L0]
      refine ⟨_, z3, v, rfl, fun la xs Ga sa na ea pa => ?_⟩
      refine ⟨_, z3, v, rfl, fun lb ys Gb sb nb eb pb => ?_⟩
      have lx : xs.length = 7 := (paired_len pa).symm
      have ly : ys.length = 10 := (paired_len pb).symm
      refine ⟨la, lb, xs, ys, rfl, rfl, sb _ _ ea, eb, sz (by omega), fun q Gq fq sq eq => ?_⟩
      have pr : Paired (RowAt Gq v) ((List.range 17).map C) (xs ++ ys) := paired_app (paired_map pa fun c x r => (r.same sb).same sq) (paired_map pb fun c x r => r.same sq)
      have hl : (xs ++ ys).length = 17 := by rw [List.length_append, lx, ly]
      have rq : Rp K Gq v d := Rp.same ((sa.trans sb).trans sq) rv
      have Pq : PenAt Gq p c ns (5 * (i + 1)) := ((Pv.same sa).same sb).same sq
      generalize xs ++ ys = rows at eq pr hl ⊢
      have q0 : (((σ.set 2 (some (V.int (0 + (i : Int))))).set 3 (some v)).set 4 (some (V.ref q))).length = 13 := by simp [L0]
      have q1 : (((σ.set 2 (some (V.int (0 + (i : Int))))).set 3 (some v)).set 4 (some (V.ref q)))[1]? = some (some (V.ref p)) := by simp [v1]
      have q3 : (((σ.set 2 (some (V.int (0 + (i : Int))))).set 3 (some v)).set 4 (some (V.ref q)))[3]? = some (some v) := by simp [L0]
      have q4 : (((σ.set 2 (some (V.int (0 + (i : Int))))).set 3 (some v)).set 4 (some (V.ref q)))[4]? = some (some (V.ref q)) := by simp [L0]
      refine ⟨_, q4, q, rows, rfl, .inl (SqL.of eq), (rows.length : Int), rfl, by omega, by omega, for_range (n := rows.length) (fun j τ H => τ.length = 13 ∧ τ[1]? = some (some (.ref p)) ∧ τ[3]? = some (some v) ∧ τ[4]? = some (some (.ref q)) ∧ Same Gq H) ⟨q0, q1, q3, q4, .refl _⟩ ?_ ?_⟩
      · intro j τ G hj ⟨t0, t1, t3, t4, sg⟩
        have hx : rows[j]? = some rows[j] := List.getElem?_eq_getElem hj
        obtain ⟨Cj, hC, tt, a1, b1, f, er, et, ea1, eb1⟩ := paired_get pr hx
        obtain ⟨j17, rfl⟩ := row_class hC
        have hj18 : j < 18 := by omega
        obtain ⟨nw, ex⟩ := A.ex j hj18
        rw [er] at hx
        have u4 : (τ.set 5 (some (V.int (0 + (j : Int)))))[4]? = some (some (V.ref q)) := by simp [t4]
        have u5 : (τ.set 5 (some (V.int (0 + (j : Int)))))[5]? = some (some (V.int (0 + (j : Int)))) := by simp [t0]
        refine ⟨_, u4, _, u5, q, rows, _, .ref tt, rfl, rfl, SqL.of (sg _ _ eq), (by rw [Int.zero_add]; exact atI_nat hx), tt, _, rfl, SqT.of (sg _ _ et), rfl, .ref a1, _, rfl, .ref b1, _, rfl, v, _, rfl, v, _, rfl, rfl, ?_⟩
        have w0 : (((((τ.set 5 (some (V.int (0 + (j : Int))))).set 6 (some (V.ref a1))).set 7 (some (V.ref b1))).set 8 (some v)).set 9 (some v)).length = 13 := by simp [t0]
        have w1 : (((((τ.set 5 (some (V.int (0 + (j : Int))))).set 6 (some (V.ref a1))).set 7 (some (V.ref b1))).set 8 (some v)).set 9 (some v))[1]? = some (some (V.ref p)) := by simp [t1]
        have w3 : (((((τ.set 5 (some (V.int (0 + (j : Int))))).set 6 (some (V.ref a1))).set 7 (some (V.ref b1))).set 8 (some v)).set 9 (some v))[3]? = some (some v) := by simp [t3]
        have w4 : (((((τ.set 5 (some (V.int (0 + (j : Int))))).set 6 (some (V.ref a1))).set 7 (some (V.ref b1))).set 8 (some v)).set 9 (some v))[4]? = some (some (V.ref q)) := by simp [t4]
        have w5 : (((((τ.set 5 (some (V.int (0 + (j : Int))))).set 6 (some (V.ref a1))).set 7 (some (V.ref b1))).set 8 (some v)).set 9 (some v))[5]? = some (some (V.int (0 + (j : Int)))) := by simp [t0]
        have w6 : (((((τ.set 5 (some (V.int (0 + (j : Int))))).set 6 (some (V.ref a1))).set 7 (some (V.ref b1))).set 8 (some v)).set 9 (some v))[6]? = some (some (V.ref a1)) := by simp [t0]
        have w7 : (((((τ.set 5 (some (V.int (0 + (j : Int))))).set 6 (some (V.ref a1))).set 7 (some (V.ref b1))).set 8 (some v)).set 9 (some v))[7]? = some (some (V.ref b1)) := by simp [t0]
        have w8 : (((((τ.set 5 (some (V.int (0 + (j : Int))))).set 6 (some (V.ref a1))).set 7 (some (V.ref b1))).set 8 (some v)).set 9 (some v))[8]? = some (some v) := by simp [t0]
        have w9 : (((((τ.set 5 (some (V.int (0 + (j : Int))))).set 6 (some (V.ref a1))).set 7 (some (V.ref b1))).set 8 (some v)).set 9 (some v))[9]? = some (some v) := by simp [t0]
        generalize (((((τ.set 5 (some (V.int (0 + (j : Int))))).set 6 (some (V.ref a1))).set 7 (some (V.ref b1))).set 8 (some v)).set 9 (some v)) = τ9 at w0 w1 w3 w4 w5 w6 w7 w8 w9 ⊢
        refine ⟨_, w8, _, w9, sz (by simp), fun n1 M1 fn1 nn1 sn1 en1 => ?_⟩
        have rm := Rp.same (sg.trans sn1) rq
        refine ⟨.ref n1, .list [d, d], rfl, .lst (SqL.of en1) (.cons rm (.cons rm .nil)) nn1, f1, f2, f3, ?_⟩
        refine ⟨_, w3, _, w3, sz (by simp), fun n2 M2 fn2 nn2 sn2 en2 => ?_⟩
        have rm2 := Rp.same sn2 rm
        refine ⟨.ref n2, .list [d, d], rfl, .lst (SqL.of en2) (.cons rm2 (.cons rm2 .nil)) nn2, f1, f2, f3, rfl, false, by simp, iteF ?_⟩
        refine ⟨_, w6, _, w7, sz (by simp), fun tm Gm fm sm em => ?_⟩
        have sgm : Same Gq Gm := ((sg.trans sn1).trans sn2).trans sm
        refine ⟨tm, rfl, ⟨_, SqT.of em⟩, for_tup (xs := [.ref a1, .ref b1]) (fun e ρ H => ρ.length = 13 ∧ ρ[1]? = some (some (.ref p)) ∧ ρ[3]? = some (some v) ∧ ρ[4]? = some (some (.ref q)) ∧ ρ[5]? = some (some (.int (0 + (j : Int)))) ∧ Same Gm H) ⟨w0, w1, w3, w4, w5, .refl _⟩ ?_ ?_ ?_⟩
        · intro e ρ H _ ⟨_, _, _, _, _, s⟩
          exact SqT.of (s _ _ em)
        · intro e x ρ G2 hx2 ⟨p0, p1, p3, p4, p5, sp⟩
          have ox : ∃ ax, x = .ref ax ∧ ExO G2 ax (C j) := by
            have := List.mem_of_getElem? hx2
            rcases List.mem_cons.mp this with e | this
            · exact ⟨a1, e, .inr ⟨_, _, (ea1.same sgm).same sp⟩⟩
            rcases List.mem_cons.mp this with e | this
            · exact ⟨b1, e, .inr ⟨_, _, (eb1.same sgm).same sp⟩⟩
            · cases this
          obtain ⟨ax, rfl, eo⟩ := ox
          have s10 : (ρ.set 10 (some (V.ref ax)))[10]? = some (some (V.ref ax)) := by simp [p0]
          refine ⟨_, s10, ax, C j, _, _, _, _, _, rfl, eo, ex, .ty _, kit_bt (A.mro j hj18) "ValueError" (by decide +kernel), _, s10, ax, C j, _, _, _, _, _, rfl, eo, ex, .ty _, kit_bt (A.mro j hj18) "LookupError" (by decide +kernel), _, s10, ax, C j, _, _, _, _, _, rfl, eo, ex, .ty _, kit_bt (A.mro j hj18) "OverflowError" (by decide +kernel), sz (by simp), fun lb2 Gb2 fb2 nb2 sb2 eb2 => ?_⟩
          have h0 : ((ρ.set 10 (some (V.ref ax))).set 11 (some (V.ref lb2))).length = 13 := by simp [p0]
          have h1 : ((ρ.set 10 (some (V.ref ax))).set 11 (some (V.ref lb2)))[1]? = some (some (V.ref p)) := by simp [p1]
          have h3 : ((ρ.set 10 (some (V.ref ax))).set 11 (some (V.ref lb2)))[3]? = some (some v) := by simp [p3]
          have h4 : ((ρ.set 10 (some (V.ref ax))).set 11 (some (V.ref lb2)))[4]? = some (some (V.ref q)) := by simp [p4]
          have h5 : ((ρ.set 10 (some (V.ref ax))).set 11 (some (V.ref lb2)))[5]? = some (some (V.int (0 + (j : Int)))) := by simp [p5]
          have h10 : ((ρ.set 10 (some (V.ref ax))).set 11 (some (V.ref lb2)))[10]? = some (some (V.ref ax)) := by simp [p0]
          have h11 : ((ρ.set 10 (some (V.ref ax))).set 11 (some (V.ref lb2)))[11]? = some (some (V.ref lb2)) := by simp [p0]
          refine ⟨_, h11, 3, rfl, by decide, by decide, fun D hD => lc_bools (fun (i : Nat) => decide (V.int (0 + (i : Int)) = V.int (bsOf j))) hD (by decide) ?_ ?_⟩
          · intro i H Q hi3 s k
            have k12 : ((wipe ((ρ.set 10 (some (V.ref ax))).set 11 (some (V.ref lb2))) [12]).set 12 (some (V.int (0 + (i : Int)))))[12]? = some (some (V.int (0 + (i : Int)))) := by simp [wipe, h0]
            have k10 : ((wipe ((ρ.set 10 (some (V.ref ax))).set 11 (some (V.ref lb2))) [12]).set 12 (some (V.int (0 + (i : Int)))))[10]? = some (some (V.ref ax)) := by simp [wipe, h10]
            exact ⟨_, k12, _, k10, ax, j, rfl, hj18, (eo.same sb2).same s, fun H' sH => ⟨rfl, k H' sH⟩⟩
          · intro H s e
            refine ne_bools (bs := [(bmOf j).contains (.type "ValueError"), (bmOf j).contains (.type "LookupError"), (bmOf j).contains (.type "OverflowError")]) (s _ _ eb2) e (bases_eq j) ⟨false, rfl, iteF ?_⟩
            refine ⟨_, h10, ax, j, rfl, hj18, (eo.same sb2).same s, fun lk Hk sk nk ek => ?_⟩
            rw [kindsL_map] at ek
            refine ⟨18, rfl, by decide, by decide, fun D2 hD2 => lc_bools (fun (i : Nat) => decide (V.int (0 + (i : Int)) = V.int (0 + (j : Int)))) hD2 (by decide) ?_ ?_⟩
            · intro i H Q hi3 s k
              have k12 : ((wipe ((ρ.set 10 (some (V.ref ax))).set 11 (some (V.ref lb2))) [12]).set 12 (some (V.int (0 + (i : Int)))))[12]? = some (some (V.int (0 + (i : Int)))) := by simp [wipe, h0]
              have k5 : ((wipe ((ρ.set 10 (some (V.ref ax))).set 11 (some (V.ref lb2))) [12]).set 12 (some (V.int (0 + (i : Int)))))[5]? = some (some (V.int (0 + (j : Int)))) := by simp [wipe, h5]
              exact ⟨_, k12, _, k5, rfl, k H (.refl _)⟩
            · intro H' s' e'
              exact ne_bools (s' _ _ ek) e' (kinds_eq j) ⟨false, rfl, iteF ⟨h0, h1, h3, h4, h5, (((sp.trans sb2).trans s).trans sk).trans s'⟩⟩
        · intro ρ G2 ⟨p0, p1, p3, p4, p5, sp⟩
          exact ⟨p0, p1, p3, p4, sgm.trans sp⟩
      · intro τ G ⟨t0, t1, t3, t4, sg⟩
        exact ⟨t0, t1, Pq.same sg⟩
    · intro σ G ⟨L0, v1, P0⟩ ao Go fo so eo
      obtain ⟨nw, ex⟩ := A.ex 17 (by decide)
      have s10 : (σ.set 10 (some (V.ref ao)))[10]? = some (some (V.ref ao)) := by simp [L0]
      refine ⟨_, s10, ao, C 17, _, _, _, _, _, rfl, .inl eo, ex, .ty _, kit_bt (A.mro 17 (by decide)) "ValueError" (by decide +kernel), true, rfl, iteT ?_⟩
      refine ⟨_, s10, ao, 17, rfl, by decide, .inl eo, fun lk Hk sk nk ek => ?_⟩
      rw [kindsL_map] at ek
      refine ⟨18, rfl, by decide, by decide, fun D hD => lc_bools (fun (i : Nat) => decide (V.int (0 + (i : Int)) = V.int 17)) hD (by decide) ?_ ?_⟩
      · intro i H Q hi3 s k
        have k12 : ((wipe (σ.set 10 (some (V.ref ao))) [12]).set 12 (some (V.int (0 + (i : Int)))))[12]? = some (some (V.int (0 + (i : Int)))) := by simp [wipe, L0]
        exact ⟨_, k12, rfl, k H (.refl _)⟩
      · intro H s e
        exact eq_bools (s _ _ ek) e kinds_eq17 (kk _)

end
end K00

set_option Elab.async false
set_option linter.all false
set_option maxRecDepth 100000
set_option maxHeartbeats 8000000
namespace K00
open PySem L2 Pen RG Dat Exn
def cAt (cl : List Addr) (k : Nat) : Addr := cl.getD k 0
theorem cAt_inj {cl : List Addr} (n : cl.Nodup) {i j : Nat} (hi : i < cl.length) (hj : j < cl.length) (e : cAt cl i = cAt cl j) : i = j := by
  unfold cAt at e
  rw [List.getD_eq_getElem?_getD, List.getD_eq_getElem?_getD, List.getElem?_eq_getElem hi, List.getElem?_eq_getElem hj] at e
  exact (List.getElem_inj n).mp e
theorem all_mk {l : PySem.W.OpenLaw} {w : World} {K : PySem.W.Frag} {h : Heap} {mg : Str → Option Value} {fa C0 C1 C2 C3 C4 C5 C6 C7 C8 C9 C10 C11 C12 C13 C14 C15 C16 C17 f0 f1 f2 f3 f4 f5 f6 f7 f8 f9 f10 f11 f12 f13 f14 f15 f16 f17 N0 N1 N2 N3 N4 N5 N6 N7 N8 N9 N10 N11 N12 N13 N14 N15 N16 N17 cda cc : Addr} {nm0 q0 nm1 q1 nm2 q2 nm3 q3 nm4 q4 nm5 q5 nm6 q6 nm7 q7 nm8 q8 nm9 q9 nm10 q10 nm11 q11 nm12 q12 nm13 q13 nm14 q14 nm15 q15 nm16 q16 nm17 q17 file : Str} {bs0 sub0 bs1 sub1 bs2 sub2 bs3 sub3 bs4 sub4 bs5 sub5 bs6 sub6 bs7 sub7 bs8 sub8 bs9 sub9 bs10 sub10 bs11 sub11 bs12 sub12 bs13 sub13 bs14 sub14 bs15 sub15 bs16 sub16 bs17 sub17 : List Value} {sn0 sn1 sn2 sn3 sn4 sn5 sn6 sn7 sn8 sn9 sn10 sn11 sn12 sn13 sn14 sn15 sn16 sn17 : List Str} {ab0 ab1 ab2 ab3 ab4 ab5 ab6 ab7 ab8 ab9 ab10 ab11 ab12 ab13 ab14 ab15 ab16 ab17 : Bool} {col0 col1 col2 col3 col4 col5 col6 col7 col8 col9 col10 col11 col12 col13 col14 col15 col16 col17 : Option Bool} {dd0 od0 an0 dd1 od1 an1 dd2 od2 an2 dd3 od3 an3 dd4 od4 an4 dd5 od5 an5 dd6 od6 an6 dd7 od7 an7 dd8 od8 an8 dd9 od9 an9 dd10 od10 an10 dd11 od11 an11 dd12 od12 an12 dd13 od13 an13 dd14 od14 an14 dd15 od15 an15 dd16 od16 an16 dd17 od17 an17 cdd cld : Option Addr} {ka0 kb0 kc0 kd0 ke0 ka1 kb1 kc1 kd1 ke1 ka2 kb2 kc2 kd2 ke2 ka3 kb3 kc3 kd3 ke3 ka4 kb4 kc4 kd4 ke4 ka5 kb5 kc5 kd5 ke5 ka6 kb6 kc6 kd6 ke6 ka7 kb7 kc7 kd7 ke7 ka8 kb8 kc8 kd8 ke8 ka9 kb9 kc9 kd9 ke9 ka10 kb10 kc10 kd10 ke10 ka11 kb11 kc11 kd11 ke11 ka12 kb12 kc12 kd12 ke12 ka13 kb13 kc13 kd13 ke13 ka14 kb14 kc14 kd14 ke14 ka15 kb15 kc15 kd15 ke15 ka16 kb16 kc16 kd16 ke16 ka17 kb17 kc17 kd17 ke17 : Option Value} {oc0 kV0 dc0 pm0 cd0 cv0 oc1 kV1 dc1 pm1 cd1 cv1 oc2 kV2 dc2 pm2 cd2 cv2 oc3 kV3 dc3 pm3 cd3 cv3 oc4 kV4 dc4 pm4 cd4 cv4 oc5 kV5 dc5 pm5 cd5 cv5 oc6 kV6 dc6 pm6 cd6 cv6 oc7 kV7 dc7 pm7 cd7 cv7 oc8 kV8 dc8 pm8 cd8 cv8 oc9 kV9 dc9 pm9 cd9 cv9 oc10 kV10 dc10 pm10 cd10 cv10 oc11 kV11 dc11 pm11 cd11 cv11 oc12 kV12 dc12 pm12 cd12 cv12 oc13 kV13 dc13 pm13 cd13 cv13 oc14 kV14 dc14 pm14 cd14 cv14 oc15 kV15 dc15 pm15 cd15 cv15 oc16 kV16 dc16 pm16 cd16 cv16 oc17 kV17 dc17 pm17 cv17 ccl cl : Value} {sl0 sl1 sl2 sl3 sl4 sl5 sl6 sl7 sl8 sl9 sl10 sl11 sl12 sl13 sl14 sl15 sl16 sl17 ccs csl : Array (Option Value)} {vs : Array Value} {tf : Tok} {g0 g1 g2 g3 g4 g5 g6 g7 g8 : Addr} {god0 gan0 god1 gan1 god2 gan2 god3 gan3 god4 gan4 god5 gan5 god6 gan6 god7 gan7 god8 gan8 : Option Addr} {goc0 gkV0 gdc0 gpm0 gcd0 gct0 goc1 gkV1 gdc1 gpm1 gcd1 gct1 goc2 gkV2 gdc2 gpm2 gcd2 gct2 goc3 gkV3 gdc3 gpm3 gcd3 gct3 goc4 gkV4 gdc4 gpm4 gcd4 gct4 goc5 gkV5 gdc5 gpm5 gcd5 gct5 goc6 gkV6 gdc6 gpm6 gcd6 gct6 goc7 gkV7 gdc7 gpm7 gcd7 gct7 goc8 gkV8 gdc8 gpm8 gcd8 gct8 : Value} {gsl0 gsl1 gsl2 gsl3 gsl4 gsl5 gsl6 gsl7 gsl8 : Array (Option Value)} (X : K.In h) (G : h.Ns mainGlobals mg) (hfa : mg "law" = some (.ref fa))
    (cg : PySem.W.specialIn K (.builtin "object.__class__") "__get__" = some (some (.builtin "getset_descriptor.__get__")))
    (ctk : PySem.W.takesIn K (.builtin "object.__class__") = some true)
    (z_int : PySem.W.nsIn K mainGlobals "int" = some none)
    (z_len : PySem.W.nsIn K mainGlobals "len" = some none)
    (z_abs : PySem.W.nsIn K mainGlobals "abs" = some none)
    (z_list : PySem.W.nsIn K mainGlobals "list" = some none)
    (z_isinstance : PySem.W.nsIn K mainGlobals "isinstance" = some none)
    (z_repr : PySem.W.nsIn K mainGlobals "repr" = some none)
    (z_range : PySem.W.nsIn K mainGlobals "range" = some none)
    (z_ValueError : PySem.W.nsIn K mainGlobals "ValueError" = some none)
    (z_LookupError : PySem.W.nsIn K mainGlobals "LookupError" = some none)
    (z_OverflowError : PySem.W.nsIn K mainGlobals "OverflowError" = some none)
    (aC0 : PySem.W.nsIn K mainGlobals "InvalidHandler" = some (some (.ref C0)))
    (xL0 : K.lookup C0 = some (excClassObj nm0 q0 C0 N0 bs0 veL true sn0 sub0 ab0 col0 dd0 ka0 kb0 kc0 kd0 ke0 "ValueError.__new__"))
    (sa0 : PySem.W.findIn K (.ref C0) "__setattr__" = some (some (.builtin "object.__setattr__")))
    (ga0 : PySem.W.findIn K (.ref C0) "__getattribute__" = some (some (.builtin "BaseException.__getattribute__")))
    (gg0 : PySem.W.findIn K (.ref C0) "__getattr__" = some none)
    (ca0 : PySem.W.findIn K (.ref C0) "__class__" = some (some (.builtin "object.__class__")))
    (ke_0 : PySem.W.keepIn K (.ref C0) = true)
    (no0 : PySem.W.findIn K (.ref C0) "value" = some none)
    (tk0 : PySem.W.takerIn K C0 "value" = some none)
    (iC0 : PySem.W.findIn K (.ref C0) "__init__" = some (some (.ref f0)))
    (tI0 : PySem.W.typeIn K (.ref f0) = some (.type "function"))
    (lI0 : K.lookup f0 = some ⟨oc0, od0, .func (PySem.W.fnOf "__init__" "InvalidHandler.__init__" (defArgs sI1) (defBody sI1) (defScope sI1) .none kV0 dc0 pm0 an0 cd0 cv0), sl0⟩)
    (cI0 : PySem.W.codeIn K cd0 "InvalidHandler.__init__" = true)
    (kI0 : PySem.W.keepIn K (.ref f0) = true)
    (aC1 : PySem.W.nsIn K mainGlobals "InvalidRows" = some (some (.ref C1)))
    (xL1 : K.lookup C1 = some (excClassObj nm1 q1 C1 N1 bs1 veL true sn1 sub1 ab1 col1 dd1 ka1 kb1 kc1 kd1 ke1 "ValueError.__new__"))
    (sa1 : PySem.W.findIn K (.ref C1) "__setattr__" = some (some (.builtin "object.__setattr__")))
    (ga1 : PySem.W.findIn K (.ref C1) "__getattribute__" = some (some (.builtin "BaseException.__getattribute__")))
    (gg1 : PySem.W.findIn K (.ref C1) "__getattr__" = some none)
    (ca1 : PySem.W.findIn K (.ref C1) "__class__" = some (some (.builtin "object.__class__")))
    (ke_1 : PySem.W.keepIn K (.ref C1) = true)
    (no1 : PySem.W.findIn K (.ref C1) "value" = some none)
    (tk1 : PySem.W.takerIn K C1 "value" = some none)
    (iC1 : PySem.W.findIn K (.ref C1) "__init__" = some (some (.ref f1)))
    (tI1 : PySem.W.typeIn K (.ref f1) = some (.type "function"))
    (lI1 : K.lookup f1 = some ⟨oc1, od1, .func (PySem.W.fnOf "__init__" "InvalidRows.__init__" (defArgs sI2) (defBody sI2) (defScope sI2) .none kV1 dc1 pm1 an1 cd1 cv1), sl1⟩)
    (cI1 : PySem.W.codeIn K cd1 "InvalidRows.__init__" = true)
    (kI1 : PySem.W.keepIn K (.ref f1) = true)
    (aC2 : PySem.W.nsIn K mainGlobals "InvalidMessage" = some (some (.ref C2)))
    (xL2 : K.lookup C2 = some (excClassObj nm2 q2 C2 N2 bs2 veL true sn2 sub2 ab2 col2 dd2 ka2 kb2 kc2 kd2 ke2 "ValueError.__new__"))
    (sa2 : PySem.W.findIn K (.ref C2) "__setattr__" = some (some (.builtin "object.__setattr__")))
    (ga2 : PySem.W.findIn K (.ref C2) "__getattribute__" = some (some (.builtin "BaseException.__getattribute__")))
    (gg2 : PySem.W.findIn K (.ref C2) "__getattr__" = some none)
    (ca2 : PySem.W.findIn K (.ref C2) "__class__" = some (some (.builtin "object.__class__")))
    (ke_2 : PySem.W.keepIn K (.ref C2) = true)
    (no2 : PySem.W.findIn K (.ref C2) "value" = some none)
    (tk2 : PySem.W.takerIn K C2 "value" = some none)
    (iC2 : PySem.W.findIn K (.ref C2) "__init__" = some (some (.ref f2)))
    (tI2 : PySem.W.typeIn K (.ref f2) = some (.type "function"))
    (lI2 : K.lookup f2 = some ⟨oc2, od2, .func (PySem.W.fnOf "__init__" "InvalidMessage.__init__" (defArgs sI3) (defBody sI3) (defScope sI3) .none kV2 dc2 pm2 an2 cd2 cv2), sl2⟩)
    (cI2 : PySem.W.codeIn K cd2 "InvalidMessage.__init__" = true)
    (kI2 : PySem.W.keepIn K (.ref f2) = true)
    (aC3 : PySem.W.nsIn K mainGlobals "InvalidWay" = some (some (.ref C3)))
    (xL3 : K.lookup C3 = some (excClassObj nm3 q3 C3 N3 bs3 veL true sn3 sub3 ab3 col3 dd3 ka3 kb3 kc3 kd3 ke3 "ValueError.__new__"))
    (sa3 : PySem.W.findIn K (.ref C3) "__setattr__" = some (some (.builtin "object.__setattr__")))
    (ga3 : PySem.W.findIn K (.ref C3) "__getattribute__" = some (some (.builtin "BaseException.__getattribute__")))
    (gg3 : PySem.W.findIn K (.ref C3) "__getattr__" = some none)
    (ca3 : PySem.W.findIn K (.ref C3) "__class__" = some (some (.builtin "object.__class__")))
    (ke_3 : PySem.W.keepIn K (.ref C3) = true)
    (no3 : PySem.W.findIn K (.ref C3) "value" = some none)
    (tk3 : PySem.W.takerIn K C3 "value" = some none)
    (iC3 : PySem.W.findIn K (.ref C3) "__init__" = some (some (.ref f3)))
    (tI3 : PySem.W.typeIn K (.ref f3) = some (.type "function"))
    (lI3 : K.lookup f3 = some ⟨oc3, od3, .func (PySem.W.fnOf "__init__" "InvalidWay.__init__" (defArgs sI4) (defBody sI4) (defScope sI4) .none kV3 dc3 pm3 an3 cd3 cv3), sl3⟩)
    (cI3 : PySem.W.codeIn K cd3 "InvalidWay.__init__" = true)
    (kI3 : PySem.W.keepIn K (.ref f3) = true)
    (aC4 : PySem.W.nsIn K mainGlobals "InvalidState" = some (some (.ref C4)))
    (xL4 : K.lookup C4 = some (excClassObj nm4 q4 C4 N4 bs4 veL true sn4 sub4 ab4 col4 dd4 ka4 kb4 kc4 kd4 ke4 "ValueError.__new__"))
    (sa4 : PySem.W.findIn K (.ref C4) "__setattr__" = some (some (.builtin "object.__setattr__")))
    (ga4 : PySem.W.findIn K (.ref C4) "__getattribute__" = some (some (.builtin "BaseException.__getattribute__")))
    (gg4 : PySem.W.findIn K (.ref C4) "__getattr__" = some none)
    (ca4 : PySem.W.findIn K (.ref C4) "__class__" = some (some (.builtin "object.__class__")))
    (ke_4 : PySem.W.keepIn K (.ref C4) = true)
    (no4 : PySem.W.findIn K (.ref C4) "value" = some none)
    (tk4 : PySem.W.takerIn K C4 "value" = some none)
    (iC4 : PySem.W.findIn K (.ref C4) "__init__" = some (some (.ref f4)))
    (tI4 : PySem.W.typeIn K (.ref f4) = some (.type "function"))
    (lI4 : K.lookup f4 = some ⟨oc4, od4, .func (PySem.W.fnOf "__init__" "InvalidState.__init__" (defArgs sI8) (defBody sI8) (defScope sI8) .none kV4 dc4 pm4 an4 cd4 cv4), sl4⟩)
    (cI4 : PySem.W.codeIn K cd4 "InvalidState.__init__" = true)
    (kI4 : PySem.W.keepIn K (.ref f4) = true)
    (aC5 : PySem.W.nsIn K mainGlobals "InvalidCount" = some (some (.ref C5)))
    (xL5 : K.lookup C5 = some (excClassObj nm5 q5 C5 N5 bs5 veL true sn5 sub5 ab5 col5 dd5 ka5 kb5 kc5 kd5 ke5 "ValueError.__new__"))
    (sa5 : PySem.W.findIn K (.ref C5) "__setattr__" = some (some (.builtin "object.__setattr__")))
    (ga5 : PySem.W.findIn K (.ref C5) "__getattribute__" = some (some (.builtin "BaseException.__getattribute__")))
    (gg5 : PySem.W.findIn K (.ref C5) "__getattr__" = some none)
    (ca5 : PySem.W.findIn K (.ref C5) "__class__" = some (some (.builtin "object.__class__")))
    (ke_5 : PySem.W.keepIn K (.ref C5) = true)
    (no5 : PySem.W.findIn K (.ref C5) "value" = some none)
    (tk5 : PySem.W.takerIn K C5 "value" = some none)
    (iC5 : PySem.W.findIn K (.ref C5) "__init__" = some (some (.ref f5)))
    (tI5 : PySem.W.typeIn K (.ref f5) = some (.type "function"))
    (lI5 : K.lookup f5 = some ⟨oc5, od5, .func (PySem.W.fnOf "__init__" "InvalidCount.__init__" (defArgs sI12) (defBody sI12) (defScope sI12) .none kV5 dc5 pm5 an5 cd5 cv5), sl5⟩)
    (cI5 : PySem.W.codeIn K cd5 "InvalidCount.__init__" = true)
    (kI5 : PySem.W.keepIn K (.ref f5) = true)
    (aC6 : PySem.W.nsIn K mainGlobals "NoService" = some (some (.ref C6)))
    (xL6 : K.lookup C6 = some (excClassObj nm6 q6 C6 N6 bs6 leL true sn6 sub6 ab6 col6 dd6 ka6 kb6 kc6 kd6 ke6 "LookupError.__new__"))
    (sa6 : PySem.W.findIn K (.ref C6) "__setattr__" = some (some (.builtin "object.__setattr__")))
    (ga6 : PySem.W.findIn K (.ref C6) "__getattribute__" = some (some (.builtin "BaseException.__getattribute__")))
    (gg6 : PySem.W.findIn K (.ref C6) "__getattr__" = some none)
    (ca6 : PySem.W.findIn K (.ref C6) "__class__" = some (some (.builtin "object.__class__")))
    (ke_6 : PySem.W.keepIn K (.ref C6) = true)
    (no6 : PySem.W.findIn K (.ref C6) "value" = some none)
    (tk6 : PySem.W.takerIn K C6 "value" = some none)
    (iC6 : PySem.W.findIn K (.ref C6) "__init__" = some (some (.ref f6)))
    (tI6 : PySem.W.typeIn K (.ref f6) = some (.type "function"))
    (lI6 : K.lookup f6 = some ⟨oc6, od6, .func (PySem.W.fnOf "__init__" "NoService.__init__" (defArgs sI16) (defBody sI16) (defScope sI16) .none kV6 dc6 pm6 an6 cd6 cv6), sl6⟩)
    (cI6 : PySem.W.codeIn K cd6 "NoService.__init__" = true)
    (kI6 : PySem.W.keepIn K (.ref f6) = true)
    (aC7 : PySem.W.nsIn K mainGlobals "InvalidService" = some (some (.ref C7)))
    (xL7 : K.lookup C7 = some (excClassObj nm7 q7 C7 N7 bs7 veL true sn7 sub7 ab7 col7 dd7 ka7 kb7 kc7 kd7 ke7 "ValueError.__new__"))
    (sa7 : PySem.W.findIn K (.ref C7) "__setattr__" = some (some (.builtin "object.__setattr__")))
    (ga7 : PySem.W.findIn K (.ref C7) "__getattribute__" = some (some (.builtin "BaseException.__getattribute__")))
    (gg7 : PySem.W.findIn K (.ref C7) "__getattr__" = some none)
    (ca7 : PySem.W.findIn K (.ref C7) "__class__" = some (some (.builtin "object.__class__")))
    (ke_7 : PySem.W.keepIn K (.ref C7) = true)
    (no7 : PySem.W.findIn K (.ref C7) "reason" = some none)
    (tk7 : PySem.W.takerIn K C7 "reason" = some none)
    (iC7 : PySem.W.findIn K (.ref C7) "__init__" = some (some (.ref f7)))
    (tI7 : PySem.W.typeIn K (.ref f7) = some (.type "function"))
    (lI7 : K.lookup f7 = some ⟨oc7, od7, .func (PySem.W.fnOf "__init__" "InvalidService.__init__" (defArgs sI5) (defBody sI5) (defScope sI5) .none kV7 dc7 pm7 an7 cd7 cv7), sl7⟩)
    (cI7 : PySem.W.codeIn K cd7 "InvalidService.__init__" = true)
    (kI7 : PySem.W.keepIn K (.ref f7) = true)
    (aC8 : PySem.W.nsIn K mainGlobals "InvalidSystem" = some (some (.ref C8)))
    (xL8 : K.lookup C8 = some (excClassObj nm8 q8 C8 N8 bs8 veL true sn8 sub8 ab8 col8 dd8 ka8 kb8 kc8 kd8 ke8 "ValueError.__new__"))
    (sa8 : PySem.W.findIn K (.ref C8) "__setattr__" = some (some (.builtin "object.__setattr__")))
    (ga8 : PySem.W.findIn K (.ref C8) "__getattribute__" = some (some (.builtin "BaseException.__getattribute__")))
    (gg8 : PySem.W.findIn K (.ref C8) "__getattr__" = some none)
    (ca8 : PySem.W.findIn K (.ref C8) "__class__" = some (some (.builtin "object.__class__")))
    (ke_8 : PySem.W.keepIn K (.ref C8) = true)
    (no8 : PySem.W.findIn K (.ref C8) "reason" = some none)
    (tk8 : PySem.W.takerIn K C8 "reason" = some none)
    (iC8 : PySem.W.findIn K (.ref C8) "__init__" = some (some (.ref f8)))
    (tI8 : PySem.W.typeIn K (.ref f8) = some (.type "function"))
    (lI8 : K.lookup f8 = some ⟨oc8, od8, .func (PySem.W.fnOf "__init__" "InvalidSystem.__init__" (defArgs sI6) (defBody sI6) (defScope sI6) .none kV8 dc8 pm8 an8 cd8 cv8), sl8⟩)
    (cI8 : PySem.W.codeIn K cd8 "InvalidSystem.__init__" = true)
    (kI8 : PySem.W.keepIn K (.ref f8) = true)
    (aC9 : PySem.W.nsIn K mainGlobals "NotPlayed" = some (some (.ref C9)))
    (xL9 : K.lookup C9 = some (excClassObj nm9 q9 C9 N9 bs9 veL true sn9 sub9 ab9 col9 dd9 ka9 kb9 kc9 kd9 ke9 "ValueError.__new__"))
    (sa9 : PySem.W.findIn K (.ref C9) "__setattr__" = some (some (.builtin "object.__setattr__")))
    (ga9 : PySem.W.findIn K (.ref C9) "__getattribute__" = some (some (.builtin "BaseException.__getattribute__")))
    (gg9 : PySem.W.findIn K (.ref C9) "__getattr__" = some none)
    (ca9 : PySem.W.findIn K (.ref C9) "__class__" = some (some (.builtin "object.__class__")))
    (ke_9 : PySem.W.keepIn K (.ref C9) = true)
    (no9 : PySem.W.findIn K (.ref C9) "index" = some none)
    (tk9 : PySem.W.takerIn K C9 "index" = some none)
    (iC9 : PySem.W.findIn K (.ref C9) "__init__" = some (some (.ref f9)))
    (tI9 : PySem.W.typeIn K (.ref f9) = some (.type "function"))
    (lI9 : K.lookup f9 = some ⟨oc9, od9, .func (PySem.W.fnOf "__init__" "NotPlayed.__init__" (defArgs sI7) (defBody sI7) (defScope sI7) .none kV9 dc9 pm9 an9 cd9 cv9), sl9⟩)
    (cI9 : PySem.W.codeIn K cd9 "NotPlayed.__init__" = true)
    (kI9 : PySem.W.keepIn K (.ref f9) = true)
    (aC10 : PySem.W.nsIn K mainGlobals "InvalidTest" = some (some (.ref C10)))
    (xL10 : K.lookup C10 = some (excClassObj nm10 q10 C10 N10 bs10 veL true sn10 sub10 ab10 col10 dd10 ka10 kb10 kc10 kd10 ke10 "ValueError.__new__"))
    (sa10 : PySem.W.findIn K (.ref C10) "__setattr__" = some (some (.builtin "object.__setattr__")))
    (ga10 : PySem.W.findIn K (.ref C10) "__getattribute__" = some (some (.builtin "BaseException.__getattribute__")))
    (gg10 : PySem.W.findIn K (.ref C10) "__getattr__" = some none)
    (ca10 : PySem.W.findIn K (.ref C10) "__class__" = some (some (.builtin "object.__class__")))
    (ke_10 : PySem.W.keepIn K (.ref C10) = true)
    (no10 : PySem.W.findIn K (.ref C10) "test" = some none)
    (tk10 : PySem.W.takerIn K C10 "test" = some none)
    (iC10 : PySem.W.findIn K (.ref C10) "__init__" = some (some (.ref f10)))
    (tI10 : PySem.W.typeIn K (.ref f10) = some (.type "function"))
    (lI10 : K.lookup f10 = some ⟨oc10, od10, .func (PySem.W.fnOf "__init__" "InvalidTest.__init__" (defArgs sI9) (defBody sI9) (defScope sI9) .none kV10 dc10 pm10 an10 cd10 cv10), sl10⟩)
    (cI10 : PySem.W.codeIn K cd10 "InvalidTest.__init__" = true)
    (kI10 : PySem.W.keepIn K (.ref f10) = true)
    (aC11 : PySem.W.nsIn K mainGlobals "InvalidCut" = some (some (.ref C11)))
    (xL11 : K.lookup C11 = some (excClassObj nm11 q11 C11 N11 bs11 veL true sn11 sub11 ab11 col11 dd11 ka11 kb11 kc11 kd11 ke11 "ValueError.__new__"))
    (sa11 : PySem.W.findIn K (.ref C11) "__setattr__" = some (some (.builtin "object.__setattr__")))
    (ga11 : PySem.W.findIn K (.ref C11) "__getattribute__" = some (some (.builtin "BaseException.__getattribute__")))
    (gg11 : PySem.W.findIn K (.ref C11) "__getattr__" = some none)
    (ca11 : PySem.W.findIn K (.ref C11) "__class__" = some (some (.builtin "object.__class__")))
    (ke_11 : PySem.W.keepIn K (.ref C11) = true)
    (no11 : PySem.W.findIn K (.ref C11) "cut" = some none)
    (tk11 : PySem.W.takerIn K C11 "cut" = some none)
    (iC11 : PySem.W.findIn K (.ref C11) "__init__" = some (some (.ref f11)))
    (tI11 : PySem.W.typeIn K (.ref f11) = some (.type "function"))
    (lI11 : K.lookup f11 = some ⟨oc11, od11, .func (PySem.W.fnOf "__init__" "InvalidCut.__init__" (defArgs sI10) (defBody sI10) (defScope sI10) .none kV11 dc11 pm11 an11 cd11 cv11), sl11⟩)
    (cI11 : PySem.W.codeIn K cd11 "InvalidCut.__init__" = true)
    (kI11 : PySem.W.keepIn K (.ref f11) = true)
    (aC12 : PySem.W.nsIn K mainGlobals "NoFact" = some (some (.ref C12)))
    (xL12 : K.lookup C12 = some (excClassObj nm12 q12 C12 N12 bs12 leL true sn12 sub12 ab12 col12 dd12 ka12 kb12 kc12 kd12 ke12 "LookupError.__new__"))
    (sa12 : PySem.W.findIn K (.ref C12) "__setattr__" = some (some (.builtin "object.__setattr__")))
    (ga12 : PySem.W.findIn K (.ref C12) "__getattribute__" = some (some (.builtin "BaseException.__getattribute__")))
    (gg12 : PySem.W.findIn K (.ref C12) "__getattr__" = some none)
    (ca12 : PySem.W.findIn K (.ref C12) "__class__" = some (some (.builtin "object.__class__")))
    (ke_12 : PySem.W.keepIn K (.ref C12) = true)
    (no12 : PySem.W.findIn K (.ref C12) "fact" = some none)
    (tk12 : PySem.W.takerIn K C12 "fact" = some none)
    (iC12 : PySem.W.findIn K (.ref C12) "__init__" = some (some (.ref f12)))
    (tI12 : PySem.W.typeIn K (.ref f12) = some (.type "function"))
    (lI12 : K.lookup f12 = some ⟨oc12, od12, .func (PySem.W.fnOf "__init__" "NoFact.__init__" (defArgs sI13) (defBody sI13) (defScope sI13) .none kV12 dc12 pm12 an12 cd12 cv12), sl12⟩)
    (cI12 : PySem.W.codeIn K cd12 "NoFact.__init__" = true)
    (kI12 : PySem.W.keepIn K (.ref f12) = true)
    (aC13 : PySem.W.nsIn K mainGlobals "NoThing" = some (some (.ref C13)))
    (xL13 : K.lookup C13 = some (excClassObj nm13 q13 C13 N13 bs13 leL true sn13 sub13 ab13 col13 dd13 ka13 kb13 kc13 kd13 ke13 "LookupError.__new__"))
    (sa13 : PySem.W.findIn K (.ref C13) "__setattr__" = some (some (.builtin "object.__setattr__")))
    (ga13 : PySem.W.findIn K (.ref C13) "__getattribute__" = some (some (.builtin "BaseException.__getattribute__")))
    (gg13 : PySem.W.findIn K (.ref C13) "__getattr__" = some none)
    (ca13 : PySem.W.findIn K (.ref C13) "__class__" = some (some (.builtin "object.__class__")))
    (ke_13 : PySem.W.keepIn K (.ref C13) = true)
    (no13 : PySem.W.findIn K (.ref C13) "thing" = some none)
    (tk13 : PySem.W.takerIn K C13 "thing" = some none)
    (iC13 : PySem.W.findIn K (.ref C13) "__init__" = some (some (.ref f13)))
    (tI13 : PySem.W.typeIn K (.ref f13) = some (.type "function"))
    (lI13 : K.lookup f13 = some ⟨oc13, od13, .func (PySem.W.fnOf "__init__" "NoThing.__init__" (defArgs sI14) (defBody sI14) (defScope sI14) .none kV13 dc13 pm13 an13 cd13 cv13), sl13⟩)
    (cI13 : PySem.W.codeIn K cd13 "NoThing.__init__" = true)
    (kI13 : PySem.W.keepIn K (.ref f13) = true)
    (aC14 : PySem.W.nsIn K mainGlobals "NoWord" = some (some (.ref C14)))
    (xL14 : K.lookup C14 = some (excClassObj nm14 q14 C14 N14 bs14 leL true sn14 sub14 ab14 col14 dd14 ka14 kb14 kc14 kd14 ke14 "LookupError.__new__"))
    (sa14 : PySem.W.findIn K (.ref C14) "__setattr__" = some (some (.builtin "object.__setattr__")))
    (ga14 : PySem.W.findIn K (.ref C14) "__getattribute__" = some (some (.builtin "BaseException.__getattribute__")))
    (gg14 : PySem.W.findIn K (.ref C14) "__getattr__" = some none)
    (ca14 : PySem.W.findIn K (.ref C14) "__class__" = some (some (.builtin "object.__class__")))
    (ke_14 : PySem.W.keepIn K (.ref C14) = true)
    (no14 : PySem.W.findIn K (.ref C14) "word" = some none)
    (tk14 : PySem.W.takerIn K C14 "word" = some none)
    (iC14 : PySem.W.findIn K (.ref C14) "__init__" = some (some (.ref f14)))
    (tI14 : PySem.W.typeIn K (.ref f14) = some (.type "function"))
    (lI14 : K.lookup f14 = some ⟨oc14, od14, .func (PySem.W.fnOf "__init__" "NoWord.__init__" (defArgs sI15) (defBody sI15) (defScope sI15) .none kV14 dc14 pm14 an14 cd14 cv14), sl14⟩)
    (cI14 : PySem.W.codeIn K cd14 "NoWord.__init__" = true)
    (kI14 : PySem.W.keepIn K (.ref f14) = true)
    (aC15 : PySem.W.nsIn K mainGlobals "OutOfRange" = some (some (.ref C15)))
    (xL15 : K.lookup C15 = some (excClassObj nm15 q15 C15 N15 bs15 leL true sn15 sub15 ab15 col15 dd15 ka15 kb15 kc15 kd15 ke15 "LookupError.__new__"))
    (sa15 : PySem.W.findIn K (.ref C15) "__setattr__" = some (some (.builtin "object.__setattr__")))
    (ga15 : PySem.W.findIn K (.ref C15) "__getattribute__" = some (some (.builtin "BaseException.__getattribute__")))
    (gg15 : PySem.W.findIn K (.ref C15) "__getattr__" = some none)
    (ca15 : PySem.W.findIn K (.ref C15) "__class__" = some (some (.builtin "object.__class__")))
    (ke_15 : PySem.W.keepIn K (.ref C15) = true)
    (no15 : PySem.W.findIn K (.ref C15) "count" = some none)
    (tk15 : PySem.W.takerIn K C15 "count" = some none)
    (iC15 : PySem.W.findIn K (.ref C15) "__init__" = some (some (.ref f15)))
    (tI15 : PySem.W.typeIn K (.ref f15) = some (.type "function"))
    (lI15 : K.lookup f15 = some ⟨oc15, od15, .func (PySem.W.fnOf "__init__" "OutOfRange.__init__" (defArgs sI17) (defBody sI17) (defScope sI17) .none kV15 dc15 pm15 an15 cd15 cv15), sl15⟩)
    (cI15 : PySem.W.codeIn K cd15 "OutOfRange.__init__" = true)
    (kI15 : PySem.W.keepIn K (.ref f15) = true)
    (aC16 : PySem.W.nsIn K mainGlobals "TooMany" = some (some (.ref C16)))
    (xL16 : K.lookup C16 = some (excClassObj nm16 q16 C16 N16 bs16 oeL true sn16 sub16 ab16 col16 dd16 ka16 kb16 kc16 kd16 ke16 "OverflowError.__new__"))
    (sa16 : PySem.W.findIn K (.ref C16) "__setattr__" = some (some (.builtin "object.__setattr__")))
    (ga16 : PySem.W.findIn K (.ref C16) "__getattribute__" = some (some (.builtin "BaseException.__getattribute__")))
    (gg16 : PySem.W.findIn K (.ref C16) "__getattr__" = some none)
    (ca16 : PySem.W.findIn K (.ref C16) "__class__" = some (some (.builtin "object.__class__")))
    (ke_16 : PySem.W.keepIn K (.ref C16) = true)
    (no16 : PySem.W.findIn K (.ref C16) "most" = some none)
    (tk16 : PySem.W.takerIn K C16 "most" = some none)
    (iC16 : PySem.W.findIn K (.ref C16) "__init__" = some (some (.ref f16)))
    (tI16 : PySem.W.typeIn K (.ref f16) = some (.type "function"))
    (lI16 : K.lookup f16 = some ⟨oc16, od16, .func (PySem.W.fnOf "__init__" "TooMany.__init__" (defArgs sI18) (defBody sI18) (defScope sI18) .none kV16 dc16 pm16 an16 cd16 cv16), sl16⟩)
    (cI16 : PySem.W.codeIn K cd16 "TooMany.__init__" = true)
    (kI16 : PySem.W.keepIn K (.ref f16) = true)
    (aC17 : PySem.W.nsIn K mainGlobals "OtherWorld" = some (some (.ref C17)))
    (xL17 : K.lookup C17 = some (excClassObj nm17 q17 C17 N17 bs17 veL true sn17 sub17 ab17 col17 dd17 ka17 kb17 kc17 kd17 ke17 "ValueError.__new__"))
    (sa17 : PySem.W.findIn K (.ref C17) "__setattr__" = some (some (.builtin "object.__setattr__")))
    (ga17 : PySem.W.findIn K (.ref C17) "__getattribute__" = some (some (.builtin "BaseException.__getattribute__")))
    (gg17 : PySem.W.findIn K (.ref C17) "__getattr__" = some none)
    (ca17 : PySem.W.findIn K (.ref C17) "__class__" = some (some (.builtin "object.__class__")))
    (ke_17 : PySem.W.keepIn K (.ref C17) = true)
    (iC17 : PySem.W.findIn K (.ref C17) "__init__" = some (some (.ref f17)))
    (tI17 : PySem.W.typeIn K (.ref f17) = some (.type "function"))
    (lO : K.lookup f17 = some ⟨oc17, od17, .func (PySem.W.ksFn "__init__" "OtherWorld.__init__" owA owB owS .none kV17 dc17 pm17 an17 (.ref cda) cv17 cc), sl17⟩)
    (cO : PySem.W.codeIn K (.ref cda) "OtherWorld.__init__" = true)
    (lcd : K.lookup cda = some ⟨ccl, cdd, .fields vs, ccs⟩)
    (lcc : K.lookup cc = some ⟨cl, cld, .cell (some (.ref C17)), csl⟩)
    (zsup : PySem.W.nsIn K mainGlobals "super" = some none)
    (zopq : PySem.W.nsIn K cStatics "thirdparty.any" = some none)
    (sin : PySem.W.ks_superIn K C17 C17 "__init__" = some (some (.builtin "ValueError.__init__")))
    (aD0 : PySem.W.nsIn K mainGlobals "_law_pen" = some (some (.ref g0)))
    (lD0 : K.lookup g0 = some ⟨goc0, god0, .func (PySem.W.fnOf "_law_pen" "_law_pen" (defArgs sPen) (defBody sPen) (defScope sPen) .none gkV0 gdc0 gpm0 gan0 gcd0 gct0), gsl0⟩)
    (cD0 : PySem.W.codeIn K gcd0 "_law_pen" = true)
    (kD0 : PySem.W.keepIn K (.ref g0) = true)
    (aD1 : PySem.W.nsIn K mainGlobals "_law_draw" = some (some (.ref g1)))
    (lD1 : K.lookup g1 = some ⟨goc1, god1, .func (PySem.W.fnOf "_law_draw" "_law_draw" (defArgs sDraw) (defBody sDraw) (defScope sDraw) .none gkV1 gdc1 gpm1 gan1 gcd1 gct1), gsl1⟩)
    (cD1 : PySem.W.codeIn K gcd1 "_law_draw" = true)
    (kD1 : PySem.W.keepIn K (.ref g1) = true)
    (aD2 : PySem.W.nsIn K mainGlobals "_law_pick" = some (some (.ref g2)))
    (lD2 : K.lookup g2 = some ⟨goc2, god2, .func (PySem.W.fnOf "_law_pick" "_law_pick" (defArgs sPick) (defBody sPick) (defScope sPick) .none gkV2 gdc2 gpm2 gan2 gcd2 gct2), gsl2⟩)
    (cD2 : PySem.W.codeIn K gcd2 "_law_pick" = true)
    (kD2 : PySem.W.keepIn K (.ref g2) = true)
    (aD3 : PySem.W.nsIn K mainGlobals "_law_odd" = some (some (.ref g3)))
    (lD3 : K.lookup g3 = some ⟨goc3, god3, .func (PySem.W.fnOf "_law_odd" "_law_odd" (defArgs sOdd) (defBody sOdd) (defScope sOdd) .none gkV3 gdc3 gpm3 gan3 gcd3 gct3), gsl3⟩)
    (cD3 : PySem.W.codeIn K gcd3 "_law_odd" = true)
    (kD3 : PySem.W.keepIn K (.ref g3) = true)
    (aD4 : PySem.W.nsIn K mainGlobals "_law_values" = some (some (.ref g4)))
    (lD4 : K.lookup g4 = some ⟨goc4, god4, .func (PySem.W.fnOf "_law_values" "_law_values" (defArgs sVal) (defBody sVal) (defScope sVal) .none gkV4 gdc4 gpm4 gan4 gcd4 gct4), gsl4⟩)
    (cD4 : PySem.W.codeIn K gcd4 "_law_values" = true)
    (kD4 : PySem.W.keepIn K (.ref g4) = true)
    (aD5 : PySem.W.nsIn K mainGlobals "_law_others" = some (some (.ref g5)))
    (lD5 : K.lookup g5 = some ⟨goc5, god5, .func (PySem.W.fnOf "_law_others" "_law_others" (defArgs sOth) (defBody sOth) (defScope sOth) .none gkV5 gdc5 gpm5 gan5 gcd5 gct5), gsl5⟩)
    (cD5 : PySem.W.codeIn K gcd5 "_law_others" = true)
    (kD5 : PySem.W.keepIn K (.ref g5) = true)
    (aD6 : PySem.W.nsIn K mainGlobals "_law_base" = some (some (.ref g6)))
    (lD6 : K.lookup g6 = some ⟨goc6, god6, .func (PySem.W.fnOf "_law_base" "_law_base" (defArgs sBase) (defBody sBase) (defScope sBase) .none gkV6 gdc6 gpm6 gan6 gcd6 gct6), gsl6⟩)
    (cD6 : PySem.W.codeIn K gcd6 "_law_base" = true)
    (kD6 : PySem.W.keepIn K (.ref g6) = true)
    (aD7 : PySem.W.nsIn K mainGlobals "_law_kinds_of" = some (some (.ref g7)))
    (lD7 : K.lookup g7 = some ⟨goc7, god7, .func (PySem.W.fnOf "_law_kinds_of" "_law_kinds_of" (defArgs sKinds) (defBody sKinds) (defScope sKinds) .none gkV7 gdc7 gpm7 gan7 gcd7 gct7), gsl7⟩)
    (cD7 : PySem.W.codeIn K gcd7 "_law_kinds_of" = true)
    (kD7 : PySem.W.keepIn K (.ref g7) = true)
    (aD8 : PySem.W.nsIn K mainGlobals "law" = some (some (.ref g8)))
    (lD8 : K.lookup g8 = some ⟨goc8, god8, .func (PySem.W.fnOf "law" "law" (defArgs sLaw) (defBody sLaw) (defScope sLaw) .none gkV8 gdc8 gpm8 gan8 gcd8 gct8), gsl8⟩)
    (cD8 : PySem.W.codeIn K gcd8 "law" = true)
    (kD8 : PySem.W.keepIn K (.ref g8) = true)
    (v2 : vs[2]? = some (.str file tf))
    (hfile : ((l.prog.main.file : Str) == file) = true)
    (htop : (l.prog.main.scope.names.lookup ("super" : Str)).isSome = false)
    (df : ([C0, C1, C2, C3, C4, C5, C6, C7, C8, C9, C10, C11, C12, C13, C14, C15, C16, C17] : List Addr).Nodup) :
    ∃ fd : FuncData, (∀ (s : Shared) (v : Value), BindsTo s fd ⟨[v], []⟩ [("_law_script", v)]) ∧ ∀ base : Heap, K.In base → base.Ns mainGlobals mg → FnG l.prog w K mg base CX0 5 fa fd ["_law_script"] (spLaw K) := by
  have e := hfa.symm.trans (PySem.W.mg_of X G aD8)
  cases e
  have F0 := fun_mk (st := sPen) lD0 cD0 kD0
  have b0 := F0.binds (ps := ["_law_script"]) fun _ _ _ _ _ _ us hl => match us, hl with | [_], _ => rfl
  have T0 : DefT K mg "_law_pen" g0 := ⟨PySem.W.mg_of X G aD0, kD0⟩
  have F1 := fun_mk (st := sDraw) lD1 cD1 kD1
  have b1 := F1.binds (ps := ["_law_pen_here", "_law_many"]) fun _ _ _ _ _ _ us hl => match us, hl with | [_, _], _ => rfl
  have T1 : DefT K mg "_law_draw" g1 := ⟨PySem.W.mg_of X G aD1, kD1⟩
  have F2 := fun_mk (st := sPick) lD2 cD2 kD2
  have b2 := F2.binds (ps := ["_law_pen_here", "_law_items"]) fun _ _ _ _ _ _ us hl => match us, hl with | [_, _], _ => rfl
  have T2 : DefT K mg "_law_pick" g2 := ⟨PySem.W.mg_of X G aD2, kD2⟩
  have F3 := fun_mk (st := sOdd) lD3 cD3 kD3
  have b3 := F3.binds (ps := ["_law_pen_here"]) fun _ _ _ _ _ _ us hl => match us, hl with | [_], _ => rfl
  have T3 : DefT K mg "_law_odd" g3 := ⟨PySem.W.mg_of X G aD3, kD3⟩
  have F4 := fun_mk (st := sVal) lD4 cD4 kD4
  have b4 := F4.binds (ps := ["_law_odd_here"]) fun _ _ _ _ _ _ us hl => match us, hl with | [_], _ => rfl
  have T4 : DefT K mg "_law_values" g4 := ⟨PySem.W.mg_of X G aD4, kD4⟩
  have F5 := fun_mk (st := sOth) lD5 cD5 kD5
  have b5 := F5.binds (ps := ["_law_odd_here"]) fun _ _ _ _ _ _ us hl => match us, hl with | [_], _ => rfl
  have T5 : DefT K mg "_law_others" g5 := ⟨PySem.W.mg_of X G aD5, kD5⟩
  have F6 := fun_mk (st := sBase) lD6 cD6 kD6
  have b6 := F6.binds (ps := ["_law_one"]) fun _ _ _ _ _ _ us hl => match us, hl with | [_], _ => rfl
  have T6 : DefT K mg "_law_base" g6 := ⟨PySem.W.mg_of X G aD6, kD6⟩
  have F7 := fun_mk (st := sKinds) lD7 cD7 kD7
  have b7 := F7.binds (ps := ["_law_one"]) fun _ _ _ _ _ _ us hl => match us, hl with | [_], _ => rfl
  have T7 : DefT K mg "_law_kinds_of" g7 := ⟨PySem.W.mg_of X G aD7, kD7⟩
  have F8 := fun_mk (st := sLaw) lD8 cD8 kD8
  have TP : TxtP mg := ⟨PySem.W.mg_none_of X G z_int, PySem.W.mg_none_of X G z_len, PySem.W.mg_none_of X G z_abs, PySem.W.mg_none_of X G z_list⟩
  have TK : TxtK mg := ⟨PySem.W.mg_none_of X G z_isinstance, PySem.W.mg_none_of X G z_repr, PySem.W.mg_none_of X G z_range, PySem.W.mg_none_of X G z_len, PySem.W.mg_none_of X G z_ValueError, PySem.W.mg_none_of X G z_LookupError, PySem.W.mg_none_of X G z_OverflowError⟩
  have t0 := fun base => ct1 (P := l.prog) (w := w) (base := base) X G cg ctk aC0 xL0 sa0 ga0 gg0 ca0 ke_0 no0 tk0 iC0 tI0 lI0 cI0 kI0
  have t1 := fun base => ct2 (P := l.prog) (w := w) (base := base) X G cg ctk aC1 xL1 sa1 ga1 gg1 ca1 ke_1 no1 tk1 iC1 tI1 lI1 cI1 kI1
  have t2 := fun base => ct3 (P := l.prog) (w := w) (base := base) X G cg ctk aC2 xL2 sa2 ga2 gg2 ca2 ke_2 no2 tk2 iC2 tI2 lI2 cI2 kI2
  have t3 := fun base => ct4 (P := l.prog) (w := w) (base := base) X G cg ctk aC3 xL3 sa3 ga3 gg3 ca3 ke_3 no3 tk3 iC3 tI3 lI3 cI3 kI3
  have t4 := fun base => ct8 (P := l.prog) (w := w) (base := base) X G cg ctk aC4 xL4 sa4 ga4 gg4 ca4 ke_4 no4 tk4 iC4 tI4 lI4 cI4 kI4
  have t5 := fun base => ct12 (P := l.prog) (w := w) (base := base) X G cg ctk aC5 xL5 sa5 ga5 gg5 ca5 ke_5 no5 tk5 iC5 tI5 lI5 cI5 kI5
  have t6 := fun base => ct16 (P := l.prog) (w := w) (base := base) X G cg ctk aC6 xL6 sa6 ga6 gg6 ca6 ke_6 no6 tk6 iC6 tI6 lI6 cI6 kI6
  have t7 := fun base => ct5 (P := l.prog) (w := w) (base := base) X G cg ctk aC7 xL7 sa7 ga7 gg7 ca7 ke_7 no7 tk7 iC7 tI7 lI7 cI7 kI7
  have t8 := fun base => ct6 (P := l.prog) (w := w) (base := base) X G cg ctk aC8 xL8 sa8 ga8 gg8 ca8 ke_8 no8 tk8 iC8 tI8 lI8 cI8 kI8
  have t9 := fun base => ct7 (P := l.prog) (w := w) (base := base) X G cg ctk aC9 xL9 sa9 ga9 gg9 ca9 ke_9 no9 tk9 iC9 tI9 lI9 cI9 kI9
  have t10 := fun base => ct9 (P := l.prog) (w := w) (base := base) X G cg ctk aC10 xL10 sa10 ga10 gg10 ca10 ke_10 no10 tk10 iC10 tI10 lI10 cI10 kI10
  have t11 := fun base => ct10 (P := l.prog) (w := w) (base := base) X G cg ctk aC11 xL11 sa11 ga11 gg11 ca11 ke_11 no11 tk11 iC11 tI11 lI11 cI11 kI11
  have t12 := fun base => ct13 (P := l.prog) (w := w) (base := base) X G cg ctk aC12 xL12 sa12 ga12 gg12 ca12 ke_12 no12 tk12 iC12 tI12 lI12 cI12 kI12
  have t13 := fun base => ct14 (P := l.prog) (w := w) (base := base) X G cg ctk aC13 xL13 sa13 ga13 gg13 ca13 ke_13 no13 tk13 iC13 tI13 lI13 cI13 kI13
  have t14 := fun base => ct15 (P := l.prog) (w := w) (base := base) X G cg ctk aC14 xL14 sa14 ga14 gg14 ca14 ke_14 no14 tk14 iC14 tI14 lI14 cI14 kI14
  have t15 := fun base => ct17 (P := l.prog) (w := w) (base := base) X G cg ctk aC15 xL15 sa15 ga15 gg15 ca15 ke_15 no15 tk15 iC15 tI15 lI15 cI15 kI15
  have t16 := fun base => ct18 (P := l.prog) (w := w) (base := base) X G cg ctk aC16 xL16 sa16 ga16 gg16 ca16 ke_16 no16 tk16 iC16 tI16 lI16 cI16 kI16
  obtain ⟨l1, l2, l3, l4, l5⟩ := line_of xL17 (by decide +kernel)
  have be : PySem.W.subIn K (.ref C17) (.type "BaseException") = some true := (mro_sub l4 _).trans (congrArg some (by rw [List.contains_cons]; rfl))
  have cm : PySem.W.mroIn K C17 (.type "object") = some true := (mro_sub l4 _).trans (congrArg some (by rw [List.contains_cons]; rfl))
  have sB : PySem.W.subIn K (.ref C17) (.type "ValueError") = some true := (mro_sub l4 _).trans (congrArg some (by rw [List.contains_cons]; rfl))
  have sC : PySem.W.mroIn K C17 (.ref C17) = some true := (mro_sub l4 _).trans (congrArg some (by rw [List.contains_cons]; simp))
  have ex17 : ExC K C17 veL "ValueError.__new__" := ⟨l1, l2, sa17, l3, ga17, gg17, be, ke_17, ca17, cg, ctk, cm⟩
  have O : OwT l.prog K "OtherWorld.__init__" (cAt [C0, C1, C2, C3, C4, C5, C6, C7, C8, C9, C10, C11, C12, C13, C14, C15, C16, C17] 17) f17 cda cc "ValueError" "ValueError.__new__" "ValueError.__init__" veL := ⟨ex17, iC17, ⟨_, _, _, _, _, _, _, _, lO, cO⟩, tI17, ⟨_, _, _, _, _, _, lcd, v2, hfile⟩, ⟨_, _, _, lcc⟩, zsup, zopq, sin, sC, sB, htop⟩
  have A : K18 K mg (cAt [C0, C1, C2, C3, C4, C5, C6, C7, C8, C9, C10, C11, C12, C13, C14, C15, C16, C17]) := by
    refine ⟨fun k hk => ?_, fun k hk => ?_, fun k hk => ?_, fun k hk => ?_, fun i j hi hj e => cAt_inj df hi hj e⟩
    · exact match k, hk with
      | 0, _ => ⟨_, (t0 h).ex⟩
      | 1, _ => ⟨_, (t1 h).ex⟩
      | 2, _ => ⟨_, (t2 h).ex⟩
      | 3, _ => ⟨_, (t3 h).ex⟩
      | 4, _ => ⟨_, (t4 h).ex⟩
      | 5, _ => ⟨_, (t5 h).ex⟩
      | 6, _ => ⟨_, (t6 h).ex⟩
      | 7, _ => ⟨_, (t7 h).ex⟩
      | 8, _ => ⟨_, (t8 h).ex⟩
      | 9, _ => ⟨_, (t9 h).ex⟩
      | 10, _ => ⟨_, (t10 h).ex⟩
      | 11, _ => ⟨_, (t11 h).ex⟩
      | 12, _ => ⟨_, (t12 h).ex⟩
      | 13, _ => ⟨_, (t13 h).ex⟩
      | 14, _ => ⟨_, (t14 h).ex⟩
      | 15, _ => ⟨_, (t15 h).ex⟩
      | 16, _ => ⟨_, (t16 h).ex⟩
      | 17, _ => ⟨_, ex17⟩
      | n + 18, z => absurd z (by omega)
    · exact match k, hk with
      | 0, _ => (t0 h).mro
      | 1, _ => (t1 h).mro
      | 2, _ => (t2 h).mro
      | 3, _ => (t3 h).mro
      | 4, _ => (t4 h).mro
      | 5, _ => (t5 h).mro
      | 6, _ => (t6 h).mro
      | 7, _ => (t7 h).mro
      | 8, _ => (t8 h).mro
      | 9, _ => (t9 h).mro
      | 10, _ => (t10 h).mro
      | 11, _ => (t11 h).mro
      | 12, _ => (t12 h).mro
      | 13, _ => (t13 h).mro
      | 14, _ => (t14 h).mro
      | 15, _ => (t15 h).mro
      | 16, _ => (t16 h).mro
      | 17, _ => l4
      | n + 18, z => absurd z (by omega)
    · exact match k, hk with
      | 0, _ => (t0 h).ty
      | 1, _ => (t1 h).ty
      | 2, _ => (t2 h).ty
      | 3, _ => (t3 h).ty
      | 4, _ => (t4 h).ty
      | 5, _ => (t5 h).ty
      | 6, _ => (t6 h).ty
      | 7, _ => (t7 h).ty
      | 8, _ => (t8 h).ty
      | 9, _ => (t9 h).ty
      | 10, _ => (t10 h).ty
      | 11, _ => (t11 h).ty
      | 12, _ => (t12 h).ty
      | 13, _ => (t13 h).ty
      | 14, _ => (t14 h).ty
      | 15, _ => (t15 h).ty
      | 16, _ => (t16 h).ty
      | 17, _ => l5
      | n + 18, z => absurd z (by omega)
    · exact match k, hk with
      | 0, _ => PySem.W.mg_of X G aC0
      | 1, _ => PySem.W.mg_of X G aC1
      | 2, _ => PySem.W.mg_of X G aC2
      | 3, _ => PySem.W.mg_of X G aC3
      | 4, _ => PySem.W.mg_of X G aC4
      | 5, _ => PySem.W.mg_of X G aC5
      | 6, _ => PySem.W.mg_of X G aC6
      | 7, _ => PySem.W.mg_of X G aC7
      | 8, _ => PySem.W.mg_of X G aC8
      | 9, _ => PySem.W.mg_of X G aC9
      | 10, _ => PySem.W.mg_of X G aC10
      | 11, _ => PySem.W.mg_of X G aC11
      | 12, _ => PySem.W.mg_of X G aC12
      | 13, _ => PySem.W.mg_of X G aC13
      | 14, _ => PySem.W.mg_of X G aC14
      | 15, _ => PySem.W.mg_of X G aC15
      | 16, _ => PySem.W.mg_of X G aC16
      | 17, _ => PySem.W.mg_of X G aC17
      | n + 18, z => absurd z (by omega)
  refine ⟨PySem.W.fnOf "law" "law" (defArgs sLaw) (defBody sLaw) (defScope sLaw) .none gkV8 gdc8 gpm8 gan8 gcd8 gct8, fun s v => .of_eq rfl, fun base _ _ => ?_⟩
  have AC : AllC l.prog w K mg base (cAt [C0, C1, C2, C3, C4, C5, C6, C7, C8, C9, C10, C11, C12, C13, C14, C15, C16, C17]) := ⟨t0 base, t1 base, t2 base, t3 base, t4 base, t5 base, t6 base, t7 base, t8 base, t9 base, t10 base, t11 base, t12 base, t13 base, t14 base, t15 base, t16 base⟩
  have GPick := ok_pick (P := l.prog) (w := w) (base := base) F2 TP F1 T1 b1
  exact ok_law F8 TK A O PySem.F.excBase_ValueError PySem.W.kxs_ValueError (ok_pen F0 TP) T0 b0 GPick T2 b2 (ok_odd F3 GPick T2 b2) T3 b3 (ok_val F4 AC) T4 b4 (ok_oth F5 AC) T5 b5 (ok_base F6 TK A) T6 b6 (ok_kinds F7 TK A) T7 b7
end K00

set_option Elab.async false
set_option linter.all false
set_option maxRecDepth 100000
open L2

open PySem PySem.W PyProof.Rows
set_option maxRecDepth 100000 in
set_option maxHeartbeats 0 in
theorem PySem.Challenge.cw_oncepost_k00_errors_holds : PySem.Challenge.rw_oncepost_k00_errors.Holds := by
  w_on; o_law; k_head; (case hw => w_witness2)
  k_fill
  refine RG.walkG (l := PySem.Challenge.rw_oncepost_k00_errors) (n := 5) (x := "_law_script") (CX := CX0) (sp := K00.spLaw) rfl (by decide) rfl ⟨rfl, by decide, by decide⟩ (fun w h Y => PySem.W.kIn_of Y) ?F ?tl ?qu
  case F =>
    intro w mg fa h KX G hmg
    refine' K00.all_mk KX G hmg ?cg ?ctk ?z_int ?z_len ?z_abs ?z_list ?z_isinstance ?z_repr ?z_range ?z_ValueError ?z_LookupError ?z_OverflowError ?aC0 ?xL0 ?sa0 ?ga0 ?gg0 ?ca0 ?ke_0 ?no0 ?tk0 ?iC0 ?tI0 ?lI0 ?cI0 ?kI0 ?aC1 ?xL1 ?sa1 ?ga1 ?gg1 ?ca1 ?ke_1 ?no1 ?tk1 ?iC1 ?tI1 ?lI1 ?cI1 ?kI1 ?aC2 ?xL2 ?sa2 ?ga2 ?gg2 ?ca2 ?ke_2 ?no2 ?tk2 ?iC2 ?tI2 ?lI2 ?cI2 ?kI2 ?aC3 ?xL3 ?sa3 ?ga3 ?gg3 ?ca3 ?ke_3 ?no3 ?tk3 ?iC3 ?tI3 ?lI3 ?cI3 ?kI3 ?aC4 ?xL4 ?sa4 ?ga4 ?gg4 ?ca4 ?ke_4 ?no4 ?tk4 ?iC4 ?tI4 ?lI4 ?cI4 ?kI4 ?aC5 ?xL5 ?sa5 ?ga5 ?gg5 ?ca5 ?ke_5 ?no5 ?tk5 ?iC5 ?tI5 ?lI5 ?cI5 ?kI5 ?aC6 ?xL6 ?sa6 ?ga6 ?gg6 ?ca6 ?ke_6 ?no6 ?tk6 ?iC6 ?tI6 ?lI6 ?cI6 ?kI6 ?aC7 ?xL7 ?sa7 ?ga7 ?gg7 ?ca7 ?ke_7 ?no7 ?tk7 ?iC7 ?tI7 ?lI7 ?cI7 ?kI7 ?aC8 ?xL8 ?sa8 ?ga8 ?gg8 ?ca8 ?ke_8 ?no8 ?tk8 ?iC8 ?tI8 ?lI8 ?cI8 ?kI8 ?aC9 ?xL9 ?sa9 ?ga9 ?gg9 ?ca9 ?ke_9 ?no9 ?tk9 ?iC9 ?tI9 ?lI9 ?cI9 ?kI9 ?aC10 ?xL10 ?sa10 ?ga10 ?gg10 ?ca10 ?ke_10 ?no10 ?tk10 ?iC10 ?tI10 ?lI10 ?cI10 ?kI10 ?aC11 ?xL11 ?sa11 ?ga11 ?gg11 ?ca11 ?ke_11 ?no11 ?tk11 ?iC11 ?tI11 ?lI11 ?cI11 ?kI11 ?aC12 ?xL12 ?sa12 ?ga12 ?gg12 ?ca12 ?ke_12 ?no12 ?tk12 ?iC12 ?tI12 ?lI12 ?cI12 ?kI12 ?aC13 ?xL13 ?sa13 ?ga13 ?gg13 ?ca13 ?ke_13 ?no13 ?tk13 ?iC13 ?tI13 ?lI13 ?cI13 ?kI13 ?aC14 ?xL14 ?sa14 ?ga14 ?gg14 ?ca14 ?ke_14 ?no14 ?tk14 ?iC14 ?tI14 ?lI14 ?cI14 ?kI14 ?aC15 ?xL15 ?sa15 ?ga15 ?gg15 ?ca15 ?ke_15 ?no15 ?tk15 ?iC15 ?tI15 ?lI15 ?cI15 ?kI15 ?aC16 ?xL16 ?sa16 ?ga16 ?gg16 ?ca16 ?ke_16 ?no16 ?tk16 ?iC16 ?tI16 ?lI16 ?cI16 ?kI16 ?aC17 ?xL17 ?sa17 ?ga17 ?gg17 ?ca17 ?ke_17 ?iC17 ?tI17 ?lO ?cO ?lcd ?lcc ?zsup ?zopq ?sin ?aD0 ?lD0 ?cD0 ?kD0 ?aD1 ?lD1 ?cD1 ?kD1 ?aD2 ?lD2 ?cD2 ?kD2 ?aD3 ?lD3 ?cD3 ?kD3 ?aD4 ?lD4 ?cD4 ?kD4 ?aD5 ?lD5 ?cD5 ?kD5 ?aD6 ?lD6 ?cD6 ?kD6 ?aD7 ?lD7 ?cD7 ?kD7 ?aD8 ?lD8 ?cD8 ?kD8 ?v2 ?hfile ?htop ?df
    (case cg => k_is); (case ctk => k_is); (case z_int => k_is); (case z_len => k_is)
    (case z_abs => k_is); (case z_list => k_is); (case z_isinstance => k_is); (case z_repr => k_is)
    (case z_range => k_is); (case z_ValueError => k_is); (case z_LookupError => k_is); (case z_OverflowError => k_is)
    (case aC0 => k_is); (case xL0 => k_is); (case sa0 => k_is); (case ga0 => k_is)
    (case gg0 => k_is); (case ca0 => k_is); (case ke_0 => k_is); (case no0 => k_is)
    (case tk0 => k_is); (case iC0 => k_is); (case tI0 => k_is); (case lI0 => k_is)
    (case cI0 => k_is); (case kI0 => k_is); (case aC1 => k_is); (case xL1 => k_is)
    (case sa1 => k_is); (case ga1 => k_is); (case gg1 => k_is); (case ca1 => k_is)
    (case ke_1 => k_is); (case no1 => k_is); (case tk1 => k_is); (case iC1 => k_is)
    (case tI1 => k_is); (case lI1 => k_is); (case cI1 => k_is); (case kI1 => k_is)
    (case aC2 => k_is); (case xL2 => k_is); (case sa2 => k_is); (case ga2 => k_is)
    (case gg2 => k_is); (case ca2 => k_is); (case ke_2 => k_is); (case no2 => k_is)
    (case tk2 => k_is); (case iC2 => k_is); (case tI2 => k_is); (case lI2 => k_is)
    (case cI2 => k_is); (case kI2 => k_is); (case aC3 => k_is); (case xL3 => k_is)
    (case sa3 => k_is); (case ga3 => k_is); (case gg3 => k_is); (case ca3 => k_is)
    (case ke_3 => k_is); (case no3 => k_is); (case tk3 => k_is); (case iC3 => k_is)
    (case tI3 => k_is); (case lI3 => k_is); (case cI3 => k_is); (case kI3 => k_is)
    (case aC4 => k_is); (case xL4 => k_is); (case sa4 => k_is); (case ga4 => k_is)
    (case gg4 => k_is); (case ca4 => k_is); (case ke_4 => k_is); (case no4 => k_is)
    (case tk4 => k_is); (case iC4 => k_is); (case tI4 => k_is); (case lI4 => k_is)
    (case cI4 => k_is); (case kI4 => k_is); (case aC5 => k_is); (case xL5 => k_is)
    (case sa5 => k_is); (case ga5 => k_is); (case gg5 => k_is); (case ca5 => k_is)
    (case ke_5 => k_is); (case no5 => k_is); (case tk5 => k_is); (case iC5 => k_is)
    (case tI5 => k_is); (case lI5 => k_is); (case cI5 => k_is); (case kI5 => k_is)
    (case aC6 => k_is); (case xL6 => k_is); (case sa6 => k_is); (case ga6 => k_is)
    (case gg6 => k_is); (case ca6 => k_is); (case ke_6 => k_is); (case no6 => k_is)
    (case tk6 => k_is); (case iC6 => k_is); (case tI6 => k_is); (case lI6 => k_is)
    (case cI6 => k_is); (case kI6 => k_is); (case aC7 => k_is); (case xL7 => k_is)
    (case sa7 => k_is); (case ga7 => k_is); (case gg7 => k_is); (case ca7 => k_is)
    (case ke_7 => k_is); (case no7 => k_is); (case tk7 => k_is); (case iC7 => k_is)
    (case tI7 => k_is); (case lI7 => k_is); (case cI7 => k_is); (case kI7 => k_is)
    (case aC8 => k_is); (case xL8 => k_is); (case sa8 => k_is); (case ga8 => k_is)
    (case gg8 => k_is); (case ca8 => k_is); (case ke_8 => k_is); (case no8 => k_is)
    (case tk8 => k_is); (case iC8 => k_is); (case tI8 => k_is); (case lI8 => k_is)
    (case cI8 => k_is); (case kI8 => k_is); (case aC9 => k_is); (case xL9 => k_is)
    (case sa9 => k_is); (case ga9 => k_is); (case gg9 => k_is); (case ca9 => k_is)
    (case ke_9 => k_is); (case no9 => k_is); (case tk9 => k_is); (case iC9 => k_is)
    (case tI9 => k_is); (case lI9 => k_is); (case cI9 => k_is); (case kI9 => k_is)
    (case aC10 => k_is); (case xL10 => k_is); (case sa10 => k_is); (case ga10 => k_is)
    (case gg10 => k_is); (case ca10 => k_is); (case ke_10 => k_is); (case no10 => k_is)
    (case tk10 => k_is); (case iC10 => k_is); (case tI10 => k_is); (case lI10 => k_is)
    (case cI10 => k_is); (case kI10 => k_is); (case aC11 => k_is); (case xL11 => k_is)
    (case sa11 => k_is); (case ga11 => k_is); (case gg11 => k_is); (case ca11 => k_is)
    (case ke_11 => k_is); (case no11 => k_is); (case tk11 => k_is); (case iC11 => k_is)
    (case tI11 => k_is); (case lI11 => k_is); (case cI11 => k_is); (case kI11 => k_is)
    (case aC12 => k_is); (case xL12 => k_is); (case sa12 => k_is); (case ga12 => k_is)
    (case gg12 => k_is); (case ca12 => k_is); (case ke_12 => k_is); (case no12 => k_is)
    (case tk12 => k_is); (case iC12 => k_is); (case tI12 => k_is); (case lI12 => k_is)
    (case cI12 => k_is); (case kI12 => k_is); (case aC13 => k_is); (case xL13 => k_is)
    (case sa13 => k_is); (case ga13 => k_is); (case gg13 => k_is); (case ca13 => k_is)
    (case ke_13 => k_is); (case no13 => k_is); (case tk13 => k_is); (case iC13 => k_is)
    (case tI13 => k_is); (case lI13 => k_is); (case cI13 => k_is); (case kI13 => k_is)
    (case aC14 => k_is); (case xL14 => k_is); (case sa14 => k_is); (case ga14 => k_is)
    (case gg14 => k_is); (case ca14 => k_is); (case ke_14 => k_is); (case no14 => k_is)
    (case tk14 => k_is); (case iC14 => k_is); (case tI14 => k_is); (case lI14 => k_is)
    (case cI14 => k_is); (case kI14 => k_is); (case aC15 => k_is); (case xL15 => k_is)
    (case sa15 => k_is); (case ga15 => k_is); (case gg15 => k_is); (case ca15 => k_is)
    (case ke_15 => k_is); (case no15 => k_is); (case tk15 => k_is); (case iC15 => k_is)
    (case tI15 => k_is); (case lI15 => k_is); (case cI15 => k_is); (case kI15 => k_is)
    (case aC16 => k_is); (case xL16 => k_is); (case sa16 => k_is); (case ga16 => k_is)
    (case gg16 => k_is); (case ca16 => k_is); (case ke_16 => k_is); (case no16 => k_is)
    (case tk16 => k_is); (case iC16 => k_is); (case tI16 => k_is); (case lI16 => k_is)
    (case cI16 => k_is); (case kI16 => k_is); (case aC17 => k_is); (case xL17 => k_is)
    (case sa17 => k_is); (case ga17 => k_is); (case gg17 => k_is); (case ca17 => k_is)
    (case ke_17 => k_is); (case iC17 => k_is); (case tI17 => k_is); (case lO => k_is)
    (case cO => k_is); (case lcd => k_is); (case lcc => k_is); (case zsup => k_is)
    (case zopq => k_is); (case sin => ks_is); (case aD0 => k_is); (case lD0 => k_is)
    (case cD0 => k_is); (case kD0 => k_is); (case aD1 => k_is); (case lD1 => k_is)
    (case cD1 => k_is); (case kD1 => k_is); (case aD2 => k_is); (case lD2 => k_is)
    (case cD2 => k_is); (case kD2 => k_is); (case aD3 => k_is); (case lD3 => k_is)
    (case cD3 => k_is); (case kD3 => k_is); (case aD4 => k_is); (case lD4 => k_is)
    (case cD4 => k_is); (case kD4 => k_is); (case aD5 => k_is); (case lD5 => k_is)
    (case cD5 => k_is); (case kD5 => k_is); (case aD6 => k_is); (case lD6 => k_is)
    (case cD6 => k_is); (case kD6 => k_is); (case aD7 => k_is); (case lD7 => k_is)
    (case cD7 => k_is); (case kD7 => k_is); (case aD8 => k_is); (case lD8 => k_is)
    (case cD8 => k_is); (case kD8 => k_is)
    (case v2 => rfl)
    (case hfile => decide +kernel)
    (case htop => decide +kernel)
    (case df => decide)
  case tl =>
    intro K G a ns hl ho hS
    exact ⟨a, ns, rfl, hS, hl, fun _ => rfl⟩
  case qu =>
    intro G s e s' z
    exact z
