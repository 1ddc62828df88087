import PyProof.Rows.All
import Wide.All
import OpenK.AllK
import Wide.FinOn
import HandS.ForMost
import HandS.Wide
import HandS.WideBits
import HandS.IsInst
import HandS.TupMul
import HandS.TupAny
import HandS.Conv
import HandS.Zip
import HandS.Walk
import HandS.Evl
import KE.KTupSum
import PyProof.ReprRoads
import PyProof.ReprLen
import KE.KDictDisplayH
import HandS.DictTup
import HandS.NoneIn
import HandS.Style
import PySem.Challenge.RW_kindsgathered_k10_means_until_all
set_option Elab.async false
set_option linter.all false
set_option maxRecDepth 100000
set_option maxHeartbeats 4000000
namespace KG
open PySem PySem.Spec PyProof.Rows L2

/-! ### defs that run where nothing is being shown -/
structure FnG (P : Program) (w : World) (K : PySem.W.Frag) (mg : Str → Option Value) (base : Heap) (k : Nat) (f : Addr) (fd : FuncData) (ps : List Str) (sp : Sp) : Prop where
  len : ∀ vs H Q E, sp vs H Q E → vs.length = ps.length
  run : ∀ (A : Around) (outer : List Env) (s : Shared) (H : Hp) (args : Args) (us : List Value) (vs : List V) (Q : VK) (E : XK), A.guards = some [] →
    Room k A → Env0 P w K mg base A outer s H → BindsTo s fd args (ps.zip us) → Vals vs us → sp vs H Q E → codeAny (model P w) A (.call (.ref f) args) (CR CX0 outer P w H s Q E) s

section
variable {P : Program} {w : World} {K : PySem.W.Frag} {mg : Str → Option Value} {base : Heap}
theorem okG {x qual : Str} {st : Stmt} {f : Addr} {fd : FuncData} {N ps : List Str} {k : Nat} {sp : Sp} (F : Fun K x qual st f fd) (S : FnScope N ps (defScope st))
    (len : ∀ vs H Q E, sp vs H Q E → vs.length = ps.length)
    (hb : ∀ (cdv : Value) (A : Around) (outer : List Env) (s : Shared) (H : Hp) (vs : List V) (Q : VK) (E : XK), A.guards = some [] →
      Room k (A.deeper (envOfC qual (defScope st) s.heap.objs.size f cdv)) → sp vs H Q E →
      ∃ t, PSs (cxOf CX0 P w K mg base N qual (defScope st) f cdv A outer s H E).nox (defBody st) t ∧ t { nx := fun _ H' => Q .non H', rt := Q } (start N vs) H) :
    FnG P w K mg base (k + 1) f fd ps sp := by
  obtain ⟨oc, od, kV, doc, pm, an, cdv, ct, osl, rfl, lk, hcd⟩ := F.ex
  refine ⟨len, ?_⟩
  intro A outer s H args us vs Q E hg hr e0 hbi r hsp
  -- the same as the layer's own rule, at this around alone
  have T : FnOk P w K mg base CX0 (k + 1) f (PySem.W.fnOf x qual (defArgs st) (defBody st) (defScope st) .none kV doc pm an cdv ct) ps sp ∨ True := .inr trivial
  clear T
  have hl := len _ _ _ _ hsp
  have keep : ∀ b o, base.get? b = some o → s.heap.get? b = some o := fun b o e => (e0.bs b o e).1
  have KX := e0.mod.kin.keeps keep
  have lim := e0.mod.nolimit.keeps keep
  obtain ⟨t, ht, hq⟩ := hb cdv A outer s H vs Q E hg (hr.deeper _) hsp
  have hkind : ∀ y ∈ ps.zip us, (defScope st).names.lookup y.1 = some .local ∨
      ((defScope st).names.lookup y.1 = some .cell ∧ ((cellsFrom (s.heap.objs.size + 1) (defScope st).names []).lookup y.1).isSome = true) := by
    rintro ⟨n, v⟩ hy
    cases S.par n (List.of_mem_zip hy).1 with
    | inl q => exact .inl q
    | inr q => exact .inr ⟨q, PySem.W.cellsFrom_some _ _ _ (.inl q)⟩
  refine codeAny_call_function hr.depth (KX _ _ lk) rfl S.co S.gen rfl (PySem.W.codeRec_of KX hcd) (hbi _ _ _ _ (wpAny_newFunctionEnv_cells S.kind hkind ?_))
  rintro env rfl s1 x1
  refine ⟨lim.keeps x1.toInCall.keep, codeAny_func ?_⟩
  have I : Inv (cxOf CX0 P w K mg base N qual (defScope st) f cdv A outer s H E) [] (start N vs) H s1 := inv_start S hr.hd e0 hl r x1
  refine wpAny_mono (ht.nox.run [] s1 (start N vs) H _ I hq) ?_ fun _ _ z => z
  intro fl s' hs
  match fl, hs with
  | .ret u, ⟨v, σ', H', J, rv, q⟩ => exact ⟨v, H', J.os, J.bare, J.base, J.hok, rv, q⟩
  | .next, ⟨σ', H', J, q⟩ => exact ⟨V.non, H', J.os, J.bare, J.base, J.hok, (show Value.none = Value.none from rfl), q⟩
  | .brk, ⟨_, _, _, q⟩ => exact q.elim
  | .cont, ⟨_, _, _, q⟩ => exact q.elim
/-- a def that asks for nothing of the kind -/
theorem FnG.of {f : Addr} {fd : FuncData} {ps : List Str} {k : Nat} {sp : Sp} (F : FnOk P w K mg base CX0 k f fd ps sp) : FnG P w K mg base k f fd ps sp :=
  ⟨F.len, fun A outer s H args us vs Q E _ hr e hb r h => F.run A outer s H args us vs Q E hr e hb r h⟩
end
section
variable {X : Cx} {f : Addr} {fd : FuncData} {ps : List Str} {k : Nat} {sp : Sp} {x : Str} {p pos : Pos} {e : Expr} {es : List Expr} {t : TA} {ds : List Value} {dvs : List V} {E : XK}
theorem pe_callG (F : FnG X.prog X.w X.K X.mg X.base k f fd ps sp) (gd : X.A.guards = some []) (hr : Room k X.A) (hg : Gl X x) (hm : X.mg x = some (.ref f)) (hk : PySem.W.keepIn X.K (.ref f) = true) (hb : Binds X.K fd ps ds)
    (hd : Vals dvs ds) (ha : PA X (e :: es) t) (hdb : (x == ("__debug__" : Str)) = false := by decide) (he : starEach (e :: es) X.env = (false, eval e X.env) :: starEach es X.env := by rfl)
    (hpl : (backTo pos (starEach es X.env)).any (·.1) = false := by rfl) : PE X (.Call (.Name x p) (e :: es) [] pos) (tCall sp dvs E0 t) := by
  constructor
  intro pins s σ H Q I h
  refine wpAny_Call_Name_kw (ld_glob I hg hm (PySem.W.callWith_K (h₀ := X.base) I.ok.mod.kin hk (thn (ha.run pos pins s σ H _ I h) ?_) he hpl) hdb)
  rintro us s1 ⟨vs, H1, I1, r, q⟩
  refine ⟨I1.kIn, ?_⟩
  have r2 : Vals (vs ++ dvs) (us ++ ds) := r.append hd
  have hl : (us ++ ds).length = ps.length := r2.length ▸ F.len _ _ _ _ q
  refine wpAny_call (codeAny_mono (F.run X.A X.stack s1 H1 ⟨us, []⟩ (us ++ ds) (vs ++ dvs) Q E0 gd hr I1.env0 (hb s1 us I1.kIn hl) r2 q) ?_)
  intro r s' hq
  match r, hq with
  | .ok (.ret u), hq => exact I1.after hq
/-- data that can be shown -/
def ShowOk (d : PyData) : Prop := d.showable = true ∧ d.hasDict = false ∧ d.depth ≤ 20 ∧ d.shown.length ≤ sizeLine
/-- repr of data: its text -/
def rRepr (K : PySem.W.Frag) : List V → Hp → VK → Prop := fun xs H Q => ∃ x d, xs = [x] ∧ Dp K H x d ∧ ShowOk d ∧ Q (.str d.shown) H
theorem call_repr {k : Nat} (gd : X.A.guards = some []) (hr : Room k X.A) : CallR X (.builtin "repr") (rRepr X.K) := by
  intro pins s σ H xs us Q I r h
  obtain ⟨x, d, rfl, hd, ⟨hs, hn, hz, hl⟩, q⟩ := h
  obtain ⟨u, rfl, ru⟩ := vals1 r
  have un := hr.un
  cases hd with
  | non => cases (show u = Value.none from ru); exact PySem.P.repr_of_none ⟨.str _, H, I.tok _, ⟨_, rfl⟩, q⟩
  | bl b => cases (show u = Value.bool b from ru); exact PySem.P.repr_of_bool ⟨.str _, H, I.tok _, ⟨_, rfl⟩, q⟩
  | int i => obtain ⟨t, rfl⟩ := (show ∃ t, u = Value.int i t from ru); exact PySem.P.repr_of_int (of_decide_eq_true hs) ⟨.str _, H, I.tok _, ⟨_, rfl⟩, q⟩
  | str y => obtain ⟨t, rfl⟩ := (show ∃ t, u = Value.str y t from ru); exact PySem.P.repr_of_str ⟨.str _, H, I.tok _, ⟨_, rfl⟩, q⟩ hl
  | @lst a ys ds h1 h2 =>
    cases (show u = Value.ref a from ru)
    obtain ⟨as, rd⟩ := Dp.reads I _ (.ref a) (.ref a) (.lst h1 h2) rfl
    exact repr_of_reads' rd hs (PyData.noDict_hsm hn) gd (by omega) (fun _ _ z => z) (fun h' u tk hk => ⟨.str _, H, I.kept hk, ⟨_, rfl⟩, q⟩) hl
  | @tup a ys ds h1 h2 =>
    cases (show u = Value.ref a from ru)
    obtain ⟨as, rd⟩ := Dp.reads I _ (.ref a) (.ref a) (.tup h1 h2) rfl
    exact repr_of_reads' rd hs (PyData.noDict_hsm hn) gd (by omega) (fun _ _ z => z) (fun h' u tk hk => ⟨.str _, H, I.kept hk, ⟨_, rfl⟩, q⟩) hl
/-- sum of a list or a tuple of ints -/
def rSum2 (K : PySem.W.Frag) : List V → Hp → VK → Prop := fun vs H Q => ∃ (a : Addr) (ns : List Int), vs = [V.ref a] ∧ (SqL K H a (ns.map V.int) ∨ SqT K H a (ns.map V.int)) ∧ Q (.int ns.sum) H
theorem call_sum (hc : X.calm = true) : CallR X (.builtin "sum") (rSum2 X.K) := by
  intro pins s σ H vs us Q I r h
  obtain ⟨a, ns, rfl, hs | hs, q⟩ := h
  · exact cr_sum hc pins s σ H _ us Q I r ⟨a, ns, rfl, hs, q⟩
  · obtain ⟨its, rv, ht, _⟩ := I.tuple hs
    rw [Vals.ref1 r]
    obtain ⟨ys, e⟩ := rv.ints.allInts.items
    have hn : numsOf (intItems ys).toList = ns := by rw [← e]; exact rv.ints.numsOf
    rw [nums_intItems] at hn
    rw [e] at ht
    refine PySem.W.ktm_sumG (I.ok.hd hc) ht fun h' tk t' hk => ?_
    rw [preSum_eq, List.take_of_length_le (by simp), hn]
    exact ⟨.int _, H, I.kept hk, ⟨_, rfl⟩, q⟩
end
end KG

namespace KG
open PySem PySem.Spec PyProof.Rows L2
/-! ### the end of a law whose defs run where nothing is being shown -/
section
variable {P : Program} {w : World} {K : PySem.W.Frag} {mg mb : Str → Option Value} {k : Nat} {fa a : Addr} {fd : FuncData} {x : Str} {sp : Sp} {s₁ : Shared} {vs : List Value} {ns : List Int}
/-- what is asked of the call's end -/
def EndT (s₁ : Shared) : Result → Shared → Prop := fun r s' => r = .ok (.ret (.bool true)) ∧ OldK s₁.heap s'.heap ∧ s'.os = s₁.os ∧ AllBare s'.gens
/-- from an abstract heap that tracks nothing but the script, locked -/
theorem endG_from {H : Hp} (KX : K.In s₁.heap) (hns : s₁.heap.Ns mainGlobals mg) (hb : s₁.heap.Ns builtinsNs mb) (hbb : ∀ y : Str, y ≠ "__name__" → mb y = bootBuiltins y) (hlim : s₁.heap.NoLimit) (hg : s₁.gens = #[])
    (ha : ∃ its n, s₁.heap.get? a = some { cls := .type "list", data := .seq its n }) (hr : Room k callerA)
    (F : ∀ base : Heap, K.In base → base.Ns mainGlobals mg → FnG P w K mg base k fa fd [x] sp) (hbind : ∀ (s : Shared) (u : Value), BindsTo s fd ⟨[u], []⟩ [(x, u)])
    (hO : Only H) (hok : HOk P w H s₁.heap) (hA : ∀ b, H b ≠ none → b = a) (hK : H a ≠ none → K.lookup a = none)
    (hsp : sp [.ref a] H (fun v _ => v = .bl true) fun _ _ _ => False) : codeAny (model P w) callerA (.call (.ref fa) ⟨[.ref a], []⟩) (EndT s₁) s₁ := by
  obtain ⟨its, n, ha⟩ := ha
  have cases2 : ∀ b, H b = none ∨ (b = a ∧ K.lookup a = none) := fun b => by
    by_cases z : H b = none
    · exact .inl z
    · have e := hA b z
      exact .inr ⟨e, hK (e ▸ z)⟩
  have nsK : ∀ {b : Addr} {m : Str → Option Value}, s₁.heap.Ns b m → (hidT s₁.heap H).Ns b m := by
    rintro b m ⟨o, es, ep, e, d, r⟩
    refine ⟨o, es, ep, hidT_get e ?_, d, r⟩
    rcases cases2 b with z | ⟨rfl, _⟩
    · exact z
    · rw [ha] at e
      cases e
      exact nomatch d
  have hKb : K.In (hidT s₁.heap H) := fun b o e => by
    refine hidT_get (KX b o e) ?_
    rcases cases2 b with z | ⟨rfl, z⟩
    · exact z
    · rw [z] at e
      exact nomatch e
  obtain ⟨mc, l1, l2⟩ := hlim
  have hM : Mod K mg (hidT s₁.heap H) := ⟨hKb, nsK hns, ⟨mb, nsK hb, hbb⟩, ⟨mc, nsK l1, l2⟩⟩
  have e0 : Env0 P w K mg (hidT s₁.heap H) callerA [] s₁ H :=
    { frames := rfl, mod := hM, bs := fun b o e => of_hidT e, bsz := Nat.le_of_eq (hidT_size _ _), funs := trivial, frf := (fun b z => nomatch (show b ∈ ([] : List Addr) from z)), hok := hok, bare := .of_eq hg }
  have run := (F _ hKb (nsK hns)).run callerA [] s₁ H ⟨[.ref a], []⟩ [.ref a] [.ref a] (fun v _ => v = .bl true) (fun _ _ _ => False) rfl hr e0 (hbind s₁ (.ref a)) (.cons rfl .nil) hsp
  refine codeAny_mono run ?_
  intro r s' h
  match r, h with
  | .ok (.ret u), ⟨v, H', os, bare, un, hok', r', q⟩ =>
    have q' : v = .bl true := q
    subst q'
    have eu : u = Value.bool true := r'
    subst eu
    refine ⟨rfl, OldK.of_keep ?_, os, bare⟩
    intro b o e
    rcases hO b with z | ⟨ob, xs, z⟩
    · exact un.keep b o e z (fun y => nomatch (show b ∈ ([] : List Addr) from y)) (fun y => nomatch y)
    · have e1 := (hok b _ z).1
      have e2 := (hok' b _ (un.frzs b ob _ z)).1
      rw [e] at e1
      cases e1
      exact e2
theorem endG (KX : K.In s₁.heap) (hns : s₁.heap.Ns mainGlobals mg) (hb : s₁.heap.Ns builtinsNs mb) (hbb : ∀ y : Str, y ≠ "__name__" → mb y = bootBuiltins y) (hlim : s₁.heap.NoLimit) (hg : s₁.gens = #[])
    (ha : s₁.heap.get? a = some { cls := .type "list", data := .seq vs.toArray }) (hi : IntsAre vs ns) (hl : ns.length ≤ sizeLine) (hr : Room k callerA)
    (F : ∀ base : Heap, K.In base → base.Ns mainGlobals mg → FnG P w K mg base k fa fd [x] sp) (hbind : ∀ (s : Shared) (u : Value), BindsTo s fd ⟨[u], []⟩ [(x, u)])
    (hsp : ∀ H : Hp, Only H → SqL K H a (ns.map V.int) → sp [.ref a] H (fun v _ => v = .bl true) fun _ _ _ => False) :
    codeAny (model P w) callerA (.call (.ref fa) ⟨[.ref a], []⟩) (EndT s₁) s₁ := by
  have rv := vals_ints hi
  cases hk : K.lookup a with
  | some o =>
    have e := KX a o hk
    rw [ha] at e
    cases e
    have sq : SqL K (fun _ => none) a (ns.map V.int) := .inr ⟨_, vs.toArray, _, hk, rfl, rfl, rfl, by rw [List.size_toArray, hi.length]; exact hl, by simpa using rv⟩
    have only : Only (fun _ => none) := fun _ => .inl rfl
    exact endG_from KX hns hb hbb hlim hg ⟨_, _, ha⟩ hr F hbind only (fun b u z => nomatch (show (none : Option HO) = some u from z)) (fun b z => (z rfl).elim) (fun z => (z rfl).elim) (hsp _ only sq)
  | none =>
    let H0 : Hp := upd (fun _ => none) a (.frz { cls := .type "list", data := .seq vs.toArray } (.lst (ns.map V.int)))
    have at0 : H0 a = some (.frz { cls := .type "list", data := .seq vs.toArray } (.lst (ns.map V.int))) := upd_same
    have off0 : ∀ b, b ≠ a → H0 b = none := fun b z => upd_ne z
    have only : Only H0 := fun b => by
      by_cases z : b = a
      · exact .inr ⟨_, _, z ▸ at0⟩
      · exact .inl (off0 b z)
    refine endG_from KX hns hb hbb hlim hg ⟨_, _, ha⟩ hr F hbind only ?_ ?_ (fun _ => hk) (hsp _ only (.inl (.inr ⟨_, at0⟩)))
    · intro b u z
      by_cases y : b = a
      · subst y
        rw [at0] at z
        cases z
        exact ⟨ha, by rw [List.length_map]; exact hl, vs, _, rv, ha⟩
      · rw [off0 b y] at z
        exact nomatch z
    · intro b z
      by_cases y : b = a
      · exact y
      · exact (z (off0 b y)).elim
end
theorem walkG {l : PySem.W.OpenLaw} {n k : Nat} {q : Program} {loose : List Str} {XP : (Str → Option Value) → Heap → Prop} {YP : World → Heap → Prop} {d : DefRec} {K : Params → PySem.W.Frag} {sp : PySem.W.Frag → Sp} {x : Str}
    (hn : l.most = some n) (hn2 : n ≤ sizeLine) (hdf : d.params.defaults = []) (hr : Room k callerA) (hY : ∀ (w : World) (h : Heap), YP w h → (K w.params).In h)
    (F : ∀ (w : World) (mg : Str → Option Value) (fa : Addr) (h : Heap), (K w.params).In h → h.Ns mainGlobals mg → mg d.name = some (.ref fa) →
      ∃ fd : FuncData, (∀ (s : Shared) (u : Value), BindsTo s fd ⟨[u], []⟩ [(x, u)]) ∧ ∀ base : Heap, (K w.params).In base → base.Ns mainGlobals mg → FnG l.prog w (K w.params) mg base k fa fd [x] (sp (K w.params)))
    (hsp : ∀ (K : PySem.W.Frag) (H : Hp) (a : Addr) (ns : List Int), ns.length ≤ n → Only H → SqL K H a (ns.map V.int) → sp K [.ref a] H (fun v _ => v = .bl true) fun _ _ _ => False) :
    PySem.W.WalkO q loose XP YP l.row.toRowW d [] (fun f vs => PySem.call f vs) := by
  refine Att.attach_call hn hdf ?_
  intro w s₀ s₁ mg mb fa o pm cd doc a vs ns G Y ho hd hcd hmg hobj hints hlen hg
  obtain ⟨fd, hb, hF⟩ := F w mg fa _ (hY w _ Y) G.T.g hmg
  exact endG (hY w _ Y) G.T.g G.T.b G.T.builtins G.T.nolimit hg hobj hints (Nat.le_trans hlen hn2) hr hF hb fun H hO hS => hsp _ H a ns hlen hO hS

/-! ### tuple * int, once too -/
section
variable {X : Cx}
theorem tuple_mul1 (l : Addr) (items : Array Value) (n : Nat) (dd : Option Addr) (sl : Array (Option Value)) (u : Tok) :
    Meets (Builtin.«tuple.__mul__» ⟨[.ref l, .int 1 u], []⟩) (fun _ R s => s.heap.get? l = some { cls := .type "tuple", dict := dd, data := .seq items n, slots := sl } ∧ R (.ok (.ret (Value.ref l))) s) :=
  .of_wp fun prog w A R s h => by
    obtain ⟨hp, g, d, tk, os⟩ := s
    obtain ⟨hl, h⟩ := h
    have f1 := AutoSeq1.idx_int
    have c1 : (items.isEmpty || (1 : Int) == 1) = true := by simp
    wp_walk using wpAny_loadPart' hl
    exact ⟨_, rfl, h⟩
/-- t * k, k from 1 on -/
def rTimes (K : PySem.W.Frag) : R2 := fun x y H Q => ∃ l k xs, x = .ref l ∧ y = .int k ∧ SqT K H l xs ∧ xs ≠ [] ∧ 1 ≤ k ∧ k ≤ 1000 ∧ xs.length ≤ 1000 ∧
  (k = 1 → Q (.ref l) H) ∧ (2 ≤ k → ∀ p, H p = none → Q (.ref p) (upd H p (.tup (List.replicate k.toNat xs).flatten)))
theorem op_times : OpR X (binaryOp .Mult) (rTimes X.K) := by
  intro pins s σ H x y v u Q I rx ry h
  obtain ⟨l, k, xs, rfl, rfl, hT, hne, h1, h2, hz, q1, q2⟩ := h
  by_cases hk : 2 ≤ k
  · exact op_repT pins s σ H _ _ v u Q I rx ry ⟨l, k, xs, rfl, rfl, hT, hne, hk, h2, hz, q2 hk⟩
  · have e1 : k = 1 := by omega
    subst e1
    cases rx
    obtain ⟨t, rfl⟩ := ry
    obtain ⟨its, r, ⟨⟨cls, dd, data, sl⟩, ho, hc, n, hd⟩, hs⟩ := I.tuple hT
    simp only at hc hd
    subst hc hd
    refine wpAny_binaryOp_repeat_ref (T := "tuple") (U := "int") (by decide) ⟨_, ho, rfl⟩ (fun s' => typeIs_int s' 1 t) noFill_tuple_mul F.fills_int_mul F.slot_int_rmul repeat_tuple F.slot_int_index.lookup ?_
    refine call_meets F.slot_int_rmul (typeIs_int s 1 t) F.entry_int_rmul (F.args_int_rmul_2 _ _) (int_rmul_tuple 1 t l its.toArray n dd sl) ?_
    exact ⟨ho, rfl, ⟨_, ho, rfl⟩, call_meets F.slot_tuple_mul ⟨_, ho, rfl⟩ F.entry_tuple_mul (F.args_tuple_mul_2 _ _) (tuple_mul1 l its.toArray n dd sl t) ⟨ho, ⟨.ref l, H, I, rfl, q1 rfl⟩⟩⟩
end
end KG

namespace KGX
open PySem PySem.Spec PyProof.Rows L2
/-! ### words of one's own -/
/-- the type of a value is known -/
def Kn (K : PySem.W.Frag) (H : Hp) : V → Prop
  | .non | .bl _ | .int _ | .str _ => True
  | .ref a => (∃ xs, H a = some (.lst xs)) ∨ (∃ xs, H a = some (.tup xs)) ∨ ∃ kv, H a = some (.dK kv)
  | _ => False
theorem Kn.mono {K : PySem.W.Frag} {H H' : Hp} (e : Same H H') : ∀ {x : V}, Kn K H x → Kn K H' x
  | .non, _ | .bl _, _ | .int _, _ | .str _, _ => trivial
  | .ref a, h => by
    rcases h with ⟨y, z⟩ | ⟨y, z⟩ | ⟨y, z⟩
    · exact .inl ⟨y, e _ _ z⟩
    · exact .inr (.inl ⟨y, e _ _ z⟩)
    · exact .inr (.inr ⟨y, e _ _ z⟩)
def whole : V → Bool
  | .int _ => true
  | _ => false
def within (lo hi : Int) : V → Bool
  | .int i => decide (lo ≤ i) && decide (i ≤ hi)
  | _ => false
/-- the box alone may change -/
def Kp (b : Addr) (H H' : Hp) : Prop := ∀ a o, a ≠ b → H a = some o → H' a = some o
theorem Kp.of {b : Addr} {H H' : Hp} (h : Same H H') : Kp b H H' := fun a o _ e => h a o e
theorem Kp.trans {b : Addr} {H H1 H2 : Hp} (x : Kp b H H1) (y : Kp b H1 H2) : Kp b H H2 := fun a o n e => y a o n (x a o n e)
theorem same_new {H : Hp} {p : Addr} {o : HO} (h : H p = none) : Same H (upd H p o) := fun b x e => by
  rw [upd_ne (ne_of_none e h)]
  exact e
def low (t b : Int) : List V := [.int (t / (Int.gcd t b : Int)), .int (b / (Int.gcd t b : Int))]
/-! ### whole numbers -/
def sp_is_whole (K : PySem.W.Frag) : Sp := fun vs H Q _ => ∃ x, vs = [x] ∧ Kn K H x ∧ Q (.bl (whole x)) H
def sp_is_whole_within (K : PySem.W.Frag) : Sp := fun vs H Q _ => ∃ x lo hi, vs = [x, .int lo, .int hi] ∧ Kn K H x ∧ Q (.bl (within lo hi x)) H
/-! ### the greatest that divides both -/
theorem gcd_step (a b : Int) (ha : 0 ≤ a) (hb : 0 < b) : Int.gcd b (a % b) = Int.gcd a b := by
  obtain ⟨m, rfl⟩ := Int.eq_ofNat_of_zero_le ha
  obtain ⟨n, rfl⟩ := Int.eq_ofNat_of_zero_le (Int.le_of_lt hb)
  show Nat.gcd n (m % n) = Nat.gcd m n
  rw [Nat.gcd_comm n, ← Nat.gcd_rec, Nat.gcd_comm]
def spGcd : Sp := fun vs H Q _ => ∃ a b : Int, vs = [.int a, .int b] ∧ 0 ≤ a ∧ 0 ≤ b ∧ Q (.int (Int.gcd a b : Int)) H
def sp_greatest_divisor : Sp := fun vs H Q _ => ∃ a b : Int, vs = [.int a, .int b] ∧ 0 ≤ b ∧ Q (.int (Int.gcd a b : Int)) H
theorem abs_eq (i : Int) : (if i < 0 then -i else i) = (i.natAbs : Int) := by
  split <;> omega
theorem sz1 : 1 ≤ sizeLine := by decide
theorem sz2 : 2 ≤ sizeLine := by decide
theorem sz3 : 3 ≤ sizeLine := by decide
theorem sz4 : 4 ≤ sizeLine := by decide
/-! ### in lowest terms -/
def spLow : Sp := fun vs H Q _ => ∃ t b : Int, vs = [.int t, .int b] ∧ 0 < b ∧ b.natAbs.log2 < 9000 ∧ ∀ H' p, Same H H' → H p = none → H' p = some (.tup (low t b)) → Q (.ref p) H'
theorem gcd_pos {t b : Int} (h : 0 < b) : (0 : Int) < (Int.gcd t b : Int) := by
  have : 0 < Int.gcd t b := Int.gcd_pos_of_ne_zero_right t (by omega)
  omega
theorem gcd_le {t b : Int} (h : 0 < b) : (Int.gcd t b : Int) ≤ b := by
  have : Int.gcd t b ∣ b.natAbs := Nat.gcd_dvd_right _ _
  have := Nat.le_of_dvd (by omega) this
  omega
theorem log2_mono {a b : Nat} (h : a ≤ b) : a.log2 ≤ b.log2 := by
  by_cases h0 : a = 0
  · subst h0
    exact Nat.le_trans (by decide) (Nat.zero_le _)
  · exact (Nat.le_log2 (by omega)).mpr (Nat.le_trans (Nat.log2_self_le h0) h)
theorem gcd_div {t b : Int} (h : 0 < b) (hl : b.natAbs.log2 < 9000) {i : Int} : CDivW i (Int.gcd t b : Int) := by
  refine ⟨gcd_pos h, Nat.lt_of_le_of_lt (log2_mono ?_) hl⟩
  have := gcd_le (t := t) h
  omega
/-! ### the law's cells -/
def sp__law_cell (K : PySem.W.Frag) : Sp := fun vs H Q _ => ∃ (a : Addr) (ns : List Int) (k : Nat), vs = [.ref a, .int k] ∧ SqL K H a (ns.map V.int) ∧ ∀ v : Int, Q (.int v) H
def sp__law_mix : Sp := fun vs H Q _ => ∃ (c : Int) (k : Nat), vs = [.int c, .int k] ∧ k ≤ 1000 ∧ ∀ H' v, Same H H' → Q (.int v) H'
def spBox (K : PySem.W.Frag) : Sp := fun vs H Q _ => ∃ (a : Addr) (ns : List Int) (k : Nat), vs = [.ref a, .int k] ∧ SqL K H a (ns.map V.int) ∧ ∀ H' b n, Same H H' → H b = none → H' b = some (.lst [.int n]) → Q (.ref b) H'
/-- a digit of the box -/
def spTake : Sp := fun vs H Q _ => ∃ (b : Addr) (n m : Int), vs = [.ref b, .int m] ∧ H b = some (.lst [.int n]) ∧ 0 < m ∧ m.natAbs.log2 < 9000 ∧
  ∀ H' n' d, Kp b H H' → H' b = some (.lst [.int n']) → 0 ≤ d → d < m → Q (.int d) H'
theorem noPy {i m : Int} (h0 : 0 < m) (h : m.natAbs.log2 < 9000) : CDivP i m := by
  refine ⟨h0, ?_⟩
  exact PyProof.noPylong_of_log2 h
theorem yesT {σ : L2.St} {H : Hp} {F G : Hp → Prop} (h : F H) : tYes σ H (fun b H3 => if b = true then F H3 else G H3) := iteT (A := F H) (B := G H) h
theorem Kp.free {b p : Addr} {H H' : Hp} {o : HO} (k : Kp b H H') (e : H' b = some o) (hp : H' p = none) : H p = none := by
  cases q : H p with
  | none => rfl
  | some u =>
    by_cases z : p = b
    · subst z
      rw [hp] at e
      exact nomatch e
    · rw [k p u z q] at hp
      exact nomatch hp
theorem small_log {m : Int} (h : m.natAbs < 2 ^ 60) : m.natAbs.log2 < 9000 := Nat.lt_of_lt_of_le (PySem.Flt.log2_lt_of (by decide) h) (by decide)
theorem small_log' {m : Int} (h0 : 0 ≤ m) (h : m ≤ 100000) : m.natAbs.log2 < 9000 := small_log (Nat.lt_of_le_of_lt (show m.natAbs ≤ 100000 by omega) (by decide))
theorem rep_map (k : Nat) (x : Int) : (List.replicate k [V.int x]).flatten = (List.replicate k x).map V.int := by
  induction k with
  | zero => rfl
  | succ k ih =>
    rw [List.replicate_succ, List.replicate_succ, List.flatten_cons, ih]
    rfl
def spDrawn : Sp := fun vs H Q _ => ∃ (b : Addr) (n most top : Int), vs = [.ref b, .int most, .int top] ∧ H b = some (.lst [.int n]) ∧ 1 ≤ most ∧ most ≤ 100 ∧ 2 ≤ top ∧ top ≤ 1000 ∧
  ∀ H' p n' (ns : List Int), Kp b H H' → H' b = some (.lst [.int n']) → H p = none → H' p = some (.tup (ns.map V.int)) → 1 ≤ ns.length → (ns.length : Int) ≤ most → (∀ x ∈ ns, 1 ≤ x ∧ x ≤ top) → Q (.ref p) H'
theorem menu {top kind : Int} (h1 : 1 ≤ kind) (h2 : kind < 4) (h3 : 2 ≤ top) : ∃ m, atI [V.int top, .int 2, .int top] (kind - 1) = some (.int m) ∧ 0 < m ∧ m ≤ top := by
  rcases (show kind = 1 ∨ kind = 2 ∨ kind = 3 by omega) with rfl | rfl | rfl
  · exact ⟨top, at_of (j := 0) rfl rfl, by omega, by omega⟩
  · exact ⟨2, at_of (j := 1) rfl rfl, by omega, by omega⟩
  · exact ⟨top, at_of (j := 2) rfl rfl, by omega, by omega⟩
/-! ### some kinds, drawn -/
def Rise (ks : List Int) : Prop := ks.Pairwise (· < ·)
theorem rise_add {ks : List Int} {k : Int} (h : Rise ks) (hk : ∀ x ∈ ks, x < k) : Rise (ks ++ [k]) := by
  refine List.pairwise_append.mpr ⟨h, List.pairwise_singleton _ _, fun a ha b hb => ?_⟩
  rw [List.mem_singleton] at hb
  subst hb
  exact hk a ha
def spSome : Sp := fun vs H Q _ => ∃ (b : Addr) (n many : Int), vs = [.ref b, .int many] ∧ H b = some (.lst [.int n]) ∧ 0 ≤ many ∧ many ≤ 100 ∧
  ∀ H' p n' (ks : List Int), Kp b H H' → H' b = some (.lst [.int n']) → H p = none → H' p = some (.tup (ks.map V.int)) → (ks.length : Int) ≤ many → Rise ks → (∀ x ∈ ks, 0 ≤ x ∧ x < many) → Q (.ref p) H'
/-! ### shares -/
def shs (xs : List V) : Bool := decide (1 ≤ xs.length) && decide (xs.length ≤ 5) && xs.all (within 1 9)
def NotTup (H : Hp) : V → Prop
  | .non | .bl _ | .int _ | .str _ => True
  | .ref a => (∃ xs, H a = some (.lst xs)) ∨ ∃ kv, H a = some (.dK kv)
  | _ => False
/-- a thing: a tuple of things whose types are known, or no tuple -/
def Thing (K : PySem.W.Frag) (H : Hp) (x : V) : Prop := (∃ a xs, x = .ref a ∧ H a = some (.tup xs) ∧ (∀ y ∈ xs, Kn K H y)) ∨ NotTup H x
def isShs (H : Hp) : V → Bool
  | .ref a => match H a with
    | some (.tup xs) => shs xs
    | _ => false
  | _ => false
theorem isi_not {K : PySem.W.Frag} {H : Hp} {x : V} (h : NotTup H x) : ∃ t u, ClsV (.ty "tuple") u ∧ TyX K H x t ∧ PySem.W.kitOne K t u = some false := by
  cases x with
  | non => exact ⟨_, _, .ty "tuple", .base .non, kit_ty (by decide +kernel)⟩
  | bl y => exact ⟨_, _, .ty "tuple", .base (.bl y), kit_ty (by decide +kernel)⟩
  | int i => exact ⟨_, _, .ty "tuple", .base (.int i), kit_ty (by decide +kernel)⟩
  | str y => exact ⟨_, _, .ty "tuple", .base (.str y), kit_ty (by decide +kernel)⟩
  | ref a =>
    rcases h with ⟨y, z⟩ | ⟨y, z⟩
    · exact ⟨_, _, .ty "tuple", .base (.lst z), kit_ty (by decide +kernel)⟩
    · exact ⟨_, _, .ty "tuple", .base (.dK z), kit_ty (by decide +kernel)⟩
  | byt y => exact h.elim
  | flt y => exact h.elim
  | ty y => exact h.elim
theorem isShs_not {H : Hp} {x : V} (h : NotTup H x) : isShs H x = false := by
  cases x with
  | ref a => rcases h with ⟨y, z⟩ | ⟨y, z⟩ <;> simp only [isShs, z]
  | _ => rfl
theorem isi_tup {K : PySem.W.Frag} {H : Hp} {a : Addr} {xs : List V} (h : H a = some (.tup xs)) : ∃ t u, ClsV (.ty "tuple") u ∧ TyX K H (.ref a) t ∧ PySem.W.kitOne K t u = some true := ⟨_, _, .ty "tuple", .base (.tup h), kit_ty (by decide +kernel)⟩
def spShares (K : PySem.W.Frag) : Sp := fun vs H Q _ => ∃ x, vs = [x] ∧ Thing K H x ∧ ∀ H', Same H H' → Q (.bl (isShs H x)) H'
theorem walk_zipT {K : PySem.W.Frag} {a b : Addr} {xs ys : List V} : Walk (RZ.ItzT K a b) (min xs.length ys.length) (fun H => SqT K H a xs ∧ SqT K H b ys) (YPair (fun i => xs[i]?) (fun i => ys[i]?)) :=
  ⟨fun i _ hi q => ⟨xs, ys, xs[i]'(by omega), ys[i]'(by omega), q.1, q.2, by simp [show i < xs.length by omega], by simp [show i < ys.length by omega]⟩,
    fun _ q => ⟨xs, ys, q.1, q.2, by omega⟩, fun i H v H' _ q y => by
      obtain ⟨T, x, y, e1, e2, e3, e4, e5⟩ := y
      exact ⟨T, x, y, e1, e2, e3, e4 xs q.1, e5 ys q.2⟩⟩
def ltB : V → V → Bool
  | .int a, .int b => decide (a < b)
  | _, _ => false
def ups (xs : List V) : Bool := (List.zipWith ltB xs (xs.drop 1)).all id
def someK (n : Nat) (xs : List V) : Bool := xs.all (within 0 ((n : Int) - 1)) && ups xs
theorem all_ints {lo hi : Int} : ∀ {xs : List V}, xs.all (within lo hi) = true → ∃ ks : List Int, xs = ks.map V.int ∧ ∀ k ∈ ks, lo ≤ k ∧ k ≤ hi
  | [], _ => ⟨[], rfl, fun _ h => nomatch h⟩
  | x :: xs, h => by
    rw [List.all_cons, Bool.and_eq_true] at h
    obtain ⟨ks, e, hk⟩ := all_ints h.2
    cases x with
    | int i =>
      have h1 : (decide (lo ≤ i) && decide (i ≤ hi)) = true := h.1
      rw [Bool.and_eq_true, decide_eq_true_eq, decide_eq_true_eq] at h1
      refine ⟨i :: ks, by rw [e]; rfl, fun k hk' => ?_⟩
      rcases List.mem_cons.mp hk' with rfl | hk'
      · exact h1
      · exact hk k hk'
    | _ => exact nomatch h.1
theorem ups_rise : ∀ {ks : List Int}, Rise ks → ups (ks.map V.int) = true
  | [], _ => rfl
  | [_], _ => rfl
  | a :: b :: r, h => by
    have h2 := List.pairwise_cons.mp h
    have ih := ups_rise h2.2
    show (ltB (.int a) (.int b) && (List.zipWith ltB ((b :: r).map V.int) (((b :: r).map V.int).drop 1)).all id) = true
    rw [Bool.and_eq_true]
    exact ⟨decide_eq_true (h2.1 b List.mem_cons_self), ih⟩
theorem within_all {ks : List Int} {lo hi : Int} (h : ∀ k ∈ ks, lo ≤ k ∧ k ≤ hi) : (ks.map V.int).all (within lo hi) = true := by
  rw [List.all_map, List.all_eq_true]
  intro k hk
  show (decide (lo ≤ k) && decide (k ≤ hi)) = true
  rw [decide_eq_true (h k hk).1, decide_eq_true (h k hk).2]; rfl
theorem someK_of {n : Nat} {ks : List Int} (h : Rise ks) (hk : ∀ k ∈ ks, 0 ≤ k ∧ k < n) : someK n (ks.map V.int) = true := by
  unfold someK
  rw [ups_rise h, within_all (fun k hk' => ⟨(hk k hk').1, by have := (hk k hk').2; omega⟩)]; rfl
def isSm (H : Hp) (n : Nat) : V → Bool
  | .ref a => match H a with
    | some (.tup xs) => someK n xs
    | _ => false
  | _ => false
theorem isSm_not {H : Hp} {x : V} {n : Nat} (h : NotTup H x) : isSm H n x = false := by
  cases x with
  | ref a => rcases h with ⟨y, z⟩ | ⟨y, z⟩ <;> simp only [isSm, z]
  | _ => rfl
theorem cut_tail (xs : List V) (h : ¬ (HT.sIx xs.length 0 (some 1) = 0 ∧ HT.sIx xs.length xs.length none = xs.length)) : cutV xs (some 1) none = xs.drop 1 ∧ xs ≠ [] := by
  have e1 : HT.sIx xs.length 0 (some 1) = min 1 xs.length := HT.sIx_nat xs.length 0 1
  have e2 : HT.sIx xs.length xs.length none = xs.length := HT.sIx_none _ _
  rw [e1, e2] at h
  unfold cutV
  rw [e1, e2]
  cases xs with
  | nil => exact absurd ⟨rfl, rfl⟩ h
  | cons x r =>
    refine ⟨?_, fun z => nomatch z⟩
    rw [List.length_cons, show min 1 (r.length + 1) = 1 by omega, Nat.add_sub_cancel]
    exact List.take_length
theorem cut_whole (xs : List V) (h : HT.sIx xs.length 0 (some 1) = 0) : xs.length = 0 := by
  have e1 : HT.sIx xs.length 0 (some 1) = min 1 xs.length := HT.sIx_nat xs.length 0 1
  omega
def spChk (K : PySem.W.Frag) : Sp := fun vs H Q _ => ∃ x, vs = [x] ∧ Thing K H x ∧ isShs H x = true ∧ ∀ H', Same H H' → Q .non H'
def spIsSome (K : PySem.W.Frag) : Sp := fun vs H Q _ => ∃ x a ss, vs = [x, .ref a] ∧ H a = some (.tup ss) ∧ ss.length ≤ 1000 ∧ Thing K H x ∧ (∀ c xs, x = .ref c → H c = some (.tup xs) → xs.length ≤ 1000) ∧ ∀ H', Same H H' → Q (.bl (isSm H ss.length x)) H'
def spChkSome (K : PySem.W.Frag) : Sp := fun vs H Q _ => ∃ x a ss, vs = [x, .ref a] ∧ H a = some (.tup ss) ∧ ss.length ≤ 1000 ∧ Thing K H x ∧ (∀ c xs, x = .ref c → H c = some (.tup xs) → xs.length ≤ 1000) ∧ isSm H ss.length x = true ∧ ∀ H', Same H H' → Q .non H'
/-! ### totals and parts of shares -/
/-- shares, as numbers -/
def Good (ns : List Int) : Prop := 1 ≤ ns.length ∧ ns.length ≤ 5 ∧ ∀ x ∈ ns, 1 ≤ x ∧ x ≤ 9
theorem Good.shs {ns : List Int} (h : Good ns) : shs (ns.map V.int) = true := by
  unfold KGX.shs
  rw [List.length_map, decide_eq_true h.1, decide_eq_true h.2.1, within_all h.2.2]; rfl
theorem kn_ints {K : PySem.W.Frag} {H : Hp} {ns : List Int} : ∀ y ∈ ns.map V.int, Kn K H y := fun y hy => by
  obtain ⟨x, _, rfl⟩ := List.mem_map.mp hy
  trivial
theorem thing_ints {K : PySem.W.Frag} {H : Hp} {a : Addr} {ns : List Int} (h : H a = some (.tup (ns.map V.int))) : Thing K H (.ref a) := .inl ⟨a, _, rfl, h, kn_ints⟩
theorem isShs_of {H : Hp} {a : Addr} {ns : List Int} (h : H a = some (.tup (ns.map V.int))) (g : Good ns) : isShs H (.ref a) = true := by
  simp only [isShs, h]; exact g.shs
theorem sum_bounds : ∀ {ns : List Int}, (∀ x ∈ ns, 0 ≤ x ∧ x ≤ 9) → 0 ≤ ns.sum ∧ ns.sum ≤ 9 * ns.length
  | [], _ => by decide
  | x :: r, h => by
    have h1 := h x List.mem_cons_self
    have h2 := sum_bounds (ns := r) fun y hy => h y (List.mem_cons_of_mem _ hy)
    rw [List.sum_cons, List.length_cons]
    omega
theorem Good.sum_pos {ns : List Int} (g : Good ns) : 0 < ns.sum ∧ ns.sum ≤ 45 := by
  obtain ⟨h1, h5, hx⟩ := g
  cases ns with
  | nil => exact absurd h1 (by decide)
  | cons x r =>
    have a1 := hx x List.mem_cons_self
    have a2 := sum_bounds (ns := r) fun y hy => ⟨by have := (hx y (List.mem_cons_of_mem _ hy)).1; omega, (hx y (List.mem_cons_of_mem _ hy)).2⟩
    rw [List.sum_cons]
    rw [List.length_cons] at h5
    omega
def pick (ns ks : List Int) : List Int := ks.map fun k => ns.getD k.toNat 0
def spTotal : Sp := fun vs H Q _ => ∃ (a : Addr) (ns : List Int), vs = [.ref a] ∧ H a = some (.tup (ns.map V.int)) ∧ Good ns ∧ ∀ H', Same H H' → Q (.int ns.sum) H'
/-- [shares[kind] for kind in some] -/
theorem at_kind {ns : List Int} {k : Int} (h0 : 0 ≤ k) (h1 : k < ns.length) : atI (ns.map V.int) k = some (.int (ns.getD k.toNat 0)) := by
  refine at_of (j := k.toNat) (by omega) ?_
  have hk : k.toNat < ns.length := by omega
  rw [List.getElem?_map, List.getElem?_eq_getElem hk, List.getD_eq_getElem?_getD, List.getElem?_eq_getElem hk]
  rfl
def spPart : Sp := fun vs H Q _ => ∃ (a c : Addr) (ns ks : List Int), vs = [.ref a, .ref c] ∧ H a = some (.tup (ns.map V.int)) ∧ Good ns ∧ H c = some (.tup (ks.map V.int)) ∧ ks.length ≤ 1000 ∧ Rise ks ∧ (∀ k ∈ ks, 0 ≤ k ∧ k < ns.length) ∧
  ∀ H' p, Same H H' → H p = none → H' p = some (.tup (low (pick ns ks).sum ns.sum)) → Q (.ref p) H'
/-! ### what is shown -/
theorem shown_int {i : Int} (h : i.natAbs.log2 < 1920) : (PyData.shown (.int i)).length ≤ 1921 := by
  have e := int_text_length_le (k := 1920) (by decide) h
  show (Str.ofString (toString i)).length ≤ _
  rw [PySem.ofString_length]
  exact e
theorem sh_int {i : Int} (h : i.natAbs.log2 < 1920) : KG.ShowOk (.int i) := ⟨decide_eq_true h, rfl, (by show (0 : Nat) ≤ 20; decide), Nat.le_trans (shown_int h) (by decide)⟩
theorem sh_two {i j : Int} (hi : i.natAbs.log2 < 1920) (hj : j.natAbs.log2 < 1920) : KG.ShowOk (.tuple [.int i, .int j]) := by
  refine ⟨?_, rfl, by show 0 + 1 ≤ 20; decide, ?_⟩
  · show (decide (i.natAbs.log2 < 1920) && (decide (j.natAbs.log2 < 1920) && true)) = true
    rw [decide_eq_true hi, decide_eq_true hj]; rfl
  · have e := tupleText_len_le [PyData.shown (.int i), PyData.shown (.int j)]
    have e1 := shown_int hi
    have e2 := shown_int hj
    show (tupleText [PyData.shown (.int i), PyData.shown (.int j)]).length ≤ _
    refine Nat.le_trans e (Nat.le_trans ?_ (show 4000 ≤ sizeLine by decide))
    simp only [List.map_cons, List.map_nil, List.sum_cons, List.sum_nil, List.length_cons, List.length_nil]
    omega
theorem log_of {i : Int} {n : Nat} (h : i.natAbs < 2 ^ n) (h0 : 0 < n) (hn : n ≤ 1920) : i.natAbs.log2 < 1920 := Nat.lt_of_lt_of_le (PySem.Flt.log2_lt_of h0 h) hn
theorem log_small {i : Int} (h : i.natAbs ≤ 1000000) : i.natAbs.log2 < 1920 := log_of (n := 20) (Nat.lt_of_le_of_lt h (by decide)) (by decide) (by decide)
/-- some kinds, written as a tuple -/
def KindsAt (m : Nat) (H : Hp) (q : Addr) : Prop := ∃ ks : List Int, H q = some (.tup (ks.map V.int)) ∧ ks.length ≤ 1000 ∧ Rise ks ∧ ∀ k ∈ ks, 0 ≤ k ∧ k < m
theorem KindsAt.mono {m : Nat} {H H' : Hp} {q : Addr} (h : KindsAt m H q) (s : Same H H') : KindsAt m H' q := by
  obtain ⟨ks, e, r⟩ := h
  exact ⟨ks, s _ _ e, r⟩
theorem KindsAt.kp {m : Nat} {b : Addr} {o : List V} {H H' : Hp} {q : Addr} (h : KindsAt m H q) (eb : H b = some (.lst o)) (s : Kp b H H') : KindsAt m H' q := by
  obtain ⟨ks, e, r⟩ := h
  exact ⟨ks, s _ _ (ne_of e eb (by intro z; cases z)) e, r⟩
theorem rise_range (n : Nat) : Rise ((List.range n).map fun i : Nat => (i : Int)) := by
  refine List.pairwise_map.mpr (List.Pairwise.imp ?_ List.pairwise_lt_range)
  intro a b h
  exact Int.ofNat_lt.mpr h
theorem rg_kinds {H : Hp} {q : Addr} {n : Nat} (hn : n ≤ 1000) (e : H q = some (.tup (rgV 0 n))) : KindsAt n H q := by
  refine ⟨(List.range n).map fun i : Nat => (i : Int), ?_, ?_, rise_range n, ?_⟩
  · rw [e]
    unfold rgV
    rw [List.map_map, show ((n : Int) - 0).toNat = n by omega]
    congr 2
    refine List.map_congr_left fun i _ => ?_
    show V.int (0 + (i : Int)) = V.int (i : Int)
    rw [Int.zero_add]
  · rw [List.length_map, List.length_range]; exact hn
  · intro k hk
    obtain ⟨i, hi, rfl⟩ := List.mem_map.mp hk
    have := List.mem_range.mp hi
    omega
theorem low_small {t b : Int} (ht : t.natAbs ≤ 1000000) (h0 : 0 < b) (hb : b ≤ 1000000) : (t / (Int.gcd t b : Int)).natAbs.log2 < 1920 ∧ (b / (Int.gcd t b : Int)).natAbs.log2 < 1920 := by
  have g := gcd_pos (t := t) h0
  have d : ∀ x : Int, x.natAbs ≤ 1000000 → (x / (Int.gcd t b : Int)).natAbs ≤ 1000000 := fun x hx => by
    have h1 : (x / (Int.gcd t b : Int)).natAbs ≤ x.natAbs := Int.natAbs_ediv_le_natAbs _ _
    omega
  exact ⟨log_small (d t ht), log_small (d b (by omega))⟩
def sp_law (K : PySem.W.Frag) : Sp := fun vs H Q _ => ∃ (a : Addr) (ns : List Int), vs = [.ref a] ∧ SqL K H a (ns.map V.int) ∧ ns.length ≤ 63 ∧ ∀ H', Q (.bl true) H'
theorem start_law (K : PySem.W.Frag) (H : Hp) (a : Addr) (ns : List Int) (hl : ns.length ≤ 63) (_ : Only H) (hS : SqL K H a (ns.map V.int)) : sp_law K [.ref a] H (fun v _ => v = .bl true) fun _ _ _ => False := ⟨a, ns, rfl, hS, hl, fun _ => rfl⟩
theorem pick_bounds {ss ks : List Int} (g : Good ss) (hk : ∀ k ∈ ks, 0 ≤ k ∧ k < ss.length) : ∀ x ∈ pick ss ks, 0 ≤ x ∧ x ≤ 9 := fun x hx => by
  obtain ⟨k, hk', rfl⟩ := List.mem_map.mp hx
  have h := hk k hk'
  have hl : k.toNat < ss.length := by omega
  rw [List.getD_eq_getElem?_getD, List.getElem?_eq_getElem hl]
  have := g.2.2 ss[k.toNat] (List.getElem_mem hl)
  show 0 ≤ ss[k.toNat] ∧ ss[k.toNat] ≤ 9
  omega
end KGX

namespace KGX
open PySem PySem.Spec PyProof.Rows L2
/-! ### fractions -/
def frB : List V → Bool
  | [.int t, .int b] => decide (1 ≤ b) && decide (Int.gcd t b = 1)
  | _ => false
def isFr (H : Hp) : V → Bool
  | .ref a => match H a with
    | some (.tup xs) => frB xs
    | _ => false
  | _ => false
theorem isFr_not {H : Hp} {x : V} (h : NotTup H x) : isFr H x = false := by
  cases x with
  | ref a => rcases h with ⟨y, z⟩ | ⟨y, z⟩ <;> simp only [isFr, z]
  | _ => rfl
theorem isFr_tup {H : Hp} {a : Addr} {xs : List V} (h : H a = some (.tup xs)) : isFr H (.ref a) = frB xs := by simp only [isFr, h]
theorem frB_len {xs : List V} (h : xs.length ≠ 2) : frB xs = false := by
  match xs, h with
  | [], _ => rfl
  | [x], _ => cases x <;> rfl
  | [_, _], h => exact absurd rfl h
  | x :: y :: z :: r, _ => cases x <;> first | rfl | (cases y <;> rfl)
theorem frB_not {x y : V} (h : whole x = false ∨ whole y = false) : frB [x, y] = false := by
  cases x with
  | int i =>
    cases y with
    | int j => rcases h with h | h <;> exact nomatch h
    | _ => rfl
  | _ => rfl
def spIsFr (K : PySem.W.Frag) : Sp := fun vs H Q _ => ∃ x, vs = [x] ∧ Thing K H x ∧ Q (.bl (isFr H x)) H
/-- a fraction of a size that can be reckoned with -/
def Fr (a b : Int) : Prop := 1 ≤ b ∧ Int.gcd a b = 1 ∧ a.natAbs < 2 ^ 4000 ∧ b.natAbs < 2 ^ 4000
theorem Fr.is {H : Hp} {p : Addr} {a b : Int} (h : Fr a b) (e : H p = some (.tup [.int a, .int b])) : isFr H (.ref p) = true := by
  rw [isFr_tup e]
  show (decide (1 ≤ b) && decide (Int.gcd a b = 1)) = true
  rw [decide_eq_true h.1, decide_eq_true h.2.1]; rfl
theorem thing_two {K : PySem.W.Frag} {H : Hp} {p : Addr} {a b : Int} (e : H p = some (.tup [.int a, .int b])) : Thing K H (.ref p) := thing_ints (ns := [a, b]) e
/-- two fractions handed in -/
def sp2 (g : Int → Int → Int → Int → VK → Hp → Prop) : Sp := fun vs H Q _ => ∃ p q a b c d, vs = [.ref p, .ref q] ∧ H p = some (.tup [.int a, .int b]) ∧ H q = some (.tup [.int c, .int d]) ∧ Fr a b ∧ Fr c d ∧ g a b c d Q H
/-- a new fraction -/
def newFr (t b : Int) : VK → Hp → Prop := fun Q H => ∀ H' r, Same H H' → H r = none → H' r = some (.tup (low t b)) → Q (.ref r) H'
def spChkFr : Sp := sp2 fun _ _ _ _ Q H => Q .non H
def spAdded : Sp := sp2 fun a b c d => newFr (a * d + c * b) (b * d)
def spLessened : Sp := sp2 fun a b c d => newFr (a * d - c * b) (b * d)
def spMultiplied : Sp := sp2 fun a b c d => newFr (a * c) (b * d)
def spIsLess : Sp := sp2 fun a b c d Q H => Q (.bl (decide (a * d < c * b))) H
theorem mulW {i j : Int} (hi : i.natAbs < 2 ^ 4000) (hj : j.natAbs < 2 ^ 4000) : CMulW i j := wide_mul hi hj (by decide) (by decide) (by decide)
theorem log_prod {b d : Int} (hb : b.natAbs < 2 ^ 4000) (hd : d.natAbs < 2 ^ 4000) : (b * d).natAbs.log2 < 9000 := by
  have h := wide_lt hb hd
  exact Nat.lt_of_lt_of_le (PySem.Flt.log2_lt_of (by decide) h) (by decide)
theorem pos_prod {b d : Int} (hb : 1 ≤ b) (hd : 1 ≤ d) : 0 < b * d := Int.mul_pos (by omega) (by omega)
/-! ### lowest terms -/
theorem low_mul {t b y : Int} (hb : 0 < b) (hy : 0 < y) : low (t * y) (b * y) = low t b := by
  have e : (Int.gcd (t * y) (b * y) : Int) = (Int.gcd t b : Int) * y := by
    rw [Int.gcd_mul_right]
    have : (y.natAbs : Int) = y := by omega
    rw [Int.natCast_mul, this]
  have g := gcd_pos (t := t) hb
  unfold low
  rw [e, Int.mul_ediv_mul_of_pos_left _ _ hy, Int.mul_ediv_mul_of_pos_left _ _ hy]
theorem low_fr {t b : Int} (hb : 0 < b) : 1 ≤ b / (Int.gcd t b : Int) ∧ Int.gcd (t / (Int.gcd t b : Int)) (b / (Int.gcd t b : Int)) = 1 := by
  have g := gcd_pos (t := t) hb
  have gl := gcd_le (t := t) hb
  refine ⟨?_, ?_⟩
  · exact (Int.le_ediv_iff_mul_le g).mpr (by omega)
  · exact Int.gcd_ediv_gcd_ediv_gcd (by omega)
theorem natAbs_div_le {x g : Int} : (x / g).natAbs ≤ x.natAbs := Int.natAbs_ediv_le_natAbs _ _
/-! ### numbers drawn -/
def spNum : Sp := fun vs H Q _ => ∃ (b : Addr) (n : Int), vs = [.ref b] ∧ H b = some (.lst [.int n]) ∧ ∀ H' n' v, Kp b H H' → H' b = some (.lst [.int n']) → v.natAbs ≤ 10 ^ 19 → Q (.int v) H'
def spTruth : Sp := fun vs H Q _ => ∃ x y, vs = [.bl x, .bl y] ∧ Q (.bl (decide (x = y))) H
/-- two pairs handed in, whatever they are -/
def spPlus : Sp := fun vs H Q _ => ∃ p q a b c d, vs = [.ref p, .ref q] ∧ H p = some (.tup [.int a, .int b]) ∧ H q = some (.tup [.int c, .int d]) ∧ 1 ≤ b ∧ 1 ≤ d ∧
  a.natAbs < 2 ^ 4000 ∧ b.natAbs < 2 ^ 4000 ∧ c.natAbs < 2 ^ 4000 ∧ d.natAbs < 2 ^ 4000 ∧ newFr (a * d + c * b) (b * d) Q H
/-- a size, kept below -/
theorem sz_mul {i j : Int} {m n : Nat} (hi : i.natAbs < 2 ^ m) (hj : j.natAbs < 2 ^ n) : (i * j).natAbs < 2 ^ (m + n) := wide_lt hi hj
theorem sz_add {i j : Int} {n : Nat} (hi : i.natAbs < 2 ^ n) (hj : j.natAbs < 2 ^ n) : (i + j).natAbs < 2 ^ (n + 1) := by
  rw [Nat.pow_succ]; omega
theorem sz_sub {i j : Int} {n : Nat} (hi : i.natAbs < 2 ^ n) (hj : j.natAbs < 2 ^ n) : (i - j).natAbs < 2 ^ (n + 1) := by
  rw [Nat.pow_succ]; omega
theorem sz_le {i : Int} {m n : Nat} (hi : i.natAbs < 2 ^ m) (h : m ≤ n) : i.natAbs < 2 ^ n := Nat.lt_of_lt_of_le hi (Nat.pow_le_pow_right (by decide) h)
theorem low_show {t b : Int} {n : Nat} (ht : t.natAbs < 2 ^ n) (hb : b.natAbs < 2 ^ n) (h0 : 0 < n) (hn : n ≤ 1920) : KG.ShowOk (.tuple [.int (t / (Int.gcd t b : Int)), .int (b / (Int.gcd t b : Int))]) :=
  sh_two (log_of (Nat.lt_of_le_of_lt natAbs_div_le ht) h0 hn) (log_of (Nat.lt_of_le_of_lt natAbs_div_le hb) h0 hn)
end KGX

namespace KGX
open PySem PySem.Spec PyProof.Rows L2
/-! ### things of whatever kind, off the box at b; l: lists, else dicts may be in them -/
def keyD : Key → PyData
  | .inl i => .int i
  | .inr x => .str x
mutual
inductive Dq (l : Bool) (b : Addr) (H : Hp) : V → PyData → Prop
  | non : Dq l b H .non .none
  | bl (x : Bool) : Dq l b H (.bl x) (.bool x)
  | int (i : Int) : Dq l b H (.int i) (.int i)
  | str (x : Str) : Dq l b H (.str x) (.str x)
  | lst {a : Addr} {xs : List V} {ds : List PyData} : l = true → a ≠ b → H a = some (.lst xs) → DqAll l b H xs ds → Dq l b H (.ref a) (.list ds)
  | tup {a : Addr} {xs : List V} {ds : List PyData} : H a = some (.tup xs) → DqAll l b H xs ds → Dq l b H (.ref a) (.tuple ds)
  | dct {a : Addr} {kvs : List (Key × Int)} : l = false → H a = some (.dK (kvs.map fun p => (p.1, V.int p.2))) → Dq l b H (.ref a) (.dict (kvs.map fun p => (keyD p.1, PyData.int p.2)))
inductive DqAll (l : Bool) (b : Addr) (H : Hp) : List V → List PyData → Prop
  | nil : DqAll l b H [] []
  | cons {v : V} {vs : List V} {d : PyData} {ds : List PyData} : Dq l b H v d → DqAll l b H vs ds → DqAll l b H (v :: vs) (d :: ds)
end
section
variable {l : Bool} {b : Addr} {H H' : Hp} {o : List V}
mutual
theorem Dq.kp (eb : H b = some (.lst o)) (k : Kp b H H') : ∀ {v : V} {d : PyData}, Dq l b H v d → Dq l b H' v d
  | _, _, .non => .non
  | _, _, .bl x => .bl x
  | _, _, .int x => .int x
  | _, _, .str x => .str x
  | _, _, .lst h1 h2 h3 h4 => .lst h1 h2 (k _ _ h2 h3) (DqAll.kp eb k h4)
  | _, _, .tup h1 h2 => .tup (k _ _ (ne_of h1 eb (by intro z; cases z)) h1) (DqAll.kp eb k h2)
  | _, _, .dct h1 h2 => .dct h1 (k _ _ (ne_of h2 eb (by intro z; cases z)) h2)
theorem DqAll.kp (eb : H b = some (.lst o)) (k : Kp b H H') : ∀ {vs : List V} {ds : List PyData}, DqAll l b H vs ds → DqAll l b H' vs ds
  | _, _, .nil => .nil
  | _, _, .cons h1 h2 => .cons (Dq.kp eb k h1) (DqAll.kp eb k h2)
end
mutual
theorem Dq.mono (k : Same H H') : ∀ {v : V} {d : PyData}, Dq l b H v d → Dq l b H' v d
  | _, _, .non => .non
  | _, _, .bl x => .bl x
  | _, _, .int x => .int x
  | _, _, .str x => .str x
  | _, _, .lst h1 h2 h3 h4 => .lst h1 h2 (k _ _ h3) (DqAll.mono k h4)
  | _, _, .tup h1 h2 => .tup (k _ _ h1) (DqAll.mono k h2)
  | _, _, .dct h1 h2 => .dct h1 (k _ _ h2)
theorem DqAll.mono (k : Same H H') : ∀ {vs : List V} {ds : List PyData}, DqAll l b H vs ds → DqAll l b H' vs ds
  | _, _, .nil => .nil
  | _, _, .cons h1 h2 => .cons (Dq.mono k h1) (DqAll.mono k h2)
end
theorem Dq.kn {K : PySem.W.Frag} {v : V} {d : PyData} (h : Dq l b H v d) : Kn K H v := by
  cases h with
  | non => trivial
  | bl x => trivial
  | int x => trivial
  | str x => trivial
  | lst h1 h2 h3 h4 => exact .inl ⟨_, h3⟩
  | tup h1 h2 => exact .inr (.inl ⟨_, h1⟩)
  | dct h1 h2 => exact .inr (.inr ⟨_, h2⟩)
theorem DqAll.kn {K : PySem.W.Frag} : ∀ {vs : List V} {ds : List PyData}, DqAll l b H vs ds → ∀ y ∈ vs, Kn K H y
  | _, _, .nil, _, hy => nomatch hy
  | _, _, .cons h1 h2, y, hy => by
    rcases List.mem_cons.mp hy with rfl | hy
    · exact h1.kn
    · exact DqAll.kn h2 y hy
theorem Dq.thing {K : PySem.W.Frag} {v : V} {d : PyData} (h : Dq l b H v d) : Thing K H v := by
  cases h with
  | non => exact .inr trivial
  | bl x => exact .inr trivial
  | int x => exact .inr trivial
  | str x => exact .inr trivial
  | lst h1 h2 h3 h4 => exact .inr (.inl ⟨_, h3⟩)
  | tup h1 h2 => exact .inl ⟨_, _, rfl, h1, h2.kn⟩
  | dct h1 h2 => exact .inr (.inr ⟨_, h2⟩)
theorem DqAll.append : ∀ {vs ws : List V} {ds es : List PyData}, DqAll l b H vs ds → DqAll l b H ws es → DqAll l b H (vs ++ ws) (ds ++ es)
  | _, _, _, _, .nil, h => h
  | _, _, _, _, .cons h1 h2, h => .cons h1 (DqAll.append h2 h)
theorem DqAll.ints : ∀ (ns : List Int), DqAll l b H (ns.map V.int) (ns.map PyData.int)
  | [] => .nil
  | i :: r => .cons (.int i) (DqAll.ints r)
mutual
theorem Dq.noDict : ∀ {v : V} {d : PyData}, Dq true b H v d → d.hasDict = false
  | _, _, .non => rfl
  | _, _, .bl x => rfl
  | _, _, .int x => rfl
  | _, _, .str x => rfl
  | _, _, .lst h1 h2 h3 h4 => by show PyData.hasDictAll _ = false; exact DqAll.noDict h4
  | _, _, .tup h1 h2 => by show PyData.hasDictAll _ = false; exact DqAll.noDict h2
theorem DqAll.noDict : ∀ {vs : List V} {ds : List PyData}, DqAll true b H vs ds → PyData.hasDictAll ds = false
  | _, _, .nil => rfl
  | _, _, .cons h1 h2 => by
    show (PyData.hasDict _ || PyData.hasDictAll _) = false
    rw [Dq.noDict h1, DqAll.noDict h2]; rfl
end
end
section
variable {X : Cx} {pins : List (Addr × Obj)} {σ : L2.St} {H : Hp} {s : Shared} {l : Bool} {b : Addr}
theorem pairs_read {h : Heap} : ∀ {es : List DictEntry} {vs : List (Key × Value)} {kvs : List (Key × Int)}, PySem.Pairs (mixKind X.prog X.w) es vs → KV (kvs.map fun p => (p.1, V.int p.2)) vs →
    ReadsAll h (es.map (·.key)) ((kvs.map fun p => (keyD p.1, PyData.int p.2)).map (·.1)) [] ∧ ReadsAll h (es.map (·.val)) ((kvs.map fun p => (keyD p.1, PyData.int p.2)).map (·.2)) []
  | _, _, [], hp, hk => by
    cases hk
    cases hp
    exact ⟨.nil, .nil⟩
  | _, _, (k, i) :: r, hp, hk => by
    cases hk with
    | cons h1 h2 =>
      cases hp with
      | @cons ent _ _ _ k1 k2 k3 =>
        obtain ⟨r1, r2⟩ := pairs_read (h := h) k3 h2
        obtain ⟨e1, e2⟩ := h1
        obtain ⟨t, e2⟩ := e2
        rw [← e1] at k1
        refine ⟨?_, ?_⟩
        · have hk2 : Reads h ent.key (keyD k) [] := by
            rcases keyIs_shape (show keyIs k _ = true from k1) with ⟨i', t', rfl, e⟩ | ⟨x', t', rfl, e⟩
            · rw [e]; exact .int _ _
            · rw [e]; exact .str _ _
          exact ReadsAll.cons (as := []) hk2 r1
        · rw [List.map_cons, k2, e2]
          exact ReadsAll.cons (as := []) (.int _ _) r2
mutual
theorem Dq.reads (I : Inv X pins σ H s) : ∀ {d : PyData} {v : V} {u : Value}, Dq l b H v d → RelV v u → ∃ as, Reads s.heap u d as ∧ (l = false → sysModules ∉ as)
  | _, _, u, .non, r => by
    cases (show u = Value.none from r)
    exact ⟨_, .none, fun _ z => nomatch z⟩
  | _, _, u, .bl x, r => by
    cases (show u = Value.bool x from r)
    exact ⟨_, .bool x, fun _ z => nomatch z⟩
  | _, _, u, .int i, r => by
    obtain ⟨t, rfl⟩ := (show ∃ t, u = Value.int i t from r)
    exact ⟨_, .int i t, fun _ z => nomatch z⟩
  | _, _, u, .str x, r => by
    obtain ⟨t, rfl⟩ := (show ∃ t, u = Value.str x t from r)
    exact ⟨_, .str x t, fun _ z => nomatch z⟩
  | _, _, u, .lst (a := a) h1 h2 h3 h4, r => by
    cases (show u = Value.ref a from r)
    obtain ⟨its, rv, ⟨o, n, ho, hc, _, hd⟩, _⟩ := I.list (.inl (.inl h3))
    obtain ⟨as, hr, _⟩ := DqAll.reads I h4 rv
    exact ⟨_, .list ho hc hd hr, fun z => by rw [h1] at z; exact nomatch z⟩
  | _, _, u, .tup (a := a) h1 h2, r => by
    cases (show u = Value.ref a from r)
    obtain ⟨its, rv, ⟨o, ho, hc, n, hd⟩, _⟩ := I.tuple (.inl (.inl h1))
    obtain ⟨as, hr, hn⟩ := DqAll.reads I h2 rv
    exact ⟨_, .tuple ho hc hd hr, hn⟩
  | _, _, u, .dct (a := a) (kvs := kvs) h1 h2, r => by
    cases (show u = Value.ref a from r)
    obtain ⟨_, hsys, vs, hk, o, es, ep, e1, e2, e3, _, hp, _⟩ := I.hok a _ h2
    obtain ⟨r1, r2⟩ := pairs_read (X := X) (h := s.heap) hp hk
    refine ⟨_, .dict e1 e2.1 e3 r1 r2, fun _ z => ?_⟩
    have z' : sysModules = a := by simpa using z
    rw [← z'] at hsys
    simp at hsys
theorem DqAll.reads (I : Inv X pins σ H s) : ∀ {ds : List PyData} {vs : List V} {us : List Value}, DqAll l b H vs ds → Vals vs us → ∃ as, ReadsAll s.heap us ds as ∧ (l = false → sysModules ∉ as)
  | _, _, _, .nil, r => by
    cases r
    exact ⟨_, .nil, fun _ z => nomatch z⟩
  | _, _, _, .cons h1 h2, r => by
    cases r with
    | cons r1 r2 =>
      obtain ⟨as, q1, n1⟩ := Dq.reads I h1 r1
      obtain ⟨bs, q2, n2⟩ := DqAll.reads I h2 r2
      refine ⟨_, .cons q1 q2, fun z y => ?_⟩
      rcases List.mem_append.mp y with y | y
      · exact n1 z y
      · exact n2 z y
end
/-- it can be shown in so many signs, at such a depth -/
def Small (m k : Nat) (d : PyData) : Prop := d.showable = true ∧ d.shown.length ≤ m ∧ d.depth ≤ k
/-- repr of a thing -/
def rReprQ : List V → Hp → VK → Prop := fun xs H Q => ∃ x l b d, xs = [x] ∧ Dq l b H x d ∧ Small 100000 20 d ∧ Q (.str d.shown) H
theorem call_reprQ {k : Nat} (gd : X.A.guards = some []) (hr : Room k X.A) : CallR X (.builtin "repr") rReprQ := by
  intro pins s σ H xs us Q I r h
  obtain ⟨x, l, b, d, rfl, hd, ⟨hs, hl, hz⟩, q⟩ := h
  obtain ⟨u, rfl, ru⟩ := vals1 r
  have un := hr.un
  have hl' : d.shown.length ≤ sizeLine := Nat.le_trans hl (by decide)
  obtain ⟨as, rd, hn⟩ := Dq.reads I hd ru
  have hsm : d.hasDict = true → sysModules ∉ as := fun z => by
    cases l with
    | false => exact hn rfl
    | true => rw [Dq.noDict hd] at z; exact nomatch z
  cases hd with
  | non => cases (show u = Value.none from ru); exact PySem.P.repr_of_none ⟨.str _, H, I.tok _, ⟨_, rfl⟩, q⟩
  | bl b => cases (show u = Value.bool b from ru); exact PySem.P.repr_of_bool ⟨.str _, H, I.tok _, ⟨_, rfl⟩, q⟩
  | int i => obtain ⟨t, rfl⟩ := (show ∃ t, u = Value.int i t from ru); exact PySem.P.repr_of_int (of_decide_eq_true hs) ⟨.str _, H, I.tok _, ⟨_, rfl⟩, q⟩
  | str y => obtain ⟨t, rfl⟩ := (show ∃ t, u = Value.str y t from ru); exact PySem.P.repr_of_str ⟨.str _, H, I.tok _, ⟨_, rfl⟩, q⟩ hl'
  | @lst a ys ds h1 h2 h3 h4 =>
    cases (show u = Value.ref a from ru)
    exact repr_of_reads' rd hs hsm gd (by omega) (fun _ _ z => z) (fun h' u tk hk => ⟨.str _, H, I.kept hk, ⟨_, rfl⟩, q⟩) hl'
  | @tup a ys ds h1 h2 =>
    cases (show u = Value.ref a from ru)
    exact repr_of_reads' rd hs hsm gd (by omega) (fun _ _ z => z) (fun h' u tk hk => ⟨.str _, H, I.kept hk, ⟨_, rfl⟩, q⟩) hl'
  | @dct a kvs h1 h2 =>
    cases (show u = Value.ref a from ru)
    exact repr_of_reads' rd hs hsm gd (by omega) (fun _ _ z => z) (fun h' u tk hk => ⟨.str _, H, I.kept hk, ⟨_, rfl⟩, q⟩) hl'
/-- xs == [] -/
def rEqNil (K : PySem.W.Frag) : R2 := fun x y H Q => ∃ l m xs, x = .ref l ∧ y = .ref m ∧ SqL K H l xs ∧ SqL K H m [] ∧ Q (.bl xs.isEmpty) H
theorem op_eqNil {k : Nat} (hr : Room k X.A) : OpR X (compareOp .Eq) (rEqNil X.K) := by
  intro pins s σ H x y v u Q I rx ry h
  obtain ⟨l, m, xs, rfl, rfl, h1, h2, q⟩ := h
  cases rx
  cases ry
  have un := hr.un
  obtain ⟨its, r1, p1, _⟩ := I.list h1
  obtain ⟨its2, r2, p2, _⟩ := I.list h2
  cases r2
  cases xs with
  | nil =>
    cases r1
    exact SeqAt.eq_listAt (e := fun _ => true) p1.isList p2.isList rfl (by omega) (fun j h1 h2 => absurd h1 (by simp)) ⟨.bl true, H, I, rfl, q⟩
  | cons x r =>
    cases r1
    exact SeqAt.eq_list_lengthsAt p1.isList p2.isList (by simp) (by omega) ⟨.bl false, H, I, rfl, q⟩
end
end KGX

namespace KGX
open PySem PySem.Spec PyProof.Rows L2
theorem Small.mono {m k m' k' : Nat} {d : PyData} (h : Small m k d) (hm : m ≤ m') (hk : k ≤ k') : Small m' k' d := ⟨h.1, Nat.le_trans h.2.1 hm, Nat.le_trans h.2.2 hk⟩
theorem small_int {i : Int} {n : Nat} (h : i.natAbs < 2 ^ n) (h0 : 0 < n) (hn : n ≤ 1920) : Small (n + 1) 0 (.int i) := by
  have e0 := PySem.Flt.log2_lt_of h0 h
  have e := int_text_length_le (k := n) h0 e0
  refine ⟨decide_eq_true (Nat.lt_of_lt_of_le e0 hn), ?_, Nat.le_refl _⟩
  show (Str.ofString (toString i)).length ≤ _
  rw [PySem.ofString_length]
  exact e
theorem all_show {m k : Nat} : ∀ {ds : List PyData}, (∀ d ∈ ds, Small m k d) → PyData.showableAll ds = true ∧ ((PyData.shownAll ds).map (·.length)).sum ≤ m * ds.length ∧ PyData.depthAll ds ≤ k ∧ (PyData.shownAll ds).length = ds.length
  | [], _ => ⟨rfl, Nat.le_refl _, Nat.zero_le _, rfl⟩
  | d :: r, h => by
    obtain ⟨a1, a2, a3⟩ := h d List.mem_cons_self
    obtain ⟨b1, b2, b3, b4⟩ := all_show (ds := r) fun x hx => h x (List.mem_cons_of_mem _ hx)
    refine ⟨?_, ?_, ?_, ?_⟩
    · show (PyData.showable d && PyData.showableAll r) = true
      rw [a1, b1]; rfl
    · show (PyData.shown d).length + ((PyData.shownAll r).map (·.length)).sum ≤ m * (r.length + 1)
      rw [Nat.mul_add, Nat.mul_one]
      omega
    · exact Nat.max_le.mpr ⟨a3, b3⟩
    · show (PyData.shownAll r).length + 1 = r.length + 1
      rw [b4]
theorem mul_le_n {m a n : Nat} (h : a ≤ n) : m * a + 2 * a + 3 ≤ (m + 2) * n + 3 := by
  have h1 : m * a ≤ m * n := Nat.mul_le_mul_left m h
  rw [Nat.add_mul]
  omega
theorem small_tup {m k n : Nat} {ds : List PyData} (hn : ds.length ≤ n) (h : ∀ d ∈ ds, Small m k d) : Small ((m + 2) * n + 3) (k + 1) (.tuple ds) := by
  obtain ⟨a1, a2, a3, a4⟩ := all_show h
  refine ⟨a1, ?_, ?_⟩
  · have e := tupleText_len_le (PyData.shownAll ds)
    show (tupleText (PyData.shownAll ds)).length ≤ _
    rw [a4] at e
    exact Nat.le_trans e (Nat.le_trans (by omega) (mul_le_n (m := m) hn))
  · show PyData.depthAll ds + 1 ≤ k + 1
    omega
theorem small_lst {m k n : Nat} {ds : List PyData} (hn : ds.length ≤ n) (h : ∀ d ∈ ds, Small m k d) : Small ((m + 2) * n + 3) (k + 1) (.list ds) := by
  obtain ⟨a1, a2, a3, a4⟩ := all_show h
  refine ⟨a1, ?_, ?_⟩
  · have e := listText_len_le (PyData.shownAll ds)
    show (listText (PyData.shownAll ds)).length ≤ _
    rw [a4] at e
    exact Nat.le_trans e (Nat.le_trans (by omega) (mul_le_n (m := m) hn))
  · show PyData.depthAll ds + 1 ≤ k + 1
    omega
/-- a part of a thing; a thing -/
def ItAt (l : Bool) (b : Addr) (H : Hp) (x : V) : Prop := ∃ d, Dq l b H x d ∧ Small 2000 6 d
def ThAt (b : Addr) (H : Hp) (x : V) : Prop := ∃ l d, Dq l b H x d ∧ Small 100000 20 d
section
variable {l : Bool} {b : Addr} {H H' : Hp} {o : List V} {x : V}
theorem ItAt.mono (h : ItAt l b H x) (s : Same H H') : ItAt l b H' x := by
  obtain ⟨d, h1, h2⟩ := h
  exact ⟨d, h1.mono s, h2⟩
theorem ItAt.kp (h : ItAt l b H x) (eb : H b = some (.lst o)) (k : Kp b H H') : ItAt l b H' x := by
  obtain ⟨d, h1, h2⟩ := h
  exact ⟨d, h1.kp eb k, h2⟩
theorem ThAt.mono (h : ThAt b H x) (s : Same H H') : ThAt b H' x := by
  obtain ⟨l, d, h1, h2⟩ := h
  exact ⟨l, d, h1.mono s, h2⟩
theorem ThAt.kp (h : ThAt b H x) (eb : H b = some (.lst o)) (k : Kp b H H') : ThAt b H' x := by
  obtain ⟨l, d, h1, h2⟩ := h
  exact ⟨l, d, h1.kp eb k, h2⟩
theorem ItAt.th (h : ItAt l b H x) : ThAt b H x := by
  obtain ⟨d, h1, h2⟩ := h
  exact ⟨l, d, h1, h2.mono (by decide) (by decide)⟩
theorem its_all : ∀ {xs : List V}, (∀ x ∈ xs, ItAt l b H x) → ∃ ds, DqAll l b H xs ds ∧ ds.length = xs.length ∧ ∀ d ∈ ds, Small 2000 6 d
  | [], _ => ⟨[], .nil, rfl, fun _ h => nomatch h⟩
  | x :: r, h => by
    obtain ⟨d, h1, h2⟩ := h x List.mem_cons_self
    obtain ⟨ds, g1, g2, g3⟩ := its_all (xs := r) fun y hy => h y (List.mem_cons_of_mem _ hy)
    refine ⟨d :: ds, .cons h1 g1, by rw [List.length_cons, List.length_cons, g2], fun e he => ?_⟩
    rcases List.mem_cons.mp he with rfl | he
    · exact h2
    · exact g3 e he
theorem th_tup {a : Addr} {xs : List V} (e : H a = some (.tup xs)) (hl : xs.length ≤ 40) (h : ∀ x ∈ xs, ItAt l b H x) : ThAt b H (.ref a) := by
  obtain ⟨ds, g1, g2, g3⟩ := its_all h
  exact ⟨l, _, .tup e g1, (small_tup (n := 40) (by omega) g3).mono (by decide) (by decide)⟩
theorem th_lst {a : Addr} {xs : List V} (hb : a ≠ b) (e : H a = some (.lst xs)) (hl : xs.length ≤ 40) (h : ∀ x ∈ xs, ItAt true b H x) : ThAt b H (.ref a) := by
  obtain ⟨ds, g1, g2, g3⟩ := its_all h
  exact ⟨true, _, .lst rfl hb e g1, (small_lst (n := 40) (by omega) g3).mono (by decide) (by decide)⟩
theorem it_int {i : Int} (h : i.natAbs < 2 ^ 200) : ItAt l b H (.int i) := ⟨_, .int i, (small_int (n := 200) h (by decide) (by decide)).mono (by decide) (by decide)⟩
theorem it_ints {ns : List Int} (h : ∀ i ∈ ns, i.natAbs < 2 ^ 200) : ∀ x ∈ ns.map V.int, ItAt l b H x := fun x hx => by
  obtain ⟨i, hi, rfl⟩ := List.mem_map.mp hx
  exact it_int (h i hi)
theorem it_bl (x : Bool) : ItAt l b H (.bl x) := ⟨_, .bl x, by cases x <;> exact ⟨rfl, by decide, by decide⟩⟩
theorem it_non : ItAt l b H .non := ⟨_, .non, ⟨rfl, by decide, by decide⟩⟩
/-- a short row of ints, as a tuple, as a list -/
theorem it_tup {a : Addr} {ns : List Int} (e : H a = some (.tup (ns.map V.int))) (hl : ns.length ≤ 4) (h : ∀ i ∈ ns, i.natAbs < 2 ^ 200) : ItAt l b H (.ref a) := by
  refine ⟨_, .tup e (DqAll.ints ns), (small_tup (m := 201) (k := 0) (n := 4) (by rw [List.length_map]; exact hl) fun d hd => ?_).mono (by decide) (by decide)⟩
  obtain ⟨i, hi, rfl⟩ := List.mem_map.mp hd
  exact small_int (h i hi) (by decide) (by decide)
theorem it_lst {a : Addr} {ns : List Int} (hb : a ≠ b) (e : H a = some (.lst (ns.map V.int))) (hl : ns.length ≤ 4) (h : ∀ i ∈ ns, i.natAbs < 2 ^ 200) : ItAt true b H (.ref a) := by
  refine ⟨_, .lst rfl hb e (DqAll.ints ns), (small_lst (m := 201) (k := 0) (n := 4) (by rw [List.length_map]; exact hl) fun d hd => ?_).mono (by decide) (by decide)⟩
  obtain ⟨i, hi, rfl⟩ := List.mem_map.mp hd
  exact small_int (h i hi) (by decide) (by decide)
/-- a tuple of what is known -/
theorem it_of {a : Addr} {xs : List V} {ds : List PyData} (e : H a = some (.tup xs)) (h : DqAll l b H xs ds) (s : Small 2000 6 (.tuple ds)) : ItAt l b H (.ref a) := ⟨_, .tup e h, s⟩
end
theorem it_str {l : Bool} {b : Addr} {H : Hp} {i : Int} (h : i.natAbs < 2 ^ 110) : ItAt l b H (.str (toString i)) := by
  have e0 := PySem.Flt.log2_lt_of (by decide) h
  have e := int_text_length_le (k := 110) (by decide) e0
  refine ⟨_, .str _, rfl, ?_, Nat.zero_le _⟩
  have h1 : (Str.ofString (toString i)).length ≤ 111 := by rw [PySem.ofString_length]; exact e
  have h2 := StrLaws.reprText_len (Str.ofString (toString i)) (fun c hc => by
    rw [show (Str.ofString (toString i)).cps.toList = (toString i).toList.map Char.toNat from PyProof.Rows.signs_ofString _] at hc
    obtain ⟨ch, _, rfl⟩ := List.mem_map.mp hc
    exact Nat.lt_of_lt_of_le (UInt32.toNat_lt ch.val) (by decide))
  show (reprText (Str.ofString (toString i))).length ≤ 2000
  omega
theorem at_in {xs : List V} {i : Int} (h0 : 0 ≤ i) (h1 : i < xs.length) : ∃ x, atI xs i = some x ∧ x ∈ xs := by
  have hk : i.toNat < xs.length := by omega
  exact ⟨xs[i.toNat], at_of (j := i.toNat) (by omega) (List.getElem?_eq_getElem hk), List.getElem_mem hk⟩
def spOdd : Sp := fun vs H Q _ => ∃ (b : Addr) (n : Int), vs = [.ref b] ∧ H b = some (.lst [.int n]) ∧ ∀ H' x n' l, Kp b H H' → H' b = some (.lst [.int n']) → ItAt l b H' x → Q x H'
def spBent : Sp := fun vs H Q _ => ∃ (b r : Addr) (n : Int) (ns : List Int) (x : V) (l : Bool), vs = [.ref b, .ref r, x] ∧ H b = some (.lst [.int n]) ∧ H r = some (.tup (ns.map V.int)) ∧ 1 ≤ ns.length ∧ ns.length ≤ 5 ∧
  (∀ i ∈ ns, i.natAbs < 2 ^ 110) ∧ ItAt l b H x ∧ ∀ H' y n', Kp b H H' → H' b = some (.lst [.int n']) → ThAt b H' y → Q y H'
theorem rTimes_by {K : PySem.W.Frag} {H : Hp} {Q : VK} {l : Addr} {k : Int} {xs : List V} (h : SqT K H l xs) (hx : H l = some (.tup xs)) (hne : xs ≠ []) (h1 : 1 ≤ k) (h2 : k ≤ 1000) (h3 : xs.length ≤ 1000)
    (q : ∀ p H', Same H H' → H' p = some (.tup (List.replicate k.toNat xs).flatten) → Q (.ref p) H') : KG.rTimes K (.ref l) (.int k) H Q := by
  refine ⟨l, k, xs, rfl, rfl, h, hne, h1, h2, h3, fun e => ?_, fun _ p hp => q p _ (same_new hp) upd_same⟩
  refine q l H (Same.refl _) ?_
  subst e
  rw [hx]
  show _ = some (HO.tup (xs ++ []))
  rw [List.append_nil]
end KGX

namespace KGX
theorem rat_num {t b : Int} (h : 0 < b) : ((t : Rat) / (b : Rat)).num = t / (Int.gcd t b : Int) := by
  rw [← Rat.divInt_eq_div, Rat.num_divInt, Int.sign_eq_one_of_pos h, Int.one_mul, Int.gcd_comm]
theorem rat_den {t b : Int} (h : 0 < b) : (((t : Rat) / (b : Rat)).den : Int) = b / (Int.gcd t b : Int) := by
  rw [← Rat.divInt_eq_div, Rat.den_divInt]
  rw [if_neg (by omega), Int.gcd_comm]
  rw [Int.natCast_ediv]
  congr 1
  omega
theorem rat_self (x : Rat) : x = (x.num : Rat) / ((x.den : Int) : Rat) := by
  rw [← Rat.divInt_eq_div]; exact (Rat.num_divInt_den x).symm
theorem den_pos (x : Rat) : 0 < (x.den : Int) := by have := x.den_pos; omega
theorem den_ne (x : Rat) : ((x.den : Int) : Rat) ≠ 0 := by
  have := den_pos x
  exact_mod_cast (show (x.den : Int) ≠ 0 by omega)
theorem cast_ne {b : Int} (h : 0 < b) : (b : Rat) ≠ 0 := by
  intro z
  have : b = 0 := by exact_mod_cast z
  omega
theorem rat_add (x y : Rat) : ((x.num * y.den + y.num * x.den : Int) : Rat) / ((x.den * y.den : Int) : Rat) = x + y := by
  have h1 := den_ne x
  have h2 := den_ne y
  have e1 := rat_self x
  have e2 := rat_self y
  rw [Rat.intCast_add, Rat.intCast_mul, Rat.intCast_mul, Rat.intCast_mul]
  generalize (x.num : Rat) = a at *
  generalize ((x.den : Int) : Rat) = b at *
  generalize (y.num : Rat) = c at *
  generalize ((y.den : Int) : Rat) = d at *
  subst e1 e2
  grind
theorem rat_sub (x y : Rat) : ((x.num * y.den - y.num * x.den : Int) : Rat) / ((x.den * y.den : Int) : Rat) = x - y := by
  have h1 := den_ne x
  have h2 := den_ne y
  have e1 := rat_self x
  have e2 := rat_self y
  rw [Rat.intCast_sub, Rat.intCast_mul, Rat.intCast_mul, Rat.intCast_mul]
  generalize (x.num : Rat) = a at *
  generalize ((x.den : Int) : Rat) = b at *
  generalize (y.num : Rat) = c at *
  generalize ((y.den : Int) : Rat) = d at *
  subst e1 e2
  grind
theorem rat_mul (x y : Rat) : ((x.num * y.num : Int) : Rat) / ((x.den * y.den : Int) : Rat) = x * y := by
  have h1 := den_ne x
  have h2 := den_ne y
  have e1 := rat_self x
  have e2 := rat_self y
  rw [Rat.intCast_mul, Rat.intCast_mul]
  generalize (x.num : Rat) = a at *
  generalize ((x.den : Int) : Rat) = b at *
  generalize (y.num : Rat) = c at *
  generalize ((y.den : Int) : Rat) = d at *
  subst e1 e2
  grind
theorem rat_lt (x y : Rat) : decide (x.num * y.den < y.num * x.den) = decide (x < y) := by
  rw [decide_eq_decide]; exact (Rat.lt_iff x y).symm
/-! ### sizes -/
def Sz (n : Nat) (x : Rat) : Prop := x.num.natAbs < 2 ^ n ∧ x.den < 2 ^ n
theorem Sz.mono {m n : Nat} {x : Rat} (h : Sz m x) (l : m ≤ n) : Sz n x :=
  ⟨Nat.lt_of_lt_of_le h.1 (Nat.pow_le_pow_right (by decide) l), Nat.lt_of_lt_of_le h.2 (Nat.pow_le_pow_right (by decide) l)⟩
theorem sz_div {t b : Int} {n : Nat} (h : 0 < b) (ht : t.natAbs < 2 ^ n) (hb : b.natAbs < 2 ^ n) : Sz n ((t : Rat) / (b : Rat)) := by
  refine ⟨?_, ?_⟩
  · rw [rat_num h]; exact Nat.lt_of_le_of_lt (Int.natAbs_ediv_le_natAbs _ _) ht
  · have e := rat_den (t := t) h
    have l : (b / (Int.gcd t b : Int)).natAbs ≤ b.natAbs := Int.natAbs_ediv_le_natAbs _ _
    omega
theorem nat_mul_lt {a b m n : Nat} (ha : a < 2 ^ m) (hb : b < 2 ^ n) : a * b < 2 ^ (m + n) := by
  rw [Nat.pow_add]
  exact Nat.mul_lt_mul'' ha hb
theorem Sz.add {m n : Nat} {x y : Rat} (hx : Sz m x) (hy : Sz n y) : Sz (m + n + 1) (x + y) := by
  rw [← rat_add]
  have a1 := nat_mul_lt hx.1 hy.2
  have a2 := nat_mul_lt hy.1 hx.2
  have a3 := nat_mul_lt hx.2 hy.2
  refine sz_div (Int.mul_pos (den_pos x) (den_pos y)) ?_ ?_
  · rw [Nat.add_comm n m] at a2
    have := Int.natAbs_add_le (x.num * y.den) (y.num * x.den)
    rw [Int.natAbs_mul, Int.natAbs_mul] at this
    simp only [Int.natAbs_natCast] at this
    rw [Nat.pow_succ]; omega
  · rw [Int.natAbs_mul]; simp only [Int.natAbs_natCast]; rw [Nat.pow_succ]; omega
theorem Sz.neg {m : Nat} {x : Rat} (hx : Sz m x) : Sz m (-x) := ⟨by rw [Rat.neg_num, Int.natAbs_neg]; exact hx.1, by rw [Rat.neg_den]; exact hx.2⟩
theorem Sz.sub {m n : Nat} {x y : Rat} (hx : Sz m x) (hy : Sz n y) : Sz (m + n + 1) (x - y) := by
  rw [Rat.sub_eq_add_neg]; exact hx.add hy.neg
theorem Sz.mul {m n : Nat} {x y : Rat} (hx : Sz m x) (hy : Sz n y) : Sz (m + n) (x * y) := by
  rw [← rat_mul]
  have a1 := nat_mul_lt hx.1 hy.1
  have a3 := nat_mul_lt hx.2 hy.2
  refine sz_div (Int.mul_pos (den_pos x) (den_pos y)) ?_ ?_
  · rw [Int.natAbs_mul]; exact a1
  · rw [Int.natAbs_mul]; simp only [Int.natAbs_natCast]; exact a3
theorem sz_int {t : Int} {n : Nat} (ht : t.natAbs < 2 ^ n) (h0 : 0 < n) : Sz n (t : Rat) := by
  refine ⟨by rw [Rat.num_intCast]; exact ht, ?_⟩
  rw [Rat.den_intCast]
  exact Nat.one_lt_two_pow (by omega)
/-! ### until all have come -/
section
variable (g : Rat → Rat)
/-- over all parts T of ws: g of c and T together, of an odd number less of an even one -/
def altS : List Rat → Rat → Rat
  | [], c => - g c
  | x :: ws, c => altS ws c - altS ws (c + x)
end
/-- each weight times that of the others -/
def dsum (g : Rat → Rat) : List Rat → List Rat → Rat → Rat
  | _, [], _ => 0
  | pre, x :: ws, c => x * altS g (pre ++ ws) c + dsum g (pre ++ [x]) ws c
theorem altS_app (g : Rat → Rat) (y : Rat) : ∀ (ws : List Rat) (c : Rat), altS g (ws ++ [y]) c = altS g ws c - altS g ws (c + y)
  | [], c => rfl
  | x :: ws, c => by
    show altS g (ws ++ [y]) c - altS g (ws ++ [y]) (c + x) = (altS g ws c - altS g ws (c + x)) - (altS g ws (c + y) - altS g ws (c + y + x))
    rw [altS_app g y ws c, altS_app g y ws (c + x), show c + x + y = c + y + x by grind]
    grind
theorem dsum_pre (g : Rat → Rat) (y : Rat) : ∀ (ws pre : List Rat) (c : Rat), dsum g (y :: pre) ws c = dsum g pre ws c - dsum g pre ws (c + y)
  | [], _, c => by show (0 : Rat) = 0 - 0; grind
  | x :: ws, pre, c => by
    show x * altS g (y :: (pre ++ ws)) c + dsum g (y :: (pre ++ [x])) ws c = x * altS g (pre ++ ws) c + dsum g (pre ++ [x]) ws c - (x * altS g (pre ++ ws) (c + y) + dsum g (pre ++ [x]) ws (c + y))
    rw [dsum_pre g y ws (pre ++ [x]) c]
    show x * (altS g (pre ++ ws) c - altS g (pre ++ ws) (c + y)) + _ = _
    grind
def per (t : Rat) (y : Rat) : Rat := t / y
theorem dsum_pos (t : Rat) : ∀ (ws : List Rat) (c : Rat), 0 < c → (∀ x ∈ ws, 0 < x) → dsum (per t) [] ws c = (ws.sum + c) * altS (per t) ws c + if ws = [] then t else 0
  | [], c, h, _ => by
    have h0 : c ≠ 0 := by grind
    show (0 : Rat) = (0 + c) * (-(t / c)) + t
    grind
  | x :: ws, c, h, hw => by
    have hx := hw x List.mem_cons_self
    have i1 := dsum_pos t ws c h (fun y hy => hw y (List.mem_cons_of_mem _ hy))
    have i2 := dsum_pos t ws (c + x) (by grind) (fun y hy => hw y (List.mem_cons_of_mem _ hy))
    show x * altS (per t) ws c + dsum (per t) [x] ws c = _
    rw [dsum_pre, i1, i2]
    rw [if_neg (show ¬ (x :: ws = []) by simp), List.sum_cons]
    show _ = (x + ws.sum + c) * (altS (per t) ws c - altS (per t) ws (c + x)) + 0
    grind
theorem dsum_zero (t : Rat) : ∀ (ws : List Rat), (∀ x ∈ ws, 0 < x) → dsum (per t) [] ws 0 = ws.sum * altS (per t) ws 0 - if ws = [] then 0 else t
  | [], _ => by show (0 : Rat) = 0 * _ - 0; grind
  | x :: ws, hw => by
    have hx := hw x List.mem_cons_self
    have i1 := dsum_zero t ws (fun y hy => hw y (List.mem_cons_of_mem _ hy))
    have i2 := dsum_pos t ws (0 + x) (by grind) (fun y hy => hw y (List.mem_cons_of_mem _ hy))
    show x * altS (per t) ws 0 + dsum (per t) [x] ws 0 = _
    rw [dsum_pre, i1, i2]
    rw [if_neg (show ¬ (x :: ws = []) by simp), List.sum_cons]
    show _ = (x + ws.sum) * (altS (per t) ws 0 - altS (per t) ws (0 + x)) - t
    by_cases e : ws = []
    · rw [if_pos e, if_pos e]; grind
    · rw [if_neg e, if_neg e]; grind
open PySem PySem.Spec PyProof.Rows L2
/-! ### fractions as numbers -/
def frV (x : Rat) : List V := [.int x.num, .int (x.den : Int)]
theorem low_eq {t b : Int} (h : 0 < b) : low t b = frV ((t : Rat) / (b : Rat)) := by
  unfold low frV
  rw [rat_num h, rat_den h]
def newR (x : Rat) : VK → Hp → Prop := fun Q H => ∀ H' r, Same H H' → H r = none → H' r = some (.tup (frV x)) → Q (.ref r) H'
theorem frV_gcd (x : Rat) : Int.gcd x.num (x.den : Int) = 1 := x.reduced
theorem Sz.fr {x : Rat} (h : Sz 4000 x) : Fr x.num (x.den : Int) := ⟨den_pos x, frV_gcd x, h.1, by rw [Int.natAbs_natCast]; exact h.2⟩
section
variable {H : Hp} {Q : VK} {E : XK} {p q : Addr} {x y : Rat}
theorem less_by (ep : H p = some (.tup (frV x))) (eq : H q = some (.tup (frV y))) (sx : Sz 4000 x) (sy : Sz 4000 y) (k : Q (.bl (decide (x < y))) H) : spIsLess [.ref p, .ref q] H Q E :=
  ⟨p, q, _, _, _, _, rfl, ep, eq, sx.fr, sy.fr, by show Q (.bl (decide (x.num * y.den < y.num * x.den))) H; rw [rat_lt]; exact k⟩
end
theorem low_add (x y : Rat) : low (x.num * (y.den : Int) + y.num * (x.den : Int)) ((x.den : Int) * (y.den : Int)) = frV (x + y) := by rw [low_eq (Int.mul_pos (den_pos x) (den_pos y)), rat_add]
theorem low_sub (x y : Rat) : low (x.num * (y.den : Int) - y.num * (x.den : Int)) ((x.den : Int) * (y.den : Int)) = frV (x - y) := by rw [low_eq (Int.mul_pos (den_pos x) (den_pos y)), rat_sub]
theorem low_times (x y : Rat) : low (x.num * y.num) ((x.den : Int) * (y.den : Int)) = frV (x * y) := by rw [low_eq (Int.mul_pos (den_pos x) (den_pos y)), rat_mul]
theorem low_plus (x : Rat) {c d : Int} (hd : 0 < d) : low (x.num * d + c * (x.den : Int)) ((x.den : Int) * d) = frV (x + (c : Rat) / (d : Rat)) := by
  rw [low_eq (Int.mul_pos (den_pos x) hd)]
  congr 1
  have e1 := rat_self x
  have h1 := den_ne x
  have h2 := cast_ne hd
  rw [Rat.intCast_add, Rat.intCast_mul, Rat.intCast_mul, Rat.intCast_mul]
  generalize (x.num : Rat) = a at *
  generalize ((x.den : Int) : Rat) = b at *
  generalize (c : Rat) = c at *
  generalize (d : Rat) = d at *
  subst e1
  grind
theorem log_den {x : Rat} {n : Nat} (h : Sz n x) (h0 : 0 < n) (hn : n ≤ 1920) : KG.ShowOk (.tuple [.int x.num, .int (x.den : Int)]) :=
  sh_two (log_of h.1 h0 hn) (log_of (by rw [Int.natAbs_natCast]; exact h.2) h0 hn)
theorem dp_fr {K : PySem.W.Frag} {H : Hp} {p : Addr} {x : Rat} (h : H p = some (.tup (frV x))) : Dp K H (.ref p) (.tuple [.int x.num, .int (x.den : Int)]) :=
  .tup (.inl (.inl h)) (.cons (.int _) (.cons (.int _) .nil))
/-! ### a display with one key, a tuple -/
def tDispT1 (tk tv : TE) : TE := fun σ H Q => ∀ p, H p = none → tk σ (upd H p (.dT [])) fun x H1 => tv σ H1 fun y H2 => H2 p = some (.dT []) ∧ ∃ (k : List Key) (b : Addr), x = .ref b ∧ H2 b = some (.tup (k.map kV)) ∧ Q (.ref p) (upd H2 p (.dT [(k, y)]))
theorem pe_dispT1 {X : Cx} {pos : Pos} {k v : Expr} {tk tv : TE} (hu : X.A.units + 1 < cLine) (hk : PE X k tk) (hv : PE X v tv) : PE X (.Dict [some k] [v] pos) (tDispT1 tk tv) := by
  refine ⟨fun pins s σ H Q I q => ?_⟩
  have hn := I.hok.fresh (Nat.le_refl s.heap.objs.size)
  have I1 := I.laid (a := s.heap.objs.size) (o := .dT []) (h' := s.heap.push { cls := .type "dict", data := .dict #[] }) (t' := s.toks) (fun _ _ q => Heap.get?_push_of_some _ q) (Nat.le_refl _) (dt_empty s.heap I.big)
  have hsh := zip_pairTrees [some k] [v] X.env pos rfl rfl
  have hne : pairTrees [some k] [v] X.env pos ≠ [] := fun z => by
    have := pairTrees_length [some k] [v] X.env pos rfl rfl
    rw [z] at this
    exact nomatch this
  have hl : (pairTrees [some k] [v] X.env pos).length ≤ 15 := by rw [pairTrees_length [some k] [v] X.env pos rfl rfl]; show 1 ≤ 15; decide
  rw [arm_eval_Dict, hsh, dictDisplay_pairs _ hne (by omega)]
  refine wpAny_bind (wpAny_standAt (wpAny_bind (wpAny_subDictH (knd := tupleKind (mixKind X.prog X.w)) (by show X.A.units < cLine; omega) hl ?_)))
  refine thn ((pps_cons hk hv pps_nil : PPs X pos [some k] [v] [(tk, tv)]).run pins _ σ _ (fun ps H2 => match ps with
    | [(x, y)] => H2 s.heap.objs.size = some (.dT []) ∧ ∃ (k : List Key) (b : Addr), x = .ref b ∧ H2 b = some (.tup (k.map kV)) ∧ Q (.ref s.heap.objs.size) (upd H2 s.heap.objs.size (.dT [(k, y)]))
    | _ => False) I1 (q _ hn)) ?_
  rintro ws s2 ⟨ps, H2, I2, rel, hq⟩
  match ps, ws, rel, hq with
  | [(x, y)], _, .cons (b := (u1, u2)) ⟨r1, r2⟩ .nil, ⟨e, kk, b, ex, eb, q2⟩ =>
    subst ex
    cases (show u1 = Value.ref b from r1)
    obtain ⟨z, hd, xs, r0, dd⟩ := dt_of I2.hok e
    cases r0
    refine ⟨[(kk, b, u2)], ⟨rfl, rfl, key_of I2.hok eb, trivial⟩, dd, fun h' tk dd' hs => wpAny_pure ⟨.ref s.heap.objs.size, _, ?_, rfl, q2⟩⟩
    obtain ⟨o, es, ep, ho, h2, h3, h4, _, h5⟩ := dd'
    refine d_write I2 (by rw [e]; exact True.intro) hs ⟨o, ho⟩ ⟨by show 1 ≤ sizeLine; decide, hd, _, .cons ⟨rfl, ?_, r2⟩ .nil, o, es, ep, ho, h2, h3, h4, h5⟩
    rw [upd_ne (ne_of eb e (fun z => nomatch z))]
    exact eb
end KGX

namespace KGX
open PySem PySem.Spec PyProof.Rows L2
/-! ### all some kinds -/
def rg (n : Nat) : List Int := (List.range n).map fun i : Nat => (i : Int)
theorem rgV_rg (n : Nat) : rgV 0 (n : Int) = (rg n).map V.int := by
  unfold rgV rg
  rw [List.map_map, show ((n : Int) - 0).toNat = n by omega]
  refine List.map_congr_left fun i _ => ?_
  show V.int (0 + (i : Int)) = V.int (i : Int)
  rw [Int.zero_add]
def allSub (ks : List Int) : List (List Int) := ks.foldl (fun f k => f ++ f.map (· ++ [k])) [[]]
theorem allSub_app (ks : List Int) (k : Int) : allSub (ks ++ [k]) = allSub ks ++ (allSub ks).map (· ++ [k]) := by
  unfold allSub
  rw [List.foldl_append]
  rfl
theorem allSub_len : ∀ (m : Nat) (ks : List Int), ks.length = m → (allSub ks).length = 2 ^ m
  | 0, ks, h => by rw [List.eq_nil_of_length_eq_zero h]; rfl
  | m + 1, ks, h => by
    rcases List.eq_nil_or_concat ks with rfl | ⟨r, k, rfl⟩
    · exact nomatch h
    · rw [List.concat_eq_append] at h ⊢
      rw [List.length_append] at h
      rw [allSub_app, List.length_append, List.length_map, allSub_len m r (by simpa using h), Nat.pow_succ]
      omega
theorem allSub_le : ∀ (m : Nat) (ks : List Int), ks.length = m → ∀ S ∈ allSub ks, S.length ≤ m
  | 0, ks, h => by
    rw [List.eq_nil_of_length_eq_zero h]
    intro S hS
    rw [List.mem_singleton.mp hS]
    exact Nat.le_refl _
  | m + 1, ks, h => by
    rcases List.eq_nil_or_concat ks with rfl | ⟨r, k, rfl⟩
    · exact nomatch h
    · rw [List.concat_eq_append] at h ⊢
      have hr : r.length = m := by rw [List.length_append] at h; simpa using h
      rw [allSub_app]
      intro S hS
      rcases List.mem_append.mp hS with hS | hS
      · have := allSub_le m r hr S hS; omega
      · obtain ⟨T, hT, rfl⟩ := List.mem_map.mp hS
        have := allSub_le m r hr T hT
        rw [List.length_append, List.length_singleton]; omega
/-- what is to be known of the somes of up to five kinds -/
def okSub (n : Nat) : Bool :=
  (List.range (2 ^ n)).all fun i =>
    let S := (allSub (rg n)).getD i []
    decide (S.length ≤ 5) && S.all (fun k => decide (0 ≤ k) && decide (k < n)) && decide (S.Pairwise (· < ·)) && S.all (fun k => ((allSub (rg n)).take i).contains (S.filter (fun j => decide (j ≠ k)))) && !((allSub (rg n)).take i).contains S && (i == 0 || !S.isEmpty)
theorem okSub_all : ∀ n, n ≤ 5 → okSub n = true
  | 0, _ | 1, _ | 2, _ | 3, _ | 4, _ | 5, _ => by decide +kernel
  | n + 6, h => by omega
theorem rg_succ (n : Nat) : rg (n + 1) = rg n ++ [(n : Int)] := by unfold rg; rw [List.range_succ, List.map_append]; rfl
theorem rg_len (n : Nat) : (rg n).length = n := by unfold rg; rw [List.length_map, List.length_range]
structure SubAt (n i : Nat) (S : List Int) : Prop where
  len : S.length ≤ 5
  mem : ∀ k ∈ S, 0 ≤ k ∧ k < n
  rise : Rise S
  fewer : ∀ k ∈ S, S.filter (fun j => decide (j ≠ k)) ∈ (allSub (rg n)).take i
  new : S ∉ (allSub (rg n)).take i
  one : i ≠ 0 → S ≠ []
theorem sub_at {n i : Nat} {S : List Int} (h : n ≤ 5) (e : (allSub (rg n))[i]? = some S) : SubAt n i S := by
  have o := okSub_all n h
  have hi := (List.getElem?_eq_some_iff.mp e).1
  rw [allSub_len n _ (rg_len n)] at hi
  have o1 := List.all_eq_true.mp o i (List.mem_range.mpr hi)
  have eS : (allSub (rg n)).getD i [] = S := by rw [List.getD_eq_getElem?_getD, e]; rfl
  simp only [eS, Bool.and_eq_true, decide_eq_true_eq, List.all_eq_true, Bool.or_eq_true, Bool.not_eq_true', List.contains_eq_mem, List.isEmpty_eq_false_iff, beq_iff_eq, decide_eq_false_iff_not] at o1
  obtain ⟨⟨⟨⟨⟨o1, o2⟩, o3⟩, o4⟩, o5⟩, o6⟩ := o1
  exact ⟨o1, o2, o3, o4, o5, fun z => o6.resolve_left z⟩
theorem sub_all {n : Nat} {S : List Int} (h : n ≤ 5) (e : S ∈ allSub (rg n)) : ∃ i, i < 2 ^ n ∧ (allSub (rg n))[i]? = some S ∧ SubAt n i S := by
  obtain ⟨i, hi, e⟩ := List.mem_iff_getElem.mp e
  have e' : (allSub (rg n))[i]? = some S := by rw [List.getElem?_eq_getElem hi, e]
  refine ⟨i, ?_, e', sub_at h e'⟩
  rw [allSub_len n _ (rg_len n)] at hi
  exact hi
theorem sub_nil {n : Nat} : (allSub (rg n))[0]? = some [] := by
  induction n with
  | zero => rfl
  | succ n ih =>
    have : rg (n + 1) = rg n ++ [(n : Int)] := by unfold rg; rw [List.range_succ, List.map_append]; rfl
    rw [this, allSub_app, List.getElem?_append_left, ih]
    rw [allSub_len n _ (rg_len n)]
    exact Nat.two_pow_pos n
theorem sub_last {n : Nat} : (allSub (rg n))[2 ^ n - 1]? = some (rg n) := by
  induction n with
  | zero => rfl
  | succ n ih =>
    have : rg (n + 1) = rg n ++ [(n : Int)] := by unfold rg; rw [List.range_succ, List.map_append]; rfl
    have hp := Nat.two_pow_pos n
    rw [this, allSub_app, List.getElem?_append_right (by rw [allSub_len n _ (rg_len n), Nat.pow_succ]; omega), allSub_len n _ (rg_len n), List.getElem?_map, show 2 ^ (n + 1) - 1 - 2 ^ n = 2 ^ n - 1 by rw [Nat.pow_succ]; omega, ih]
    rfl
theorem rg_mem {n : Nat} : rg n ∈ allSub (rg n) := List.mem_of_getElem? sub_last
/-! ### means by who is left -/
theorem sumR_app : ∀ (xs ys : List Rat), (xs ++ ys).sum = xs.sum + ys.sum
  | [], ys => by show ys.sum = 0 + ys.sum; grind
  | x :: xs, ys => by
    have ih := sumR_app xs ys
    show x + (xs ++ ys).sum = (x + xs.sum) + ys.sum
    rw [ih]; grind
theorem sumZ_app : ∀ (xs ys : List Int), (xs ++ ys).sum = xs.sum + ys.sum
  | [], ys => by show ys.sum = 0 + ys.sum; omega
  | x :: xs, ys => by
    have ih := sumZ_app xs ys
    show x + (xs ++ ys).sum = (x + xs.sum) + ys.sum
    rw [ih]; omega
theorem cast_sum : ∀ (xs : List Int), ((xs.sum : Int) : Rat) = (xs.map fun x : Int => (x : Rat)).sum
  | [] => rfl
  | x :: xs => by
    have ih := cast_sum xs
    show ((x + xs.sum : Int) : Rat) = (x : Rat) + (xs.map fun x : Int => (x : Rat)).sum
    rw [Rat.intCast_add, ih]
/-- the share of a kind -/
def sh (ns : List Int) (k : Int) : Int := ns.getD k.toNat 0
def wts (ns S : List Int) : List Rat := S.map fun k => (sh ns k : Rat)
theorem wts_pick (ns S : List Int) : wts ns S = (pick ns S).map fun x : Int => (x : Rat) := by unfold wts pick sh; rw [List.map_map]; rfl
theorem wts_sum (ns S : List Int) : (wts ns S).sum = (((pick ns S).sum : Int) : Rat) := by rw [wts_pick, cast_sum]
/-- over all somes of S: of an odd number less of an even one -/
def sgn (g : Rat → Rat) (ns : List Int) (c : Rat) (T : List Int) : Rat := if T.length % 2 = 1 then g (c + (wts ns T).sum) else - g (c + (wts ns T).sum)
theorem sgn_app (g : Rat → Rat) (ns : List Int) (c : Rat) (T : List Int) (k : Int) : sgn g ns c (T ++ [k]) = - sgn g ns (c + (sh ns k : Rat)) T := by
  unfold sgn
  have e : c + (wts ns (T ++ [k])).sum = c + (sh ns k : Rat) + (wts ns T).sum := by
    unfold wts
    rw [List.map_append, sumR_app]
    show c + ((T.map fun k => (sh ns k : Rat)).sum + ((sh ns k : Rat) + 0)) = _
    grind
  rw [e, List.length_append, List.length_singleton]
  by_cases h : T.length % 2 = 1
  · rw [if_neg (by omega), if_pos h]
  · rw [if_pos (by omega), if_neg h]; grind
theorem neg_sum (f : List Int → Rat) : ∀ (l : List (List Int)), (l.map fun T => - f T).sum = - (l.map f).sum
  | [] => by show (0 : Rat) = -0; grind
  | T :: l => by
    have ih := neg_sum f l
    show - f T + (l.map fun T => - f T).sum = - (f T + (l.map f).sum)
    rw [ih]; grind
theorem sgn_sum (g : Rat → Rat) (ns : List Int) : ∀ (m : Nat) (S : List Int) (c : Rat), S.length = m → ((allSub S).map (sgn g ns c)).sum = altS g (wts ns S) c
  | 0, S, c, h => by
    rw [List.eq_nil_of_length_eq_zero h]
    show (if (0 % 2 = 1) then g (c + 0) else - g (c + 0)) + 0 = - g c
    rw [if_neg (by decide), show c + 0 = c by grind]; grind
  | m + 1, S, c, h => by
    rcases List.eq_nil_or_concat S with rfl | ⟨r, k, rfl⟩
    · exact nomatch h
    · rw [List.concat_eq_append] at h ⊢
      have hr : r.length = m := by rw [List.length_append] at h; simpa using h
      have e1 : wts ns (r ++ [k]) = wts ns r ++ [(sh ns k : Rat)] := by unfold wts; rw [List.map_append]; rfl
      rw [allSub_app, List.map_append, sumR_app, List.map_map, e1, altS_app, sgn_sum g ns m r c hr, ← sgn_sum g ns m r (c + (sh ns k : Rat)) hr]
      have e2 : (sgn g ns c ∘ fun x => x ++ [k]) = fun T => - sgn g ns (c + (sh ns k : Rat)) T := by
        funext T; exact sgn_app g ns c T k
      rw [e2, neg_sum]; grind
/-- the mean until all of S have come -/
def fV (ns S : List Int) : Rat := altS (per (ns.sum : Rat)) (wts ns S) 0
theorem per_zero (t : Rat) : per t 0 = 0 := by
  show t / 0 = 0
  rw [Rat.div_def, Rat.inv_zero, Rat.mul_zero]
theorem fV_nil (ns : List Int) : fV ns [] = 0 := by
  show - per _ 0 = 0
  rw [per_zero]; grind
theorem dsum_filter (g : Rat → Rat) (ns : List Int) : ∀ (post pre : List Int), (pre ++ post).Nodup → dsum g (wts ns pre) (wts ns post) 0 = (post.map fun k => (sh ns k : Rat) * altS g (wts ns ((pre ++ post).filter (fun j => decide (j ≠ k)))) 0).sum
  | [], pre, _ => rfl
  | k :: r, pre, h => by
    have hk : ∀ x ∈ pre, x ≠ k := fun x hx z => by
      subst z
      exact (List.nodup_append.mp h).2.2 x hx x List.mem_cons_self rfl
    have hk2 : ∀ x ∈ r, x ≠ k := fun x hx z => by
      subst z
      exact (List.nodup_cons.mp (List.nodup_append.mp h).2.1).1 hx
    have e : (pre ++ k :: r).filter (fun j => decide (j ≠ k)) = pre ++ r := by
      rw [List.filter_append, List.filter_cons_of_neg (by simp), List.filter_eq_self.mpr (fun x hx => decide_eq_true (hk x hx)), List.filter_eq_self.mpr (fun x hx => decide_eq_true (hk2 x hx))]
    have e2 : pre ++ k :: r = (pre ++ [k]) ++ r := by simp
    have ih := dsum_filter g ns r (pre ++ [k]) (by rw [← e2]; exact h)
    rw [← e2] at ih
    show (sh ns k : Rat) * altS g (wts ns pre ++ wts ns r) 0 + dsum g (wts ns pre ++ [(sh ns k : Rat)]) (wts ns r) 0 = (sh ns k : Rat) * altS g (wts ns ((pre ++ k :: r).filter (fun j => decide (j ≠ k)))) 0 + _
    rw [e]
    have e3 : wts ns pre ++ [(sh ns k : Rat)] = wts ns (pre ++ [k]) := by unfold wts; rw [List.map_append]; rfl
    have e4 : wts ns pre ++ wts ns r = wts ns (pre ++ r) := by unfold wts; rw [List.map_append]
    rw [e3, e4, ih]
    rfl
theorem rise_nodup {S : List Int} (h : Rise S) : S.Nodup := h.imp fun z => by omega
/-- what is due -/
theorem fV_rec {ns S : List Int} (hS : Rise S) (h0 : S ≠ []) (hw : ∀ k ∈ S, 0 < sh ns k) :
    (ns.sum : Rat) + (S.map fun k => (sh ns k : Rat) * fV ns (S.filter (fun j => decide (j ≠ k)))).sum = (((pick ns S).sum : Int) : Rat) * fV ns S := by
  have h1 := dsum_filter (per (ns.sum : Rat)) ns S [] (rise_nodup hS)
  have h2 := dsum_zero (ns.sum : Rat) (wts ns S) (fun x hx => by
    obtain ⟨k, hk, rfl⟩ := List.mem_map.mp hx
    exact_mod_cast hw k hk)
  have h3 : wts ns S ≠ [] := fun z => h0 (List.map_eq_nil_iff.mp z)
  rw [if_neg h3, wts_sum] at h2
  have h4 : wts ns [] = [] := rfl
  rw [h4, h2] at h1
  show (ns.sum : Rat) + (S.map fun k => (sh ns k : Rat) * altS (per (ns.sum : Rat)) (wts ns (S.filter (fun j => decide (j ≠ k)))) 0).sum = _ * altS (per (ns.sum : Rat)) (wts ns S) 0
  have h5 : (S.map fun k => (sh ns k : Rat) * altS (per (ns.sum : Rat)) (wts ns (([] ++ S).filter (fun j => decide (j ≠ k)))) 0).sum = (S.map fun k => (sh ns k : Rat) * altS (per (ns.sum : Rat)) (wts ns (S.filter (fun j => decide (j ≠ k)))) 0).sum := rfl
  rw [h5] at h1
  rw [← h1]; grind
theorem altS_sz {t : Int} (ht : 0 ≤ t) (ht2 : t ≤ 63) : ∀ (zs : List Int) (c : Int), (∀ x ∈ zs, 0 ≤ x) → 0 ≤ c → c + zs.sum ≤ 63 → Sz (7 * 2 ^ zs.length - 1) (altS (per (t : Rat)) (zs.map fun x : Int => (x : Rat)) (c : Rat))
  | [], c, _, h0, h1 => by
    have h1 : c + 0 ≤ 63 := h1
    show Sz 6 (-(per (t : Rat) (c : Rat)))
    refine Sz.neg ?_
    by_cases hc : c = 0
    · subst hc
      rw [show ((0 : Int) : Rat) = 0 from rfl, per_zero]
      exact ⟨by decide, by decide⟩
    · refine sz_div (t := t) (b := c) (by omega) ?_ ?_ <;> omega
  | x :: zs, c, hx, h0, h1 => by
    have x0 := hx x List.mem_cons_self
    rw [List.sum_cons] at h1
    have s0 : ∀ zs : List Int, (∀ x ∈ zs, 0 ≤ x) → 0 ≤ zs.sum := by
      intro zs
      induction zs with
      | nil => intro _; decide
      | cons y r ih =>
        intro h
        have a := h y List.mem_cons_self
        have b := ih fun z hz => h z (List.mem_cons_of_mem _ hz)
        rw [List.sum_cons]; omega
    have z0 := s0 zs fun z hz => hx z (List.mem_cons_of_mem _ hz)
    have a := altS_sz ht ht2 zs c (fun z hz => hx z (List.mem_cons_of_mem _ hz)) h0 (by omega)
    have b := altS_sz ht ht2 zs (c + x) (fun z hz => hx z (List.mem_cons_of_mem _ hz)) (by omega) (by omega)
    rw [Rat.intCast_add] at b
    have r := a.sub b
    show Sz _ (altS (per (t : Rat)) (zs.map fun x : Int => (x : Rat)) (c : Rat) - altS (per (t : Rat)) (zs.map fun x : Int => (x : Rat)) ((c : Rat) + (x : Rat)))
    refine r.mono ?_
    rw [List.length_cons, Nat.pow_succ]
    have := Nat.two_pow_pos zs.length
    omega
theorem fV_sz {ns S : List Int} (g : Good ns) (hS : S.length ≤ 5) (hm : ∀ k ∈ S, 0 ≤ k ∧ k < ns.length) : Sz 223 (fV ns S) := by
  have b := sum_bounds (pick_bounds g hm)
  have s := g.sum_pos
  have pl : (pick ns S).length = S.length := by rw [pick, List.length_map]
  have r := altS_sz (t := ns.sum) (by omega) (by omega) (pick ns S) 0 (fun x hx => (pick_bounds g hm x hx).1) (by omega) (by omega)
  unfold fV
  rw [wts_pick]
  refine r.mono ?_
  rw [pl]
  have : 2 ^ S.length ≤ 2 ^ 5 := Nat.pow_le_pow_right (by decide) hS
  omega
theorem sh_good {ns : List Int} (g : Good ns) {k : Int} (h : 0 ≤ k ∧ k < ns.length) : 1 ≤ sh ns k ∧ sh ns k ≤ 9 := by
  have hl : k.toNat < ns.length := by omega
  unfold sh
  rw [List.getD_eq_getElem?_getD, List.getElem?_eq_getElem hl]
  exact g.2.2 ns[k.toNat] (List.getElem_mem hl)
theorem pick_pos {ns S : List Int} (g : Good ns) (h0 : S ≠ []) (hm : ∀ k ∈ S, 0 ≤ k ∧ k < ns.length) (hl : S.length ≤ 5) : 0 < (pick ns S).sum ∧ (pick ns S).sum ≤ 45 := by
  have b := sum_bounds (pick_bounds g hm)
  have pl : (pick ns S).length = S.length := by rw [pick, List.length_map]
  refine ⟨?_, by omega⟩
  cases S with
  | nil => exact absurd rfl h0
  | cons k r =>
    have b2 := sum_bounds (pick_bounds (ks := r) g fun k hk => hm k (List.mem_cons_of_mem _ hk))
    have := sh_good g (hm k List.mem_cons_self)
    show 0 < sh ns k + (pick ns r).sum
    omega
end KGX

namespace KGX
open PySem PySem.Spec PyProof.Rows L2
/-! ### comprehensions -/
/-- what was made so far -/
def LcI (H1 : Hp) (D : Addr) (ys : List V) : Hp → Prop := fun H => Same H1 H ∧ H D = some (.lst ys)
theorem LcI.put {H1 H H4 : Hp} {D : Addr} {ys : List V} {y : V} (h : LcI H1 D ys H) (hD : H1 D = none) (hl : ys.length ≤ 1000) (s : Same H H4) :
    ∃ acc, H4 D = some (.lst acc) ∧ acc.length < sizeLine ∧ LcI H1 D (ys ++ [y]) (upd H4 D (.lst (acc ++ [y]))) := by
  refine ⟨ys, s _ _ h.2, small1000 hl, ?_, upd_same⟩
  intro b o e
  rw [upd_ne (ne_of_none e hD)]
  exact s _ _ (h.1 _ _ e)
theorem LcI.stay {H1 H H3 : Hp} {D : Addr} {ys : List V} (h : LcI H1 D ys H) (s : Same H H3) : LcI H1 D ys H3 := ⟨h.1.trans s, s _ _ h.2⟩
theorem take_step {α : Type} {xs : List α} {i : Nat} {x : α} (h : xs[i]? = some x) : xs.take (i + 1) = xs.take i ++ [x] := by rw [List.take_add_one, h]; rfl
theorem map_at {xs : List Int} {i : Nat} {y : V} (h : (xs.map V.int)[i]? = some y) : ∃ k, xs[i]? = some k ∧ y = .int k ∧ k ∈ xs := by
  rw [List.getElem?_map] at h
  cases hz : xs[i]? with
  | none => rw [hz] at h; exact nomatch h
  | some k => rw [hz] at h; exact ⟨k, rfl, (Option.some.inj h).symm, List.mem_of_getElem? hz⟩
theorem ref_at {xs : List Addr} {i : Nat} {y : V} (h : (xs.map V.ref)[i]? = some y) : ∃ q, xs[i]? = some q ∧ y = .ref q ∧ q ∈ xs := by
  rw [List.getElem?_map] at h
  cases hz : xs[i]? with
  | none => rw [hz] at h; exact nomatch h
  | some k => rw [hz] at h; exact ⟨k, rfl, (Option.some.inj h).symm, List.mem_of_getElem? hz⟩
/-! ### rows of tuples -/
def Tups (H : Hp) (qs : List Addr) (Ss : List (List Int)) : Prop := Paired (fun q S => H q = some (.tup (S.map V.int))) qs Ss
theorem Tups.mono {H H' : Hp} {qs : List Addr} {Ss : List (List Int)} (h : Tups H qs Ss) (s : Same H H') : Tups H' qs Ss := Paired.mapP h fun _ _ z => s _ _ z
theorem Tups.upd {H : Hp} {D : Addr} {o o' : List V} {qs : List Addr} {Ss : List (List Int)} (h : Tups H qs Ss) (e : H D = some (.lst o)) : Tups (upd H D (.lst o')) qs Ss := Paired.mapP h fun _ _ z => by
  rw [upd_ne (ne_of z e (by intro w; cases w))]; exact z
theorem paired_at {α β : Type} {F : α → β → Prop} : ∀ {l₁ : List α} {l₂ : List β} {i : Nat} {a : α}, Paired F l₁ l₂ → l₁[i]? = some a → ∃ b, l₂[i]? = some b ∧ F a b
  | _, _, 0, _, .cons h _, e => by cases e; exact ⟨_, rfl, h⟩
  | _, _, i + 1, _, .cons _ t, e => paired_at (i := i) t e
  | _, _, _, _, .nil, e => by simp at e
theorem paired_app {α β : Type} {F : α → β → Prop} : ∀ {l₁ m₁ : List α} {l₂ m₂ : List β}, Paired F l₁ l₂ → Paired F m₁ m₂ → Paired F (l₁ ++ m₁) (l₂ ++ m₂)
  | _, _, _, _, .nil, q => q
  | _, _, _, _, .cons h t, q => .cons h (paired_app t q)
/-! ### papers: a dict by somes -/
def kOf (S : List Int) : List Key := S.map Sum.inl
theorem kOf_kV (S : List Int) : (kOf S).map kV = S.map V.int := by unfold kOf; rw [List.map_map]; rfl
theorem kOf_inj {S T : List Int} (h : kOf S = kOf T) : S = T := by
  unfold kOf at h
  exact List.map_inj_right (fun a b z => Sum.inl.inj z) |>.mp h
def kvOf : List (List Int) → List Addr → List (List Key × V) := List.zipWith fun S p => (kOf S, .ref p)
def PapAt (H : Hp) (d : Addr) (Ss : List (List Int)) (f : List Int → Rat) : Prop := ∃ ps : List Addr, H d = some (.dT (kvOf Ss ps)) ∧ Paired (fun S p => H p = some (.tup (frV (f S)))) Ss ps
theorem PapAt.mono {H H' : Hp} {d : Addr} {Ss : List (List Int)} {f : List Int → Rat} (h : PapAt H d Ss f) (s : Same H H') : PapAt H' d Ss f := by
  obtain ⟨ps, e, r⟩ := h
  exact ⟨ps, s _ _ e, Paired.mapP r fun _ _ z => s _ _ z⟩
theorem kv_get {H : Hp} {f : List Int → Rat} : ∀ {Ss : List (List Int)} {ps : List Addr} {S : List Int}, Paired (fun S p => H p = some (.tup (frV (f S)))) Ss ps → S ∈ Ss → ∃ p, valV (kvOf Ss ps) (kOf S) = some (.ref p) ∧ H p = some (.tup (frV (f S)))
  | _, _, S, .cons (a := T) (b := p) h t, hm => by
    by_cases e : T = S
    · subst e
      exact ⟨p, valV_pos (p := (kOf T, V.ref p)) rfl, h⟩
    · obtain ⟨p', e1, e2⟩ := kv_get t ((List.mem_cons.mp hm).resolve_left fun z => e z.symm)
      exact ⟨p', by rw [← e1]; exact valV_neg (p := (kOf T, V.ref p)) fun z => e (kOf_inj z), e2⟩
  | _, _, _, .nil, hm => nomatch hm
theorem kv_none {H : Hp} {f : List Int → Rat} : ∀ {Ss : List (List Int)} {ps : List Addr} {S : List Int}, Paired (fun S p => H p = some (.tup (frV (f S)))) Ss ps → S ∉ Ss → valV (kvOf Ss ps) (kOf S) = none
  | _, _, S, .cons (a := T) (b := p) h t, hm => by
    have e : T ≠ S := fun z => hm (z ▸ List.mem_cons_self)
    rw [← kv_none t fun z => hm (List.mem_cons_of_mem _ z)]
    exact valV_neg (p := (kOf T, V.ref p)) fun z => e (kOf_inj z)
  | _, _, _, .nil, _ => rfl
theorem kvOf_app {F : List Int → Addr → Prop} {S : List Int} {p : Addr} : ∀ {Ss : List (List Int)} {ps : List Addr}, Paired F Ss ps → kvOf (Ss ++ [S]) (ps ++ [p]) = kvOf Ss ps ++ [(kOf S, .ref p)]
  | _, _, .nil => rfl
  | _, _, .cons (l₁ := l) (l₂ := m) _ t => by
    show _ :: kvOf (l ++ [S]) (m ++ [p]) = _
    rw [kvOf_app t]
    rfl
theorem kvOf_len {F : List Int → Addr → Prop} : ∀ {Ss : List (List Int)} {ps : List Addr}, Paired F Ss ps → (kvOf Ss ps).length = Ss.length
  | _, _, .nil => rfl
  | _, _, .cons _ t => by
    show (kvOf _ _).length + 1 = _ + 1
    rw [kvOf_len t]
/-- d[S] -/
theorem PapAt.get {H : Hp} {d b : Addr} {Ss : List (List Int)} {f : List Int → Rat} {S : List Int} (h : PapAt H d Ss f) (hm : S ∈ Ss) (eb : H b = some (.tup (S.map V.int))) : ∃ p, DGet H d (.ref b) (some (.ref p)) ∧ H p = some (.tup (frV (f S))) := by
  obtain ⟨ps, e, r⟩ := h
  obtain ⟨p, e1, e2⟩ := kv_get r hm
  refine ⟨p, ?_, e2⟩
  rw [← e1]
  exact DGet.t e (by rw [kOf_kV]; exact eb)
/-- d[S] = x, S not yet there -/
theorem PapAt.put {H : Hp} {d b p : Addr} {Ss : List (List Int)} {f : List Int → Rat} {S : List Int} (h : PapAt H d Ss f) (hm : S ∉ Ss) (hl : Ss.length ≤ 1000) (eb : H b = some (.tup (S.map V.int))) (ep : H p = some (.tup (frV (f S)))) :
    ∃ H', DPut H d (.ref b) (.ref p) H' ∧ PapAt H' d (Ss ++ [S]) f ∧ Kp d H H' := by
  obtain ⟨ps, e, r⟩ := h
  refine ⟨_, DPut.t e (k := kOf S) (by rw [kOf_kV]; exact eb) (by rw [kvOf_len r]; exact small1000 hl), ⟨ps ++ [p], ?_, ?_⟩, fun a o n z => by rw [upd_ne n]; exact z⟩
  · rw [upd_same, putK_new _ (kv_none r hm), kvOf_app r]
  · have ne : ∀ q : Addr, ∀ xs, H q = some (.tup xs) → q ≠ d := fun q xs z => ne_of z e (by intro w; cases w)
    refine Paired.snoc (Paired.mapP r fun S p z => ?_) ?_
    · rw [upd_ne (ne p _ z)]; exact z
    · rw [upd_ne (ne p _ ep)]; exact ep
/-! ### promises -/
def spAllKinds : Sp := fun vs H Q _ => ∃ (a : Addr) (ns : List V), vs = [.ref a] ∧ H a = some (.tup ns) ∧ ns.length ≤ 1000 ∧ ∀ H' p, Same H H' → H p = none → H' p = some (.tup ((rg ns.length).map V.int)) → Q (.ref p) H'
/-- a list of new tuples -/
def newTups (Ss : List (List Int)) : VK → Hp → Prop := fun Q H => ∀ H' L qs, Same H H' → H L = none → H' L = some (.lst (qs.map V.ref)) → Tups H' qs Ss → Q (.ref L) H'
def spAllSome : Sp := fun vs H Q _ => ∃ (c : Addr) (ks : List Int), vs = [.ref c] ∧ H c = some (.tup (ks.map V.int)) ∧ ks.length ≤ 5 ∧ newTups (allSub ks) Q H
def spLawAllSome : Sp := fun vs H Q _ => ∃ (n : Nat), vs = [.int n] ∧ n ≤ 5 ∧ newTups (allSub (rg n)) Q H
def spShareOf (K : PySem.W.Frag) : Sp := fun vs H Q _ => ∃ (a c : Addr) (ns ks : List Int), vs = [.ref a, .ref c] ∧ H a = some (.tup (ns.map V.int)) ∧ H c = some (.tup (ks.map V.int)) ∧ ks.length ≤ 1000 ∧ (∀ k ∈ ks, 0 ≤ k ∧ k < ns.length) ∧
  ∀ H', Same H H' → Q (.int (pick ns ks).sum) H'
def spMeanAll : Sp := fun vs H Q _ => ∃ (a : Addr) (ns : List Int), vs = [.ref a] ∧ H a = some (.tup (ns.map V.int)) ∧ Good ns ∧ newR (fV ns (rg ns.length)) Q H
def spLawPaper : Sp := fun vs H Q _ => ∃ (a : Addr) (ns : List Int), vs = [.ref a] ∧ H a = some (.tup (ns.map V.int)) ∧ Good ns ∧ ∀ H' d, Same H H' → H d = none → PapAt H' d (allSub (rg ns.length)) (fV ns) → Q (.ref d) H'
end KGX
namespace KGX
open PySem PySem.Spec PyProof.Rows L2
/-! ### rows of ints, compared -/
theorem dp_ints {K : PySem.W.Frag} {H : Hp} : ∀ (S : List Int), DpAll K H (S.map V.int) (S.map PyData.int)
  | [] => .nil
  | k :: r => .cons (.int k) (dp_ints r)
theorem lay_ints : ∀ (S : List Int), PyData.canLayAll0 (S.map PyData.int) = true
  | [] => rfl
  | k :: r => by
    show (PyData.canLay0 (.int k) && PyData.canLayAll0 (r.map PyData.int)) = true
    rw [lay_ints r]; rfl
theorem depth_ints : ∀ (S : List Int), PyData.depthAll (S.map PyData.int) = 0
  | [] => rfl
  | k :: r => by
    show max 0 (PyData.depthAll (r.map PyData.int)) = 0
    rw [depth_ints r]; rfl
theorem shaped_ints (S : List Int) : SeqAt.shaped (.tuple (S.map PyData.int)) = true := by
  show (PyData.canLayAll0 (S.map PyData.int) && decide (PyData.depthAll (S.map PyData.int) + 1 ≤ 64)) = true
  rw [lay_ints, depth_ints]; rfl
theorem eqvAll_ints : ∀ (S T : List Int), PyData.eqvAll (S.map PyData.int) (T.map PyData.int) = decide (S = T)
  | [], [] => rfl
  | [], _ :: _ => rfl
  | _ :: _, [] => rfl
  | k :: r, j :: t => by
    show (PyData.eqv (.int k) (.int j) && PyData.eqvAll (r.map PyData.int) (t.map PyData.int)) = _
    rw [eqvAll_ints r t]
    show ((k == j) && decide (r = t)) = _
    by_cases h : k = j
    · subst h; simp
    · simp [h]
theorem eqv_ints (S T : List Int) : PyData.eqv (.tuple (S.map PyData.int)) (.tuple (T.map PyData.int)) = decide (S = T) := eqvAll_ints S T
theorem dp_tup {K : PySem.W.Frag} {H : Hp} {a : Addr} {S : List Int} (h : H a = some (.tup (S.map V.int))) : Dp K H (.ref a) (.tuple (S.map PyData.int)) := .tup (.inl (.inl h)) (dp_ints S)
end KGX
namespace KGX
open PySem PySem.Spec PyProof.Rows L2
theorem rat_over (x : Rat) {A : Int} (h : 0 < A) : ((x.num : Int) : Rat) / (((x.den : Int) * A : Int) : Rat) = x / (A : Rat) := by
  have e1 := rat_self x
  have h1 := den_ne x
  have h2 := cast_ne h
  rw [Rat.intCast_mul]
  generalize (x.num : Rat) = a at *
  generalize ((x.den : Int) : Rat) = b at *
  generalize (A : Rat) = c at *
  subst e1
  grind
theorem low_over (x : Rat) {A : Int} (h : 0 < A) : low x.num ((x.den : Int) * A) = frV (x / (A : Rat)) := by rw [low_eq (Int.mul_pos (den_pos x) h), rat_over x h]
theorem div_of {x y A : Rat} (h : A ≠ 0) (e : x = A * y) : x / A = y := by subst e; grind
theorem rat_scaled (x : Rat) (k : Int) : ((x.num * k : Int) : Rat) / ((x.den : Int) : Rat) = (k : Rat) * x := by
  have e1 := rat_self x
  have h1 := den_ne x
  rw [Rat.intCast_mul]
  generalize (x.num : Rat) = a at *
  generalize ((x.den : Int) : Rat) = b at *
  generalize (k : Rat) = c at *
  subst e1
  grind
/-- what has been put together of the due number -/
def psum (ns S : List Int) (f : List Int → Rat) (j : Nat) : Rat := (ns.sum : Rat) + ((S.take j).map fun k => (sh ns k : Rat) * f (S.filter (fun i => decide (i ≠ k)))).sum
theorem psum_zero (ns S : List Int) (f : List Int → Rat) : psum ns S f 0 = (ns.sum : Rat) := by unfold psum; rw [List.take_zero]; show _ + (0 : Rat) = _; grind
theorem psum_succ {ns S : List Int} {f : List Int → Rat} {j : Nat} {k : Int} (h : S[j]? = some k) : psum ns S f (j + 1) = psum ns S f j + (sh ns k : Rat) * f (S.filter (fun i => decide (i ≠ k))) := by
  unfold psum
  rw [take_step h, List.map_append, sumR_app]
  show _ + (_ + ((sh ns k : Rat) * f (S.filter (fun i => decide (i ≠ k))) + 0)) = _
  grind
theorem filter_step {S : List Int} {i : Nat} {x : Int} (k : Int) (h : S[i]? = some x) : (S.take (i + 1)).filter (fun j => decide (j ≠ k)) = (S.take i).filter (fun j => decide (j ≠ k)) ++ if x = k then [] else [x] := by
  rw [take_step h, List.filter_append]
  congr 1
  by_cases e : x = k
  · rw [if_pos e, List.filter_cons_of_neg (by simp [e])]; rfl
  · rw [if_neg e, List.filter_cons_of_pos (by simp [e])]; rfl
theorem frV_zero : frV 0 = [.int 0, .int 1] := rfl
theorem frV_int (t : Int) : frV (t : Rat) = [.int t, .int 1] := by unfold frV; rw [Rat.num_intCast, Rat.den_intCast]; rfl
end KGX

namespace KGX
open PySem PySem.Spec PyProof.Rows L2
/-! ### rows of ints: which are in -/
theorem inV_ints (k : Int) : ∀ ks : List Int, inV (.int k) (ks.map V.int) = decide (k ∈ ks)
  | [] => rfl
  | j :: r => by
    show ((j == k) || inV (.int k) (r.map V.int)) = _
    rw [inV_ints k r]
    by_cases h : j = k
    · subst h; simp
    · have h' : k ≠ j := fun z => h z.symm
      simp [h, h']
theorem flat_ints (ks : List Int) : (ks.map V.int).all flatV = true := by
  rw [List.all_map, List.all_eq_true]; intro x _; rfl
theorem sumZ_one {f : Int → Int} {x : Int} : ∀ {L : List Int}, L.Nodup → (L.map fun k => if k = x then f k else 0).sum = if x ∈ L then f x else 0
  | [], _ => rfl
  | j :: r, h => by
    have h2 := List.nodup_cons.mp h
    have ih := sumZ_one (f := f) (x := x) h2.2
    show (if j = x then f j else 0) + (r.map fun k => if k = x then f k else 0).sum = _
    rw [ih]
    by_cases e : j = x
    · subst e
      rw [if_pos rfl, if_neg h2.1, if_pos List.mem_cons_self]; omega
    · rw [if_neg e]
      by_cases m : x ∈ r
      · rw [if_pos m, if_pos (List.mem_cons_of_mem _ m)]; omega
      · rw [if_neg m, if_neg (fun z => (List.mem_cons.mp z).elim (fun w => e w.symm) m)]; rfl
theorem sumZ_add (f g : Int → Int) : ∀ (L : List Int), (L.map fun k => f k + g k).sum = (L.map f).sum + (L.map g).sum
  | [] => rfl
  | j :: r => by
    have ih := sumZ_add f g r
    show (f j + g j) + (r.map fun k => f k + g k).sum = (f j + (r.map f).sum) + (g j + (r.map g).sum)
    rw [ih]; omega
theorem sumZ_mem {f : Int → Int} {L : List Int} (hL : L.Nodup) : ∀ {ks : List Int}, ks.Nodup → (∀ k ∈ ks, k ∈ L) → (L.map fun k => if k ∈ ks then f k else 0).sum = (ks.map f).sum
  | [], _, _ => by
    have : ∀ L : List Int, (L.map fun k => if k ∈ ([] : List Int) then f k else 0).sum = 0 := by
      intro L
      induction L with
      | nil => rfl
      | cons j r ih =>
        show (if j ∈ ([] : List Int) then f j else 0) + (r.map fun k => if k ∈ ([] : List Int) then f k else 0).sum = 0
        rw [ih, if_neg (by simp)]; rfl
    exact this L
  | x :: r, h, hm => by
    have h2 := List.nodup_cons.mp h
    have ih := sumZ_mem (f := f) hL h2.2 fun k hk => hm k (List.mem_cons_of_mem _ hk)
    have e : (L.map fun k => if k ∈ x :: r then f k else 0) = L.map fun k => (if k = x then f k else 0) + (if k ∈ r then f k else 0) := by
      refine List.map_congr_left fun k _ => ?_
      by_cases e : k = x
      · subst e
        rw [if_pos List.mem_cons_self, if_pos rfl, if_neg h2.1]; omega
      · rw [if_neg e]
        by_cases m : k ∈ r
        · rw [if_pos m, if_pos (List.mem_cons_of_mem _ m)]; omega
        · rw [if_neg m, if_neg (fun z => (List.mem_cons.mp z).elim e m)]; rfl
    rw [e, sumZ_add, sumZ_one hL, if_pos (hm x List.mem_cons_self), ih]; rfl
theorem sumZ_filter (f : Int → Int) (p : Int → Bool) : ∀ (L : List Int), ((L.filter p).map f).sum + (L.map fun k => if p k = true then 0 else f k).sum = (L.map f).sum
  | [] => rfl
  | j :: r => by
    have ih := sumZ_filter f p r
    by_cases e : p j = true
    · rw [List.filter_cons_of_pos e]
      show (f j + ((r.filter p).map f).sum) + ((if p j = true then 0 else f j) + (r.map fun k => if p k = true then 0 else f k).sum) = f j + (r.map f).sum
      rw [if_pos e]; omega
    · rw [List.filter_cons_of_neg e]
      show ((r.filter p).map f).sum + ((if p j = true then 0 else f j) + (r.map fun k => if p k = true then 0 else f k).sum) = f j + (r.map f).sum
      rw [if_neg e]; omega
theorem rg_at {n i : Nat} (h : i < n) : (rg n)[i]? = some (i : Int) := by
  unfold rg
  rw [List.getElem?_map, List.getElem?_range h]; rfl
theorem rg_nodup (n : Nat) : (rg n).Nodup := rise_nodup (rise_range n)
theorem mem_rg {n : Nat} {k : Int} : k ∈ rg n ↔ 0 ≤ k ∧ k < n := by
  unfold rg
  rw [List.mem_map]
  constructor
  · rintro ⟨i, hi, rfl⟩
    have := List.mem_range.mp hi
    omega
  · rintro ⟨h0, h1⟩
    exact ⟨k.toNat, List.mem_range.mpr (by omega), by omega⟩
theorem pick_all (ns : List Int) : pick ns (rg ns.length) = ns := by
  refine List.ext_getElem? fun i => ?_
  unfold pick
  rw [List.getElem?_map]
  by_cases h : i < ns.length
  · rw [rg_at h]
    show some (ns.getD (i : Int).toNat 0) = _
    rw [Int.toNat_natCast, List.getD_eq_getElem?_getD, List.getElem?_eq_getElem h]; rfl
  · rw [List.getElem?_eq_none (by rw [rg_len]; omega), List.getElem?_eq_none (by omega)]; rfl
/-- some kinds and the others -/
theorem pick_both {ns ks : List Int} (hR : Rise ks) (hK : ∀ k ∈ ks, 0 ≤ k ∧ k < ns.length) : (pick ns ks).sum + (pick ns ((rg ns.length).filter fun k => !decide (k ∈ ks))).sum = ns.sum := by
  have e1 := sumZ_filter (fun k => ns.getD k.toNat 0) (fun k => !decide (k ∈ ks)) (rg ns.length)
  have e2 : ((rg ns.length).map fun k => if (!decide (k ∈ ks)) = true then 0 else ns.getD k.toNat 0) = (rg ns.length).map fun k => if k ∈ ks then ns.getD k.toNat 0 else 0 := by
    refine List.map_congr_left fun k _ => ?_
    by_cases m : k ∈ ks
    · rw [decide_eq_true m, if_pos m]; rfl
    · rw [decide_eq_false m, if_neg m]; rfl
  have e3 := sumZ_mem (f := fun k => ns.getD k.toNat 0) (rg_nodup ns.length) (rise_nodup hR) (fun k hk => mem_rg.mpr (hK k hk))
  have e4 := pick_all ns
  unfold pick at e4 ⊢
  rw [e2, e3, e4] at e1
  omega
/-! ### shares as texts -/
/-- how a share is written -/
def dg (n : Int) : Str := toString n
def txt (ns : List Int) : Str := Txt.join " " (ns.map dg)
def digs : List Str := [1, 2, 3, 4, 5, 6, 7, 8, 9].map dg
theorem dig {p : Int → Prop} (h : p 1 ∧ p 2 ∧ p 3 ∧ p 4 ∧ p 5 ∧ p 6 ∧ p 7 ∧ p 8 ∧ p 9) {n : Int} (h1 : 1 ≤ n) (h2 : n ≤ 9) : p n := by
  obtain ⟨a1, a2, a3, a4, a5, a6, a7, a8, a9⟩ := h
  rcases (show n = 1 ∨ n = 2 ∨ n = 3 ∨ n = 4 ∨ n = 5 ∨ n = 6 ∨ n = 7 ∨ n = 8 ∨ n = 9 by omega) with rfl | rfl | rfl | rfl | rfl | rfl | rfl | rfl | rfl <;> assumption
theorem dig_in {n : Int} (h1 : 1 ≤ n) (h2 : n ≤ 9) : inV (.str (dg n)) (digs.map V.str) = true := dig (p := fun n => inV (.str (dg n)) (digs.map V.str) = true) (by decide +kernel) h1 h2
theorem dig_int {n : Int} (h1 : 1 ≤ n) (h2 : n ≤ 9) : PySem.intText? (dg n) = some n := dig (p := fun n => PySem.intText? (dg n) = some n) (by decide +kernel) h1 h2
theorem dig_one {n : Int} (h1 : 1 ≤ n) (h2 : n ≤ 9) : (dg n).length = 1 := dig (p := fun n => (dg n).length = 1) (by decide +kernel) h1 h2
theorem dig_blank {n : Int} (h1 : 1 ≤ n) (h2 : n ≤ 9) : 32 ∉ TL.tl (dg n) := dig (p := fun n => 32 ∉ TL.tl (dg n)) (by decide +kernel) h1 h2
theorem split_txt {ns : List Int} (g : Good ns) : Txt.split (txt ns) " " = ns.map dg := by
  refine TL.split_join (s := 32) (S := []) (by decide +kernel) (by decide +kernel) (fun z => ?_) (fun p hp => ?_)
  · have := g.1
    rw [List.map_eq_nil_iff.mp z] at this
    exact absurd this (by decide)
  · obtain ⟨n, hn, rfl⟩ := List.mem_map.mp hp
    exact dig_blank (g.2.2 n hn).1 (g.2.2 n hn).2
theorem txt_sum {ns : List Int} (g : Good ns) : ((ns.map dg).map (·.length)).sum = ns.length := by
  have : ∀ ns : List Int, (∀ x ∈ ns, 1 ≤ x ∧ x ≤ 9) → ((ns.map dg).map (·.length)).sum = ns.length := by
    intro ns
    induction ns with
    | nil => intro _; rfl
    | cons x r ih =>
      intro h
      have := h x List.mem_cons_self
      show (dg x).length + ((r.map dg).map (·.length)).sum = r.length + 1
      rw [ih fun y hy => h y (List.mem_cons_of_mem _ hy), dig_one this.1 this.2]; omega
  exact this ns g.2.2
theorem txt_len {ns : List Int} (g : Good ns) : (txt ns).length ≤ 10 := by
  have e := StrLaws.join_length_le " " (ns.map dg)
  rw [txt_sum g, List.length_map] at e
  unfold txt
  rw [TL.join_eq]
  have h5 := g.2.1
  have h1 : (" " : Str).length = 1 := by decide +kernel
  rw [h1] at e
  omega
def spShow (K : PySem.W.Frag) : Sp := fun vs H Q _ => ∃ (a : Addr) (ns : List Int), vs = [.ref a] ∧ H a = some (.tup (ns.map V.int)) ∧ Good ns ∧ ∀ H', Same H H' → Q (.str (txt ns)) H'
def spShareWord : Sp := fun vs H Q _ => ∃ z, vs = [.str z] ∧ ∀ H', Same H H' → Q (.bl (inV (.str z) (digs.map V.str))) H'
def spRead0 : Sp := fun vs H Q _ => ∃ (ns : List Int), vs = [.str (txt ns)] ∧ Good ns ∧ ∀ H' p, Same H H' → H p = none → H' p = some (.tup (ns.map V.int)) → Q (.ref p) H'
end KGX
namespace KGX
open PySem PySem.Spec PyProof.Rows L2
theorem fr_ne {x y : Rat} (h : x = y) : PyData.eqv (.tuple [.int x.num, .int (x.den : Int)]) (.tuple [.int y.num, .int (y.den : Int)]) = true := by
  subst h
  have := eqv_ints [x.num, (x.den : Int)] [x.num, (x.den : Int)]
  rw [decide_eq_true rfl] at this
  exact this
theorem shaped_fr (x : Rat) : SeqAt.shaped (.tuple [.int x.num, .int (x.den : Int)]) = true := shaped_ints [x.num, (x.den : Int)]
theorem iteNT {b : Bool} {A B : Prop} (hb : b = true) (h : B) : if (!b) = true then A else B := by subst hb; exact iteF h
theorem lt_more {x : Rat} {c d : Int} (hc : 0 < c) (hd : 0 < d) : x < x + (c : Rat) / (d : Rat) := by
  have h1 : (0 : Rat) < (c : Rat) := by exact_mod_cast hc
  have h2 : (0 : Rat) < (d : Rat) := by exact_mod_cast hd
  have h3 : 0 < (c : Rat) / (d : Rat) := by
    rw [Rat.div_def]
    exact Rat.mul_pos h1 (Rat.inv_pos.mpr h2)
  grind
theorem lt_sub_zero (x y : Rat) : decide (x < y) = decide (x - y < 0) := by
  rw [decide_eq_decide]
  constructor <;> intro h <;> grind
theorem fr_one : Fr 1 (10 ^ 20) := ⟨by decide, by decide, Nat.lt_of_lt_of_le (show (1 : Int).natAbs < 2 ^ 70 by decide) (Nat.pow_le_pow_right (by decide) (by decide)), Nat.lt_of_lt_of_le (show ((10 : Int) ^ 20).natAbs < 2 ^ 70 by decide) (Nat.pow_le_pow_right (by decide) (by decide))⟩
theorem fr_unit : Fr 1 1 := ⟨by decide, by decide, Nat.lt_of_lt_of_le (show (1 : Int).natAbs < 2 ^ 70 by decide) (Nat.pow_le_pow_right (by decide) (by decide)), Nat.lt_of_lt_of_le (show (1 : Int).natAbs < 2 ^ 70 by decide) (Nat.pow_le_pow_right (by decide) (by decide))⟩
theorem frV_one : frV 1 = [.int 1, .int 1] := rfl
theorem both_one {p o t : Int} (h : p + o = t) (ht : 0 < t) : (p : Rat) / (t : Rat) + (o : Rat) / (t : Rat) = 1 := by
  have h2 := cast_ne ht
  have h3 : (p : Rat) + (o : Rat) = (t : Rat) := by rw [← h, Rat.intCast_add]
  generalize (p : Rat) = p at *
  generalize (o : Rat) = o at *
  generalize (t : Rat) = t at *
  subst h3
  grind
theorem part_back {p t : Int} (ht : 0 < t) : (p : Rat) / (t : Rat) * (t : Rat) = (p : Rat) := by
  have h2 := cast_ne ht
  generalize (p : Rat) = p at *
  generalize (t : Rat) = t at *
  grind
/-- three fractions drawn -/
def FrIn (n : Nat) (H : Hp) (p : Addr) : Prop := ∃ x : Rat, Sz n x ∧ H p = some (.tup (frV x))
theorem FrIn.kp {n : Nat} {H H' : Hp} {b p : Addr} {o : List V} (h : FrIn n H p) (eb : H b = some (.lst o)) (k : Kp b H H') : FrIn n H' p := by
  obtain ⟨x, z, e⟩ := h
  exact ⟨x, z, k _ _ (ne_of e eb (by intro w; cases w)) e⟩
end KGX
namespace KGX
open PySem PySem.Spec PyProof.Rows L2
theorem less_at {x y : Rat} {Q : VK} {H : Hp} (h : Q (.bl (decide (x < y))) H) : (fun (a b c d : Int) (Q : VK) (H : Hp) => Q (.bl (decide (a * d < c * b))) H) x.num (x.den : Int) y.num (y.den : Int) Q H := by
  show Q (.bl (decide (x.num * y.den < y.num * x.den))) H
  rw [rat_lt]; exact h
end KGX

namespace KGX
open PySem PySem.Spec PyProof.Rows L2
def topS (i : Nat) : Stmt := PySem.Challenge.pw_kindsgathered_k10_means_until_all.main.body.getD i (.Pass ⟨0, 0, 0, 0⟩)
abbrev s_is_whole : Stmt := topS 5
theorem sc_is_whole : FnScope ["thing"] ["thing"] (defScope s_is_whole) := ⟨rfl, rfl, rfl, by decide +kernel, rfl, by decide +kernel, by decide +kernel⟩
abbrev s_is_whole_within : Stmt := topS 6
theorem sc_is_whole_within : FnScope ["thing", "least", "most"] ["thing", "least", "most"] (defScope s_is_whole_within) := ⟨rfl, rfl, rfl, by decide +kernel, rfl, by decide +kernel, by decide +kernel⟩
abbrev s_greatest_divisor : Stmt := topS 8
theorem sc_greatest_divisor : FnScope ["top", "bottom", "one", "other"] ["top", "bottom"] (defScope s_greatest_divisor) := ⟨rfl, rfl, rfl, by decide +kernel, rfl, by decide +kernel, by decide +kernel⟩
abbrev s_is_fraction : Stmt := topS 9
theorem sc_is_fraction : FnScope ["thing", "top", "bottom"] ["thing"] (defScope s_is_fraction) := ⟨rfl, rfl, rfl, by decide +kernel, rfl, by decide +kernel, by decide +kernel⟩
abbrev s_lowest : Stmt := topS 10
theorem sc_lowest : FnScope ["top", "bottom", "divisor"] ["top", "bottom"] (defScope s_lowest) := ⟨rfl, rfl, rfl, by decide +kernel, rfl, by decide +kernel, by decide +kernel⟩
abbrev s_check_fractions : Stmt := topS 11
theorem sc_check_fractions : FnScope ["one", "other"] ["one", "other"] (defScope s_check_fractions) := ⟨rfl, rfl, rfl, by decide +kernel, rfl, by decide +kernel, by decide +kernel⟩
abbrev s_added : Stmt := topS 12
theorem sc_added : FnScope ["one", "other"] ["one", "other"] (defScope s_added) := ⟨rfl, rfl, rfl, by decide +kernel, rfl, by decide +kernel, by decide +kernel⟩
abbrev s_lessened : Stmt := topS 13
theorem sc_lessened : FnScope ["one", "other"] ["one", "other"] (defScope s_lessened) := ⟨rfl, rfl, rfl, by decide +kernel, rfl, by decide +kernel, by decide +kernel⟩
abbrev s_is_shares : Stmt := topS 17
theorem sc_is_shares : FnScope ["thing", "share"] ["thing"] (defScope s_is_shares) := ⟨rfl, rfl, rfl, by decide +kernel, rfl, by decide +kernel, by decide +kernel⟩
abbrev s_check_shares : Stmt := topS 18
theorem sc_check_shares : FnScope ["thing"] ["thing"] (defScope s_check_shares) := ⟨rfl, rfl, rfl, by decide +kernel, rfl, by decide +kernel, by decide +kernel⟩
abbrev s_all_kinds : Stmt := topS 19
theorem sc_all_kinds : FnScope ["shares"] ["shares"] (defScope s_all_kinds) := ⟨rfl, rfl, rfl, by decide +kernel, rfl, by decide +kernel, by decide +kernel⟩
abbrev s_all_some : Stmt := topS 20
theorem sc_all_some : FnScope ["kinds", "found", "kind", "some"] ["kinds"] (defScope s_all_some) := ⟨rfl, rfl, rfl, by decide +kernel, rfl, by decide +kernel, by decide +kernel⟩
abbrev s_share_of : Stmt := topS 21
theorem sc_share_of : FnScope ["shares", "some", "kind"] ["shares", "some"] (defScope s_share_of) := ⟨rfl, rfl, rfl, by decide +kernel, rfl, by decide +kernel, by decide +kernel⟩
abbrev s_mean_all : Stmt := topS 23
theorem sc_mean_all : FnScope ["shares", "mean", "some"] ["shares"] (defScope s_mean_all) := ⟨rfl, rfl, rfl, by decide +kernel, rfl, by decide +kernel, by decide +kernel⟩
abbrev s__law_cell : Stmt := topS 25
theorem sc__law_cell : FnScope ["_law_script", "_law_k"] ["_law_script", "_law_k"] (defScope s__law_cell) := ⟨rfl, rfl, rfl, by decide +kernel, rfl, by decide +kernel, by decide +kernel⟩
abbrev s__law_mix : Stmt := topS 26
theorem sc__law_mix : FnScope ["_law_cell_here", "_law_k", "_law_some", "_law_stir"] ["_law_cell_here", "_law_k"] (defScope s__law_mix) := ⟨rfl, rfl, rfl, by decide +kernel, rfl, by decide +kernel, by decide +kernel⟩
abbrev s__law_box : Stmt := topS 27
theorem sc__law_box : FnScope ["_law_script", "_law_k", "_law_cell_here", "_law_number", "_law_j"] ["_law_script", "_law_k"] (defScope s__law_box) := ⟨rfl, rfl, rfl, by decide +kernel, rfl, by decide +kernel, by decide +kernel⟩
abbrev s__law_take : Stmt := topS 28
theorem sc__law_take : FnScope ["_law_box_here", "_law_many", "_law_left", "_law_digit"] ["_law_box_here", "_law_many"] (defScope s__law_take) := ⟨rfl, rfl, rfl, by decide +kernel, rfl, by decide +kernel, by decide +kernel⟩
abbrev s__law_drawn_shares : Stmt := topS 29
theorem sc__law_drawn_shares : FnScope ["_law_box_here", "_law_most", "_law_top", "_law_many", "_law_kind", "_law_place"] ["_law_box_here", "_law_most", "_law_top"] (defScope s__law_drawn_shares) := ⟨rfl, rfl, rfl, by decide +kernel, rfl, by decide +kernel, by decide +kernel⟩
abbrev s__law_common : Stmt := topS 30
theorem sc__law_common : FnScope ["_law_one", "_law_other"] ["_law_one", "_law_other"] (defScope s__law_common) := ⟨rfl, rfl, rfl, by decide +kernel, rfl, by decide +kernel, by decide +kernel⟩
abbrev s__law_made : Stmt := topS 31
theorem sc__law_made : FnScope ["_law_top", "_law_bottom", "_law_both"] ["_law_top", "_law_bottom"] (defScope s__law_made) := ⟨rfl, rfl, rfl, by decide +kernel, rfl, by decide +kernel, by decide +kernel⟩
abbrev s__law_plus : Stmt := topS 32
theorem sc__law_plus : FnScope ["_law_one", "_law_other"] ["_law_one", "_law_other"] (defScope s__law_plus) := ⟨rfl, rfl, rfl, by decide +kernel, rfl, by decide +kernel, by decide +kernel⟩
abbrev s__law_all_some : Stmt := topS 33
theorem sc__law_all_some : FnScope ["_law_many", "_law_found", "_law_kind", "_law_some"] ["_law_many"] (defScope s__law_all_some) := ⟨rfl, rfl, rfl, by decide +kernel, rfl, by decide +kernel, by decide +kernel⟩
abbrev s__law_paper : Stmt := topS 34
theorem sc__law_paper : FnScope ["_law_shares", "_law_found", "_law_some", "_law_number", "_law_kind", "_law_piece", "_law_one"] ["_law_shares"] (defScope s__law_paper) := ⟨rfl, rfl, rfl, by decide +kernel, rfl, by decide +kernel, by decide +kernel⟩
abbrev s_law : Stmt := topS 35
theorem sc_law : FnScope ["_law_script", "_law_k", "_law_shares"] ["_law_script"] (defScope s_law) := ⟨rfl, rfl, rfl, by decide +kernel, rfl, by decide +kernel, by decide +kernel⟩
theorem bt_isinstance : bootBuiltins "isinstance" = some (.builtin "isinstance") := by decide +kernel
theorem bt_int : bootBuiltins "int" = some (.type "int") := by decide +kernel
theorem bt_bool : bootBuiltins "bool" = some (.type "bool") := by decide +kernel
theorem bt_abs : bootBuiltins "abs" = some (.builtin "abs") := by decide +kernel
theorem bt_tuple : bootBuiltins "tuple" = some (.type "tuple") := by decide +kernel
theorem bt_len : bootBuiltins "len" = some (.builtin "len") := by decide +kernel
theorem bt_all : bootBuiltins "all" = some (.builtin "all") := by decide +kernel
theorem bt_range : bootBuiltins "range" = some (.type "range") := by decide +kernel
theorem bt_sum : bootBuiltins "sum" = some (.builtin "sum") := by decide +kernel
theorem bt_divmod : bootBuiltins "divmod" = some (.builtin "divmod") := by decide +kernel
theorem bt_max : bootBuiltins "max" = some (.builtin "max") := by decide +kernel
theorem bt_min : bootBuiltins "min" = some (.builtin "min") := by decide +kernel
theorem bt_repr : bootBuiltins "repr" = some (.builtin "repr") := by decide +kernel
/-- what the top has left -/
structure Tx (K : PySem.W.Frag) (mg : Str → Option Value) where
  a_is_whole : Addr
  d_is_whole : FuncData
  F_is_whole : Fun K "is_whole" "is_whole" s_is_whole a_is_whole d_is_whole
  g_is_whole : mg "is_whole" = some (.ref a_is_whole)
  b_is_whole : Binds K d_is_whole ["thing"] []
  a_is_whole_within : Addr
  d_is_whole_within : FuncData
  F_is_whole_within : Fun K "is_whole_within" "is_whole_within" s_is_whole_within a_is_whole_within d_is_whole_within
  g_is_whole_within : mg "is_whole_within" = some (.ref a_is_whole_within)
  b_is_whole_within : Binds K d_is_whole_within ["thing", "least", "most"] []
  a_greatest_divisor : Addr
  d_greatest_divisor : FuncData
  F_greatest_divisor : Fun K "greatest_divisor" "greatest_divisor" s_greatest_divisor a_greatest_divisor d_greatest_divisor
  g_greatest_divisor : mg "greatest_divisor" = some (.ref a_greatest_divisor)
  b_greatest_divisor : Binds K d_greatest_divisor ["top", "bottom"] []
  a_is_fraction : Addr
  d_is_fraction : FuncData
  F_is_fraction : Fun K "is_fraction" "is_fraction" s_is_fraction a_is_fraction d_is_fraction
  g_is_fraction : mg "is_fraction" = some (.ref a_is_fraction)
  b_is_fraction : Binds K d_is_fraction ["thing"] []
  a_lowest : Addr
  d_lowest : FuncData
  F_lowest : Fun K "lowest" "lowest" s_lowest a_lowest d_lowest
  g_lowest : mg "lowest" = some (.ref a_lowest)
  b_lowest : Binds K d_lowest ["top", "bottom"] []
  a_check_fractions : Addr
  d_check_fractions : FuncData
  F_check_fractions : Fun K "check_fractions" "check_fractions" s_check_fractions a_check_fractions d_check_fractions
  g_check_fractions : mg "check_fractions" = some (.ref a_check_fractions)
  b_check_fractions : Binds K d_check_fractions ["one", "other"] []
  a_added : Addr
  d_added : FuncData
  F_added : Fun K "added" "added" s_added a_added d_added
  g_added : mg "added" = some (.ref a_added)
  b_added : Binds K d_added ["one", "other"] []
  a_lessened : Addr
  d_lessened : FuncData
  F_lessened : Fun K "lessened" "lessened" s_lessened a_lessened d_lessened
  g_lessened : mg "lessened" = some (.ref a_lessened)
  b_lessened : Binds K d_lessened ["one", "other"] []
  a_is_shares : Addr
  d_is_shares : FuncData
  F_is_shares : Fun K "is_shares" "is_shares" s_is_shares a_is_shares d_is_shares
  g_is_shares : mg "is_shares" = some (.ref a_is_shares)
  b_is_shares : Binds K d_is_shares ["thing"] []
  a_check_shares : Addr
  d_check_shares : FuncData
  F_check_shares : Fun K "check_shares" "check_shares" s_check_shares a_check_shares d_check_shares
  g_check_shares : mg "check_shares" = some (.ref a_check_shares)
  b_check_shares : Binds K d_check_shares ["thing"] []
  a_all_kinds : Addr
  d_all_kinds : FuncData
  F_all_kinds : Fun K "all_kinds" "all_kinds" s_all_kinds a_all_kinds d_all_kinds
  g_all_kinds : mg "all_kinds" = some (.ref a_all_kinds)
  b_all_kinds : Binds K d_all_kinds ["shares"] []
  a_all_some : Addr
  d_all_some : FuncData
  F_all_some : Fun K "all_some" "all_some" s_all_some a_all_some d_all_some
  g_all_some : mg "all_some" = some (.ref a_all_some)
  b_all_some : Binds K d_all_some ["kinds"] []
  a_share_of : Addr
  d_share_of : FuncData
  F_share_of : Fun K "share_of" "share_of" s_share_of a_share_of d_share_of
  g_share_of : mg "share_of" = some (.ref a_share_of)
  b_share_of : Binds K d_share_of ["shares", "some"] []
  a_mean_all : Addr
  d_mean_all : FuncData
  F_mean_all : Fun K "mean_all" "mean_all" s_mean_all a_mean_all d_mean_all
  g_mean_all : mg "mean_all" = some (.ref a_mean_all)
  b_mean_all : Binds K d_mean_all ["shares"] []
  a__law_cell : Addr
  d__law_cell : FuncData
  F__law_cell : Fun K "_law_cell" "_law_cell" s__law_cell a__law_cell d__law_cell
  g__law_cell : mg "_law_cell" = some (.ref a__law_cell)
  b__law_cell : Binds K d__law_cell ["_law_script", "_law_k"] []
  a__law_mix : Addr
  d__law_mix : FuncData
  F__law_mix : Fun K "_law_mix" "_law_mix" s__law_mix a__law_mix d__law_mix
  g__law_mix : mg "_law_mix" = some (.ref a__law_mix)
  b__law_mix : Binds K d__law_mix ["_law_cell_here", "_law_k"] []
  a__law_box : Addr
  d__law_box : FuncData
  F__law_box : Fun K "_law_box" "_law_box" s__law_box a__law_box d__law_box
  g__law_box : mg "_law_box" = some (.ref a__law_box)
  b__law_box : Binds K d__law_box ["_law_script", "_law_k"] []
  a__law_take : Addr
  d__law_take : FuncData
  F__law_take : Fun K "_law_take" "_law_take" s__law_take a__law_take d__law_take
  g__law_take : mg "_law_take" = some (.ref a__law_take)
  b__law_take : Binds K d__law_take ["_law_box_here", "_law_many"] []
  a__law_drawn_shares : Addr
  d__law_drawn_shares : FuncData
  F__law_drawn_shares : Fun K "_law_drawn_shares" "_law_drawn_shares" s__law_drawn_shares a__law_drawn_shares d__law_drawn_shares
  g__law_drawn_shares : mg "_law_drawn_shares" = some (.ref a__law_drawn_shares)
  b__law_drawn_shares : Binds K d__law_drawn_shares ["_law_box_here", "_law_most", "_law_top"] []
  a__law_common : Addr
  d__law_common : FuncData
  F__law_common : Fun K "_law_common" "_law_common" s__law_common a__law_common d__law_common
  g__law_common : mg "_law_common" = some (.ref a__law_common)
  b__law_common : Binds K d__law_common ["_law_one", "_law_other"] []
  a__law_made : Addr
  d__law_made : FuncData
  F__law_made : Fun K "_law_made" "_law_made" s__law_made a__law_made d__law_made
  g__law_made : mg "_law_made" = some (.ref a__law_made)
  b__law_made : Binds K d__law_made ["_law_top", "_law_bottom"] []
  a__law_plus : Addr
  d__law_plus : FuncData
  F__law_plus : Fun K "_law_plus" "_law_plus" s__law_plus a__law_plus d__law_plus
  g__law_plus : mg "_law_plus" = some (.ref a__law_plus)
  b__law_plus : Binds K d__law_plus ["_law_one", "_law_other"] []
  a__law_all_some : Addr
  d__law_all_some : FuncData
  F__law_all_some : Fun K "_law_all_some" "_law_all_some" s__law_all_some a__law_all_some d__law_all_some
  g__law_all_some : mg "_law_all_some" = some (.ref a__law_all_some)
  b__law_all_some : Binds K d__law_all_some ["_law_many"] []
  a__law_paper : Addr
  d__law_paper : FuncData
  F__law_paper : Fun K "_law_paper" "_law_paper" s__law_paper a__law_paper d__law_paper
  g__law_paper : mg "_law_paper" = some (.ref a__law_paper)
  b__law_paper : Binds K d__law_paper ["_law_shares"] []
  a_law : Addr
  d_law : FuncData
  F_law : Fun K "law" "law" s_law a_law d_law
  g_law : mg "law" = some (.ref a_law)
  b_law : Binds K d_law ["_law_script"] []
  m_isinstance : mg "isinstance" = none
  m_int : mg "int" = none
  m_bool : mg "bool" = none
  m_abs : mg "abs" = none
  m_tuple : mg "tuple" = none
  m_len : mg "len" = none
  m_all : mg "all" = none
  m_range : mg "range" = none
  m_sum : mg "sum" = none
  m_divmod : mg "divmod" = none
  m_max : mg "max" = none
  m_min : mg "min" = none
  m_repr : mg "repr" = none
  t_MOST_KINDS : Tok
  c_MOST_KINDS : mg "MOST_KINDS" = some (.int 5 t_MOST_KINDS)
  t_MOST_SHARE : Tok
  c_MOST_SHARE : mg "MOST_SHARE" = some (.int 9 t_MOST_SHARE)
section
variable {P : Program} {w : World} {K : PySem.W.Frag} {mg : Str → Option Value} {base : Heap}
theorem ok_is_whole (T : Tx K mg) : FnOk P w K mg base CX0 1 T.a_is_whole T.d_is_whole ["thing"] (sp_is_whole K) := by
  refine T.F_is_whole.ok sc_is_whole (fun vs H Q E h => ?_) (fun cdv A outer s H vs Q E hr h => ?_)
  · obtain ⟨x, rfl, _⟩ := h; rfl
  obtain ⟨x, rfl, hx, q⟩ := h
  refine ⟨_, (pss_one (ps_ret (pe_and (pe_callB (r := rIsi K) call_isi (by rfl) T.m_isinstance bt_isinstance (pa_cons (pv 0) (pa_cons (pe_bltn (v := .ty "int") (by rfl) T.m_int bt_int rfl) pa_nil))) (pe_one (pe_not (pe_callB (r := rIsi K) call_isi (by rfl) T.m_isinstance bt_isinstance (pa_cons (pv 0) (pa_cons (pe_bltn (v := .ty "bool") (by rfl) T.m_bool bt_bool rfl) pa_nil)))))))), ?_⟩
  cases x with
  | non => exact ⟨_, rfl, _, _, _, _, false, rfl, .ty "int", .base .non, kit_ty (by decide +kernel), false, rfl, iteF q⟩
  | str y => exact ⟨_, rfl, _, _, _, _, false, rfl, .ty "int", .base (.str y), kit_ty (by decide +kernel), false, rfl, iteF q⟩
  | int i => exact ⟨_, rfl, _, _, _, _, true, rfl, .ty "int", .base (.int i), kit_ty (by decide +kernel), true, rfl, iteT ⟨_, rfl, _, _, _, _, false, rfl, .ty "bool", .base (.int i), kit_ty (by decide +kernel), false, rfl, q⟩⟩
  | bl y => exact ⟨_, rfl, _, _, _, _, true, rfl, .ty "int", .base (.bl y), kit_ty (by decide +kernel), true, rfl, iteT ⟨_, rfl, _, _, _, _, true, rfl, .ty "bool", .base (.bl y), kit_ty (by decide +kernel), true, rfl, q⟩⟩
  | ref a =>
    rcases hx with ⟨y, z⟩ | ⟨y, z⟩ | ⟨y, z⟩
    · exact ⟨_, rfl, _, _, _, _, false, rfl, .ty "int", .base (.lst z), kit_ty (by decide +kernel), false, rfl, iteF q⟩
    · exact ⟨_, rfl, _, _, _, _, false, rfl, .ty "int", .base (.tup z), kit_ty (by decide +kernel), false, rfl, iteF q⟩
    · exact ⟨_, rfl, _, _, _, _, false, rfl, .ty "int", .base (.dK z), kit_ty (by decide +kernel), false, rfl, iteF q⟩
  | byt y => exact hx.elim
  | flt y => exact hx.elim
  | ty y => exact hx.elim

theorem ok_is_whole_within (T : Tx K mg) : FnOk P w K mg base CX0 2 T.a_is_whole_within T.d_is_whole_within ["thing", "least", "most"] (sp_is_whole_within K) := by
  refine T.F_is_whole_within.ok sc_is_whole_within (fun vs H Q E h => ?_) (fun cdv A outer s H vs Q E hr h => ?_)
  · obtain ⟨x, lo, hi, rfl, _⟩ := h; rfl
  obtain ⟨x, lo, hi, rfl, hx, q⟩ := h
  refine ⟨_, (pss_one (ps_ret (pe_and (pe_call (ok_is_whole T) (hr.mono (by decide)) (by rfl) T.g_is_whole T.F_is_whole.kp T.b_is_whole .nil pass0 (pa_cons (pv 0) pa_nil)) (pe_one (pe_chain op_le op_le (pv 1) (pv 0) (pv 2)))))), ?_⟩
  refine ⟨x, rfl, x, rfl, hx, whole x, rfl, ?_⟩
  cases x with
  | int i =>
    refine iteT ⟨_, rfl, _, rfl, lo, i, rfl, rfl, _, rfl, ?_⟩
    have q : Q (.bl (decide (lo ≤ i) && decide (i ≤ hi))) H := q
    by_cases h1 : lo ≤ i
    · rw [decide_eq_true h1] at q ⊢
      exact iteT ⟨_, rfl, i, hi, rfl, rfl, q⟩
    · rw [decide_eq_false h1] at q ⊢
      exact iteF q
  | _ => exact iteF q

theorem ok_greatest_divisor (T : Tx K mg) : FnOk P w K mg base CX0 1 T.a_greatest_divisor T.d_greatest_divisor ["top", "bottom"] sp_greatest_divisor := by
  refine T.F_greatest_divisor.ok sc_greatest_divisor (fun vs H Q E h => ?_) (fun cdv A outer s H vs Q E hr h => ?_)
  · obtain ⟨a, b, rfl, _⟩ := h; rfl
  obtain ⟨a, b, rfl, hb, q⟩ := h
  refine ⟨_, (pss_cons (ps_par (i := 2) (j := 3) (by rfl) sc_greatest_divisor.nd rfl rfl (by decide) rfl rfl (pa_cons (pe_callB call_abs (by rfl) T.m_abs bt_abs (pa_cons (pv 0) pa_nil)) (pa_cons (pv 1) pa_nil)) (by rfl))
      (pss_cons (ps_while PassesOwn.never (pt_cmpR op_gt (pv 3) pe_int (nomark _)) (pss_one (ps_par (i := 2) (j := 3) (by rfl) sc_greatest_divisor.nd rfl rfl (by decide) rfl rfl (pa_cons (pv 3) (pa_cons (pe_op op_mod (pv 2) (pv 3)) pa_nil)) (by rfl))))
      (pss_one (ps_ret (pv 2))))), ?_⟩
  refine ⟨_, rfl, a, rfl, _, rfl, _, _, rfl, ?_⟩
  refine while_by (fun σ H' => ∃ x y : Int, σ = [some (.int a), some (.int b), some (.int x), some (.int y)] ∧ 0 ≤ x ∧ 0 ≤ y ∧ Int.gcd x y = Int.gcd a b ∧ H' = H) (fun σ _ => match σ with | [_, _, _, some (.int y)] => y.toNat | _ => 0) ?_ ?_ ?_
  · refine ⟨_, b, rfl, ?_, hb, ?_, rfl⟩
    · rw [abs_eq]; omega
    · rw [abs_eq]; rfl
  · rintro σ H' ⟨x, y, rfl, hx, hy, e, rfl⟩
    refine ⟨_, rfl, _, _, rfl, rfl, _, rfl, ?_⟩
    by_cases h0 : 0 < y
    · rw [decide_eq_true h0]
      refine iteT ⟨_, rfl, _, rfl, _, rfl, x, y, rfl, rfl, h0, _, _, rfl, ⟨y, x % y, rfl, hy, Int.emod_nonneg _ (by omega), ?_, rfl⟩, ?_⟩
      · rw [gcd_step x y hx (by omega), e]
      · show (x % y).toNat < y.toNat
        have := Int.emod_lt_of_pos x (show 0 < y by omega)
        omega
    · rw [decide_eq_false h0]
      have e0 : y = 0 := by omega
      subst e0
      refine iteF ⟨_, rfl, ?_⟩
      rw [Int.gcd_zero_right] at e
      have e2 : x = (Int.gcd a b : Int) := by omega
      rw [e2]
      exact q
  · rintro σ H' Q Q' m ⟨v, h1, i, j, h2, h3, k, h4, h5⟩
    exact ⟨v, h1, i, j, h2, h3, k, h4, m _ _ h5⟩

theorem ok_is_fraction (T : Tx K mg) : FnOk P w K mg base CX0 2 T.a_is_fraction T.d_is_fraction ["thing"] (spIsFr K) := by
  refine T.F_is_fraction.ok sc_is_fraction (fun vs H Q E h => ?_) (fun cdv A outer s H vs Q E hr h => ?_)
  · obtain ⟨x, rfl, _⟩ := h; rfl
  obtain ⟨x, rfl, ht, q⟩ := h
  refine ⟨_, (pss_cons (ps_if (PW.pt (pw_or (pt_not (pt_val (pe_callB (r := rIsi K) call_isi (by rfl) T.m_isinstance bt_isinstance (pa_cons (pv 0) (pa_cons (pe_bltn (v := .ty "tuple") (by rfl) T.m_tuple bt_tuple rfl) pa_nil))))) (pw_or1 (pt_cmpR op_ne (pe_callB (r := Evl.rLenS K) call_len_seq (by rfl) T.m_len bt_len (pa_cons (pv 0) pa_nil)) pe_int (nomark _))))) (pss_one (ps_ret pe_bl)) pss_nil)
      (pss_cons (ps_asg (pv 0) (pg_tup (by rfl) (pgs_cons (pg_name (i := 1) sc_is_fraction.nd rfl (Or.inl rfl)) (pgs_cons (pg_name (i := 2) sc_is_fraction.nd rfl (Or.inl rfl)) pgs_nil))))
      (pss_cons (ps_if (PW.pt (pw_or (pt_not (pt_val (pe_call (ok_is_whole T) (hr.mono (by decide)) (by rfl) T.g_is_whole T.F_is_whole.kp T.b_is_whole .nil pass0 (pa_cons (pv 1) pa_nil)))) (pw_or (pt_not (pt_val (pe_call (ok_is_whole T) (hr.mono (by decide)) (by rfl) T.g_is_whole T.F_is_whole.kp T.b_is_whole .nil pass0 (pa_cons (pv 2) pa_nil)))) (pw_or1 (pt_cmpR op_lt (pv 2) pe_int (nomark _)))))) (pss_one (ps_ret pe_bl)) pss_nil)
      (pss_one (ps_ret (pe_cmpR op_eq (pe_call (ok_greatest_divisor T) (hr.mono (by decide)) (by rfl) T.g_greatest_divisor T.F_greatest_divisor.kp T.b_greatest_divisor .nil pass0 (pa_cons (pv 1) (pa_cons (pv 2) pa_nil))) pe_int (nomark _))))))), ?_⟩
  rcases ht with ⟨a, xs, rfl, ha, hk⟩ | hn
  · rw [isFr_tup ha] at q
    obtain ⟨t, u, c1, c2, c3⟩ := isi_tup (K := K) ha
    refine ⟨_, rfl, _, _, t, u, true, rfl, c1, c2, c3, _, rfl, iteF ?_⟩
    refine ⟨_, rfl, a, xs, rfl, .inr (.inl (.inl ha)), rfl, _, rfl, ?_⟩
    by_cases h2 : xs.length = 2
    · match xs, h2, ha, hk, q with
      | [x, y], _, ha, hk, q =>
        refine iteF ⟨_, rfl, a, _, rfl, .inl (.inl ha), rfl, _, _, rfl, _, _, rfl, rfl, ?_⟩
        have kx : Kn K H x := hk x (by simp)
        have ky : Kn K H y := hk y (by simp)
        refine ⟨_, rfl, x, rfl, kx, _, rfl, ?_⟩
        cases hx : whole x with
        | false =>
          refine iteT (iteT ?_)
          rw [frB_not (.inl hx)] at q
          exact q
        | true =>
          refine iteF ⟨_, rfl, y, rfl, ky, _, rfl, ?_⟩
          cases hy : whole y with
          | false =>
            refine iteT (iteT ?_)
            rw [frB_not (.inr hy)] at q
            exact q
          | true =>
            cases x with
            | int i =>
              cases y with
              | int j =>
                refine iteF ⟨_, rfl, j, 1, rfl, rfl, _, rfl, ?_⟩
                by_cases hj : 1 ≤ j
                · rw [decide_eq_false (show ¬ j < 1 by omega)]
                  refine iteF ⟨_, rfl, _, rfl, i, j, rfl, by omega, rfl, ?_⟩
                  have e : frB [.int i, .int j] = decide (V.int (Int.gcd i j : Int) = V.int 1) := by
                    show (decide (1 ≤ j) && decide (Int.gcd i j = 1)) = _
                    rw [decide_eq_true hj, Bool.true_and]
                    by_cases g : Int.gcd i j = 1
                    · rw [g]; rfl
                    · rw [decide_eq_false g, decide_eq_false (fun z => g (by have := V.int.inj z; omega))]
                  rw [e] at q
                  exact q
                · rw [decide_eq_true (show j < 1 by omega)]
                  refine iteT ?_
                  have e : frB [.int i, .int j] = false := by
                    show (decide (1 ≤ j) && decide (Int.gcd i j = 1)) = _
                    rw [decide_eq_false hj]; rfl
                  rw [e] at q
                  exact q
              | _ => exact nomatch hy
            | _ => exact nomatch hx
    · have e : (!decide (V.int (xs.length : Int) = V.int 2)) = true := by
        rw [decide_eq_false (fun z => h2 (by have := V.int.inj z; omega))]; rfl
      rw [e]
      refine iteT ?_
      rw [frB_len h2] at q
      exact q
  · obtain ⟨t, u, c1, c2, c3⟩ := isi_not (K := K) hn
    refine ⟨_, rfl, _, _, t, u, false, rfl, c1, c2, c3, _, rfl, iteT (iteT ?_)⟩
    rw [isFr_not hn] at q
    exact q

theorem ok_lowest (T : Tx K mg) : FnOk P w K mg base CX0 2 T.a_lowest T.d_lowest ["top", "bottom"] spLow := by
  refine T.F_lowest.ok sc_lowest (fun vs H Q E h => ?_) (fun cdv A outer s H vs Q E hr h => ?_)
  · obtain ⟨a, b, rfl, _⟩ := h; rfl
  obtain ⟨t, b, rfl, hb, hl, q⟩ := h
  refine ⟨_, (pss_cons (ps_if (pt_not (pt_val (pe_call (ok_is_whole T) (hr.mono (by decide)) (by rfl) T.g_is_whole T.F_is_whole.kp T.b_is_whole .nil pass0 (pa_cons (pv 0) pa_nil)))) (pss_one ps_never) pss_nil)
      (pss_cons (ps_if (PW.pt (pw_or (pt_not (pt_val (pe_call (ok_is_whole T) (hr.mono (by decide)) (by rfl) T.g_is_whole T.F_is_whole.kp T.b_is_whole .nil pass0 (pa_cons (pv 1) pa_nil)))) (pw_or1 (pt_cmpR op_lt (pv 1) pe_int (nomark _))))) (pss_one ps_never) pss_nil)
      (pss_cons (ps_set (i := 2) sc_lowest.nd rfl (Or.inl rfl) (pe_call (ok_greatest_divisor T) (hr.mono (by decide)) (by rfl) T.g_greatest_divisor T.F_greatest_divisor.kp T.b_greatest_divisor .nil pass0 (pa_cons (pv 0) (pa_cons (pv 1) pa_nil))))
      (pss_one (ps_ret (pe_tup (pa_cons (pe_op op_fdivW (pv 0) (pv 2)) (pa_cons (pe_op op_fdivW (pv 1) (pv 2)) pa_nil)))))))), ?_⟩
  refine ⟨_, rfl, _, rfl, trivial, true, rfl, iteF ?_⟩
  refine ⟨_, rfl, _, rfl, trivial, true, rfl, iteF ⟨_, rfl, b, 1, rfl, rfl, _, rfl, ?_⟩⟩
  rw [decide_eq_false (show ¬ b < 1 by omega)]
  refine iteF ⟨_, rfl, _, rfl, t, b, rfl, (by omega), ?_⟩
  refine ⟨_, rfl, _, rfl, t, _, rfl, rfl, gcd_div hb hl, _, rfl, _, rfl, b, _, rfl, rfl, gcd_div hb hl, sz2, fun p hp => ?_⟩
  exact q _ p (same_new hp) hp upd_same

theorem ok_check_fractions (T : Tx K mg) : FnOk P w K mg base CX0 3 T.a_check_fractions T.d_check_fractions ["one", "other"] spChkFr := by
  refine T.F_check_fractions.ok sc_check_fractions (fun vs H Q E h => ?_) (fun cdv A outer s H vs Q E hr h => ?_)
  · obtain ⟨p, q, a, b, c, d, rfl, _⟩ := h; rfl
  obtain ⟨p, q', a, b, c, d, rfl, ep, eq, f1, f2, q⟩ := h
  refine ⟨_, (pss_cons (ps_if (pt_not (pt_val (pe_call (ok_is_fraction T) (hr.mono (by decide)) (by rfl) T.g_is_fraction T.F_is_fraction.kp T.b_is_fraction .nil pass0 (pa_cons (pv 0) pa_nil)))) (pss_one ps_never) pss_nil)
      (pss_one (ps_if (pt_not (pt_val (pe_call (ok_is_fraction T) (hr.mono (by decide)) (by rfl) T.g_is_fraction T.F_is_fraction.kp T.b_is_fraction .nil pass0 (pa_cons (pv 1) pa_nil)))) (pss_one ps_never) pss_nil))), ?_⟩
  refine ⟨_, rfl, _, rfl, thing_two ep, ?_⟩
  rw [f1.is ep]
  refine ⟨true, rfl, iteF ⟨_, rfl, _, rfl, thing_two eq, ?_⟩⟩
  rw [f2.is eq]
  exact ⟨true, rfl, iteF q⟩

theorem ok_added (T : Tx K mg) : FnOk P w K mg base CX0 4 T.a_added T.d_added ["one", "other"] spAdded := by
  refine T.F_added.ok sc_added (fun vs H Q E h => ?_) (fun cdv A outer s H vs Q E hr h => ?_)
  · obtain ⟨p, q, a, b, c, d, rfl, _⟩ := h; rfl
  obtain ⟨p, q', a, b, c, d, rfl, ep, eq, f1, f2, q⟩ := h
  refine ⟨_, (pss_cons (ps_expr (pe_call (ok_check_fractions T) (hr.mono (by decide)) (by rfl) T.g_check_fractions T.F_check_fractions.kp T.b_check_fractions .nil pass0 (pa_cons (pv 0) (pa_cons (pv 1) pa_nil))))
      (pss_one (ps_ret (pe_call (ok_lowest T) (hr.mono (by decide)) (by rfl) T.g_lowest T.F_lowest.kp T.b_lowest .nil pass0 (pa_cons (pe_op op_add (pe_op op_mulW (pe_ix (r := rIxT K) ix_tup (pv 0) pe_int (fun _ _ => rfl)) (pe_ix (r := rIxT K) ix_tup (pv 1) pe_int (fun _ _ => rfl))) (pe_op op_mulW (pe_ix (r := rIxT K) ix_tup (pv 1) pe_int (fun _ _ => rfl)) (pe_ix (r := rIxT K) ix_tup (pv 0) pe_int (fun _ _ => rfl)))) (pa_cons (pe_op op_mulW (pe_ix (r := rIxT K) ix_tup (pv 0) pe_int (fun _ _ => rfl)) (pe_ix (r := rIxT K) ix_tup (pv 1) pe_int (fun _ _ => rfl))) pa_nil)))))), ?_⟩
  have s1 : SqT K H p [.int a, .int b] := .inl (.inl ep)
  have s2 : SqT K H q' [.int c, .int d] := .inl (.inl eq)
  refine ⟨_, rfl, _, rfl, p, q', a, b, c, d, rfl, ep, eq, f1, f2, ?_⟩
  refine ⟨_, rfl, p, _, 0, .int a, rfl, rfl, s1, rfl, _, rfl, q', _, 1, .int d, rfl, rfl, s2, rfl, a, d, rfl, rfl, mulW f1.2.2.1 f2.2.2.2, ?_⟩
  refine ⟨_, rfl, q', _, 0, .int c, rfl, rfl, s2, rfl, _, rfl, p, _, 1, .int b, rfl, rfl, s1, rfl, c, b, rfl, rfl, mulW f2.2.2.1 f1.2.2.2, _, _, rfl, rfl, ?_⟩
  refine ⟨_, rfl, p, _, 1, .int b, rfl, rfl, s1, rfl, _, rfl, q', _, 1, .int d, rfl, rfl, s2, rfl, b, d, rfl, rfl, mulW f1.2.2.2 f2.2.2.2, ?_⟩
  exact ⟨_, _, rfl, pos_prod f1.1 f2.1, log_prod f1.2.2.2 f2.2.2.2, q⟩

theorem ok_lessened (T : Tx K mg) : FnOk P w K mg base CX0 4 T.a_lessened T.d_lessened ["one", "other"] spLessened := by
  refine T.F_lessened.ok sc_lessened (fun vs H Q E h => ?_) (fun cdv A outer s H vs Q E hr h => ?_)
  · obtain ⟨p, q, a, b, c, d, rfl, _⟩ := h; rfl
  obtain ⟨p, q', a, b, c, d, rfl, ep, eq, f1, f2, q⟩ := h
  refine ⟨_, (pss_cons (ps_expr (pe_call (ok_check_fractions T) (hr.mono (by decide)) (by rfl) T.g_check_fractions T.F_check_fractions.kp T.b_check_fractions .nil pass0 (pa_cons (pv 0) (pa_cons (pv 1) pa_nil))))
      (pss_one (ps_ret (pe_call (ok_lowest T) (hr.mono (by decide)) (by rfl) T.g_lowest T.F_lowest.kp T.b_lowest .nil pass0 (pa_cons (pe_op op_sub (pe_op op_mulW (pe_ix (r := rIxT K) ix_tup (pv 0) pe_int (fun _ _ => rfl)) (pe_ix (r := rIxT K) ix_tup (pv 1) pe_int (fun _ _ => rfl))) (pe_op op_mulW (pe_ix (r := rIxT K) ix_tup (pv 1) pe_int (fun _ _ => rfl)) (pe_ix (r := rIxT K) ix_tup (pv 0) pe_int (fun _ _ => rfl)))) (pa_cons (pe_op op_mulW (pe_ix (r := rIxT K) ix_tup (pv 0) pe_int (fun _ _ => rfl)) (pe_ix (r := rIxT K) ix_tup (pv 1) pe_int (fun _ _ => rfl))) pa_nil)))))), ?_⟩
  have s1 : SqT K H p [.int a, .int b] := .inl (.inl ep)
  have s2 : SqT K H q' [.int c, .int d] := .inl (.inl eq)
  refine ⟨_, rfl, _, rfl, p, q', a, b, c, d, rfl, ep, eq, f1, f2, ?_⟩
  refine ⟨_, rfl, p, _, 0, .int a, rfl, rfl, s1, rfl, _, rfl, q', _, 1, .int d, rfl, rfl, s2, rfl, a, d, rfl, rfl, mulW f1.2.2.1 f2.2.2.2, ?_⟩
  refine ⟨_, rfl, q', _, 0, .int c, rfl, rfl, s2, rfl, _, rfl, p, _, 1, .int b, rfl, rfl, s1, rfl, c, b, rfl, rfl, mulW f2.2.2.1 f1.2.2.2, _, _, rfl, rfl, ?_⟩
  refine ⟨_, rfl, p, _, 1, .int b, rfl, rfl, s1, rfl, _, rfl, q', _, 1, .int d, rfl, rfl, s2, rfl, b, d, rfl, rfl, mulW f1.2.2.2 f2.2.2.2, ?_⟩
  exact ⟨_, _, rfl, pos_prod f1.1 f2.1, log_prod f1.2.2.2 f2.2.2.2, q⟩

theorem ok_is_shares (T : Tx K mg) : FnOk P w K mg base CX0 3 T.a_is_shares T.d_is_shares ["thing"] (spShares K) := by
  refine T.F_is_shares.ok sc_is_shares (fun vs H Q E h => ?_) (fun cdv A outer s H vs Q E hr h => ?_)
  · obtain ⟨x, rfl, _⟩ := h; rfl
  obtain ⟨x, rfl, ht, q⟩ := h
  refine ⟨_, (pss_cons (ps_if (PW.pt (pw_or (pt_not (pt_val (pe_callB (r := rIsi K) call_isi (by rfl) T.m_isinstance bt_isinstance (pa_cons (pv 0) (pa_cons (pe_bltn (v := .ty "tuple") (by rfl) T.m_tuple bt_tuple rfl) pa_nil))))) (pw_or1 (pt_not (pt_chain op_le op_le pe_int (pe_callB (r := Evl.rLenS K) call_len_seq (by rfl) T.m_len bt_len (pa_cons (pv 0) pa_nil)) (pe_glob (v := .int 5) rfl T.c_MOST_KINDS ⟨_, rfl⟩)))))) (pss_one (ps_ret pe_bl)) pss_nil)
      (pss_one (ps_ret (pe_callB (r := rAll K) (cr_all rfl) (by rfl) T.m_all bt_all (pa_cons (pe_lc (own := [("share", 1)]) (g := gName 1) (tt := tYes) rfl sc_is_shares.nd (pi_tup (pv 0)) (blkOk_by (N := ["thing", "share"]) (sc := defScope s_is_shares) (by decide +kernel)) (fun _ _ _ _ _ => (pg_name (i := 1) sc_is_shares.nd rfl (Or.inl rfl))) (fun _ _ _ _ _ => pts_nil) (fun _ _ _ _ _ => (pe_call (ok_is_whole_within T) (hr.mono (by decide)) (by rfl) T.g_is_whole_within T.F_is_whole_within.kp T.b_is_whole_within .nil pass0 (pa_cons (pv 1) (pa_cons pe_int (pa_cons (pe_glob (v := .int 9) rfl T.c_MOST_SHARE ⟨_, rfl⟩) pa_nil)))))) pa_nil))))), ?_⟩
  rcases ht with ⟨a, xs, rfl, ha, hk⟩ | hn
  · have e0 : isShs H (.ref a) = shs xs := by simp only [isShs, ha]
    rw [e0] at q
    obtain ⟨t, u, c1, c2, c3⟩ := isi_tup (K := K) ha
    refine ⟨_, rfl, _, _, t, u, true, rfl, c1, c2, c3, _, rfl, iteF ?_⟩
    refine ⟨_, rfl, a, xs, rfl, .inr (.inl (.inl ha)), 1, _, rfl, rfl, _, rfl, ?_⟩
    by_cases h1 : 1 ≤ xs.length
    · rw [decide_eq_true (show (1 : Int) ≤ (xs.length : Int) by omega)]
      refine iteT ⟨_, 5, rfl, rfl, _, rfl, ?_⟩
      by_cases h5 : xs.length ≤ 5
      · rw [decide_eq_true (show (xs.length : Int) ≤ 5 by omega)]
        refine iteF ⟨_, rfl, a, rfl, ⟨xs, .inl (.inl ha)⟩, fun D hD => ?_⟩
        refine lc_tup (xs := xs) (fun i H' => Same H H' ∧ H' D = some (.lst ((xs.take i).map fun y => .bl (within 1 9 y)))) ⟨same_new hD, upd_same⟩ (fun i H' _ h => .inl (.inl (h.1 a _ ha))) ?_ ?_
        · rintro i y H' hi ⟨sm, eD⟩
          refine ⟨rfl, yesT ⟨_, rfl, y, 1, 9, rfl, (hk y (List.mem_of_getElem? hi)).mono sm, _, eD, ?_, ?_, ?_⟩⟩
          · rw [List.length_map, List.length_take]; exact small1000 (by omega)
          · intro b o eb
            rw [upd_ne (ne_of_none eb hD)]
            exact sm b o eb
          · rw [upd_same, List.take_add_one, hi, List.map_append]
            rfl
        · rintro H' ⟨sm, eD⟩
          rw [List.take_length] at eD
          refine ⟨D, xs.map (within 1 9), rfl, .inl (.inl ?_), ?_⟩
          · rw [eD, List.map_map]; rfl
          · have e1 : shs xs = (xs.map (within 1 9)).all id := by
              unfold shs
              rw [decide_eq_true h1, decide_eq_true h5, List.all_map]
              rfl
            rw [e1] at q
            exact q _ sm
      · rw [decide_eq_false (show ¬ (xs.length : Int) ≤ 5 by omega)]
        refine iteT ?_
        have e1 : shs xs = false := by
          unfold shs
          rw [decide_eq_false h5, Bool.and_false]; rfl
        rw [e1] at q
        exact q _ (Same.refl _)
    · rw [decide_eq_false (show ¬ (1 : Int) ≤ (xs.length : Int) by omega)]
      refine iteF ⟨_, rfl, iteT ?_⟩
      have e1 : shs xs = false := by
        unfold shs
        rw [decide_eq_false h1]; rfl
      rw [e1] at q
      exact q _ (Same.refl _)
  · obtain ⟨t, u, c1, c2, c3⟩ := isi_not (K := K) hn
    refine ⟨_, rfl, _, _, t, u, false, rfl, c1, c2, c3, _, rfl, iteT (iteT ?_)⟩
    rw [isShs_not hn] at q
    exact q _ (Same.refl _)

theorem ok_check_shares (T : Tx K mg) : FnOk P w K mg base CX0 4 T.a_check_shares T.d_check_shares ["thing"] (spChk K) := by
  refine T.F_check_shares.ok sc_check_shares (fun vs H Q E h => ?_) (fun cdv A outer s H vs Q E hr h => ?_)
  · obtain ⟨x, rfl, _⟩ := h; rfl
  obtain ⟨x, rfl, ht, hs, q⟩ := h
  refine ⟨_, (pss_one (ps_if (pt_not (pt_val (pe_call (ok_is_shares T) (hr.mono (by decide)) (by rfl) T.g_is_shares T.F_is_shares.kp T.b_is_shares .nil pass0 (pa_cons (pv 0) pa_nil)))) (pss_one ps_never) pss_nil)), ?_⟩
  refine ⟨_, rfl, x, rfl, ht, fun H1 sm => ?_⟩
  rw [hs]
  exact ⟨true, rfl, iteF (q _ sm)⟩

theorem ok_all_kinds (T : Tx K mg) : FnOk P w K mg base CX0 1 T.a_all_kinds T.d_all_kinds ["shares"] spAllKinds := by
  refine T.F_all_kinds.ok sc_all_kinds (fun vs H Q E h => ?_) (fun cdv A outer s H vs Q E hr h => ?_)
  · obtain ⟨a, ns, rfl, _⟩ := h; rfl
  obtain ⟨a, ns, rfl, hA, hl, q⟩ := h
  refine ⟨_, (pss_one (ps_ret (pe_tupRg rfl (by rfl) T.m_tuple (prg_1 (by rfl) T.m_range (pe_callB (r := Evl.rLenS K) call_len_seq (by rfl) T.m_len bt_len (pa_cons (pv 0) pa_nil)))))), ?_⟩
  refine ⟨_, rfl, a, ns, rfl, .inr (.inl (.inl hA)), _, rfl, RgOk.of_le (by omega) (by omega) (by omega) (by omega), fun p hp => ?_⟩
  rw [rgV_rg]
  exact q _ p (same_new hp) hp upd_same

theorem ok_all_some (T : Tx K mg) : FnOk P w K mg base CX0 1 T.a_all_some T.d_all_some ["kinds"] spAllSome := by
  refine T.F_all_some.ok sc_all_some (fun vs H Q E h => ?_) (fun cdv A outer s H vs Q E hr h => ?_)
  · obtain ⟨c, ks, rfl, _⟩ := h; rfl
  obtain ⟨c, ks, rfl, hC, hl, q⟩ := h
  refine ⟨_, (pss_cons (ps_set (i := 1) sc_all_some.nd rfl (Or.inl rfl) (pe_lst (pa_cons (pe_tup pa_nil) pa_nil)))
      (pss_cons (ps_for PassesOwn.never rfl (pi_tup (pv 0)) (pg_name (i := 2) sc_all_some.nd rfl (Or.inr rfl)) (pss_one (ps_set (i := 1) sc_all_some.nd rfl (Or.inl rfl) (pe_op (r := rCat) op_cat (pv 1) (pe_lc (own := [("some", 3)]) (g := gName 3) (tt := tYes) rfl sc_all_some.nd (pi_list (pv 1)) (blkOk_by (N := ["kinds", "found", "kind", "some"]) (sc := defScope s_all_some) (by decide +kernel)) (fun _ _ _ _ _ => (pg_name (i := 3) sc_all_some.nd rfl (Or.inl rfl))) (fun _ _ _ _ _ => pts_nil) (fun _ _ _ _ _ => (pe_op (r := rCatA K) op_catA (pv 3) (pe_tup (pa_cons (pv 2) pa_nil)))))))))
      (pss_one (ps_ret (pv 1))))), ?_⟩
  refine ⟨Nat.zero_le _, fun q0 h0 => ⟨sz1, fun L0 hL0 => ?_⟩⟩
  refine ⟨_, rfl, c, rfl, ⟨_, .inl (.inl (same_new hL0 _ _ (same_new h0 _ _ hC)))⟩, for_tup (xs := ks.map V.int) (fun i σ H' => ∃ L qs y1 y2, σ = [some (.ref c), some (.ref L), y1, y2] ∧ Same H H' ∧ H L = none ∧ H' L = some (.lst (qs.map V.ref)) ∧ Tups H' qs (allSub (ks.take i))) ?_ ?_ ?_ ?_⟩
  · exact ⟨L0, [q0], _, _, rfl, (same_new h0).trans (same_new hL0), (same_new h0).free hL0, upd_same, .cons (by exact same_new hL0 _ _ upd_same) .nil⟩
  · rintro i σ H' _ ⟨L, qs, y1, y2, rfl, sm, _⟩
    exact .inl (.inl (sm _ _ hC))
  · rintro i y σ H' hi ⟨L, qs, y1, y2, rfl, sm, hL, eL, tp⟩
    obtain ⟨k, hz, rfl, hm⟩ := map_at hi
    have hi' := (List.getElem?_eq_some_iff.mp hz).1
    have ql : qs.length = 2 ^ i := by
      rw [Paired.length tp, allSub_len i _ (by rw [List.length_take]; omega)]
    have ql2 : qs.length ≤ 32 := by
      rw [ql]
      exact Nat.pow_le_pow_right (by decide) (show i ≤ 5 by omega)
    refine ⟨_, rfl, _, rfl, L, rfl, ⟨_, .inl (.inl eL)⟩, fun D hD => ?_⟩
    have nDL : D ≠ L := fun z => by rw [z, eL] at hD; exact nomatch hD
    refine lc_list (xs := qs.map V.ref) (fun j H2 => ∃ rs : List Addr, LcI H' D (rs.map V.ref) H2 ∧ rs.length = j ∧ Tups H2 rs (((allSub (ks.take i)).take j).map (· ++ [k]))) ⟨[], ⟨same_new hD, upd_same⟩, rfl, .nil⟩ (fun j H2 _ ⟨rs, h, _⟩ => .inl (.inl (h.1 L _ eL))) ?_ ?_
    · rintro j y H2 hj ⟨rs, h, hrl, tr⟩
      obtain ⟨p, hp, rfl, hpm⟩ := ref_at hj
      obtain ⟨S, hS, eS⟩ := paired_at tp hp
      have hj' := (List.getElem?_eq_some_iff.mp hp).1
      refine ⟨rfl, yesT ⟨_, rfl, _, rfl, sz1, fun t ht => ?_⟩⟩
      have e2 : ((allSub (ks.take i)).take (j + 1)).map (· ++ [k]) = ((allSub (ks.take i)).take j).map (· ++ [k]) ++ [S ++ [k]] := by rw [take_step hS, List.map_append]; rfl
      rw [e2]
      have st : Same H2 (upd H2 t (.tup [.int k])) := same_new ht
      have sl : S.length ≤ 5 := by
        have := allSub_le i (ks.take i) (by rw [List.length_take]; omega) S (List.mem_of_getElem? hS)
        omega
      have rl : (rs.map V.ref).length ≤ 1000 := by rw [List.length_map, hrl]; omega
      refine ⟨p, t, _, _, rfl, rfl, .inl (.inl (st _ _ (h.1 _ _ eS))), .inl (.inl upd_same), ?_, fun he => ?_, fun _ he => (nomatch he), fun he _ r hr => ?_⟩
      · rw [List.length_map]; exact Nat.le_of_lt (small1000 (by show S.length + 1 ≤ 1000; omega))
      · have eS0 : S = [] := List.map_eq_nil_iff.mp he
        subst eS0
        obtain ⟨acc, a1, a2, a3⟩ := h.put (y := .ref t) hD rl st
        refine ⟨acc, a1, a2, rs ++ [t], by rw [List.map_append]; exact a3, by rw [List.length_append, hrl]; rfl, ?_⟩
        have ht2 : t ≠ D := fun z => by rw [z, h.2] at ht; exact nomatch ht
        refine Paired.snoc ((tr.mono st).upd a1) ?_
        rw [upd_ne ht2]; exact upd_same
      · have st2 := st.trans (same_new (o := .tup (S.map V.int ++ [.int k])) hr)
        obtain ⟨acc, a1, a2, a3⟩ := h.put (y := .ref r) hD rl st2
        refine ⟨acc, a1, a2, rs ++ [r], by rw [List.map_append]; exact a3, by rw [List.length_append, hrl]; rfl, ?_⟩
        have hr2 : r ≠ D := fun z => by rw [z, st _ _ h.2] at hr; exact nomatch hr
        refine Paired.snoc ((tr.mono st2).upd a1) ?_
        rw [upd_ne hr2, upd_same, List.map_append]; rfl
    · rintro H2 ⟨rs, h, hrl, tr⟩
      rw [List.length_map] at hrl tr
      rw [Paired.length tp, List.take_length] at tr
      refine ⟨L, D, _, _, rfl, rfl, h.1 _ _ eL, h.2, ?_, fun p hp => ?_⟩
      · rw [List.length_map, List.length_map, hrl]; exact Nat.le_of_lt (small1000 (by omega))
      have sp := same_new (o := .lst (qs.map V.ref ++ rs.map V.ref)) hp
      refine ⟨p, qs ++ rs, _, _, rfl, (sm.trans h.1).trans sp, (sm.trans h.1).free hp, ?_, ?_⟩
      · rw [upd_same, List.map_append]
      · rw [take_step hz, allSub_app]
        exact paired_app (tp.mono (h.1.trans sp)) (tr.mono sp)
  · rintro σ H' ⟨L, qs, y1, y2, rfl, sm, hL, eL, tp⟩
    rw [List.length_map, List.take_length] at tp
    exact ⟨_, rfl, q H' L qs sm hL eL tp⟩

theorem ok_share_of (T : Tx K mg) : FnOk P w K mg base CX0 1 T.a_share_of T.d_share_of ["shares", "some"] (spShareOf K) := by
  refine T.F_share_of.ok sc_share_of (fun vs H Q E h => ?_) (fun cdv A outer s H vs Q E hr h => ?_)
  · obtain ⟨a, c, ns, ks, rfl, _⟩ := h; rfl
  obtain ⟨a, c, ns, ks, rfl, hA, hC, hkl, hK, q⟩ := h
  refine ⟨_, (pss_one (ps_ret (pe_callB (r := KG.rSum2 K) (KG.call_sum rfl) (by rfl) T.m_sum bt_sum (pa_cons (pe_lc (own := [("kind", 2)]) (g := gName 2) (tt := tYes) rfl sc_share_of.nd (pi_tup (pv 1)) (blkOk_by (N := ["shares", "some", "kind"]) (sc := defScope s_share_of) (by decide +kernel)) (fun _ _ _ _ _ => (pg_name (i := 2) sc_share_of.nd rfl (Or.inl rfl))) (fun _ _ _ _ _ => pts_nil) (fun _ _ _ _ _ => (pe_ix (r := rIxT K) ix_tup (pv 0) (pv 2) (fun _ _ => rfl)))) pa_nil)))), ?_⟩
  refine ⟨_, rfl, c, rfl, ⟨_, .inl (.inl hC)⟩, fun D hD => ?_⟩
  refine lc_tup (xs := ks.map V.int) (fun i => LcI H D ((pick ns (ks.take i)).map V.int)) ⟨same_new hD, upd_same⟩ (fun i H' _ h => .inl (.inl (h.1 c _ hC))) ?_ ?_
  · rintro i y H' hi h
    obtain ⟨k, hz, rfl, hm⟩ := map_at hi
    have hk := hK k hm
    refine ⟨rfl, yesT ⟨_, rfl, _, rfl, a, _, k, _, rfl, rfl, .inl (.inl (h.1 a _ hA)), at_kind hk.1 hk.2, ?_⟩⟩
    have e : (pick ns (ks.take (i + 1))).map V.int = (pick ns (ks.take i)).map V.int ++ [V.int (ns.getD k.toNat 0)] := by rw [take_step hz, pick, pick, List.map_append, List.map_append]; rfl
    rw [e]
    exact h.put hD (by rw [List.length_map, pick, List.length_map, List.length_take]; omega) (Same.refl _)
  · rintro H3 h
    rw [List.length_map, List.take_length] at h
    exact ⟨D, pick ns ks, rfl, .inl (.inl (.inl h.2)), q _ h.1⟩

theorem ok_mean_all (T : Tx K mg) : FnOk P w K mg base CX0 5 T.a_mean_all T.d_mean_all ["shares"] spMeanAll := by
  refine T.F_mean_all.ok sc_mean_all (fun vs H Q E h => ?_) (fun cdv A outer s H vs Q E hr h => ?_)
  · obtain ⟨a, ns, rfl, _⟩ := h; rfl
  obtain ⟨a, ns, rfl, hA, g, q⟩ := h
  have hn := g.2.1
  have sp := g.sum_pos
  refine ⟨_, (pss_cons (ps_expr (pe_call (ok_check_shares T) (hr.mono (by decide)) (by rfl) T.g_check_shares T.F_check_shares.kp T.b_check_shares .nil pass0 (pa_cons (pv 0) pa_nil)))
      (pss_cons (ps_set (i := 1) sc_mean_all.nd rfl (Or.inl rfl) (pe_tup (pa_cons pe_int (pa_cons pe_int pa_nil))))
      (pss_cons (ps_for PassesOwn.never rfl (pi_list (pe_call (ok_all_some T) (hr.mono (by decide)) (by rfl) T.g_all_some T.F_all_some.kp T.b_all_some .nil pass0 (pa_cons (pe_call (ok_all_kinds T) (hr.mono (by decide)) (by rfl) T.g_all_kinds T.F_all_kinds.kp T.b_all_kinds .nil pass0 (pa_cons (pv 0) pa_nil)) pa_nil))) (pg_name (i := 2) sc_mean_all.nd rfl (Or.inl rfl)) (pss_one (ps_if (pt_cmpR op_eq (pe_op op_mod (pe_callB (r := Evl.rLenS K) call_len_seq (by rfl) T.m_len bt_len (pa_cons (pv 2) pa_nil)) pe_int) pe_int (nomark _)) (pss_one (ps_set (i := 1) sc_mean_all.nd rfl (Or.inl rfl) (pe_call (ok_added T) (hr.mono (by decide)) (by rfl) T.g_added T.F_added.kp T.b_added .nil pass0 (pa_cons (pv 1) (pa_cons (pe_call (ok_lowest T) (hr.mono (by decide)) (by rfl) T.g_lowest T.F_lowest.kp T.b_lowest .nil pass0 (pa_cons (pe_callB (r := KG.rSum2 K) (KG.call_sum rfl) (by rfl) T.m_sum bt_sum (pa_cons (pv 0) pa_nil)) (pa_cons (pe_call (ok_share_of T) (hr.mono (by decide)) (by rfl) T.g_share_of T.F_share_of.kp T.b_share_of .nil pass0 (pa_cons (pv 0) (pa_cons (pv 2) pa_nil))) pa_nil))) pa_nil))))) (pss_one (ps_if (pt_cmpR op_gt (pe_callB (r := Evl.rLenS K) call_len_seq (by rfl) T.m_len bt_len (pa_cons (pv 2) pa_nil)) pe_int (nomark _)) (pss_one (ps_set (i := 1) sc_mean_all.nd rfl (Or.inl rfl) (pe_call (ok_lessened T) (hr.mono (by decide)) (by rfl) T.g_lessened T.F_lessened.kp T.b_lessened .nil pass0 (pa_cons (pv 1) (pa_cons (pe_call (ok_lowest T) (hr.mono (by decide)) (by rfl) T.g_lowest T.F_lowest.kp T.b_lowest .nil pass0 (pa_cons (pe_callB (r := KG.rSum2 K) (KG.call_sum rfl) (by rfl) T.m_sum bt_sum (pa_cons (pv 0) pa_nil)) (pa_cons (pe_call (ok_share_of T) (hr.mono (by decide)) (by rfl) T.g_share_of T.F_share_of.kp T.b_share_of .nil pass0 (pa_cons (pv 0) (pa_cons (pv 2) pa_nil))) pa_nil))) pa_nil))))) pss_nil)))))
      (pss_one (ps_ret (pv 1)))))), ?_⟩
  refine ⟨_, rfl, _, rfl, thing_ints hA, isShs_of hA g, fun H1 s1 => ?_⟩
  refine ⟨sz2, fun m0 hm0 => ?_⟩
  have s2 := s1.trans (same_new (o := .tup [.int 0, .int 1]) hm0)
  refine ⟨_, rfl, a, _, rfl, s2 _ _ hA, by rw [List.length_map]; omega, fun H3 c s3 hc ec => ?_⟩
  rw [List.length_map] at ec
  refine ⟨c, _, rfl, ec, by rw [rg_len]; exact hn, fun H4 L qs s4 hL eL tp => ?_⟩
  have s04 := (s2.trans s3).trans s4
  refine ⟨L, rfl, ⟨_, .inl (.inl eL)⟩, for_list (xs := qs.map V.ref) (fun i σ H' => ∃ m y, σ = [some (.ref a), some (.ref m), y] ∧ Same H4 H' ∧ H m = none ∧ H' m = some (.tup (frV (((allSub (rg ns.length)).take i).map (sgn (per (ns.sum : Rat)) ns 0)).sum)) ∧ Sz (7 * i + 1) (((allSub (rg ns.length)).take i).map (sgn (per (ns.sum : Rat)) ns 0)).sum) ?_ ?_ ?_ ?_⟩
  · refine ⟨m0, none, rfl, Same.refl _, s1.free hm0, ?_, (by show (0 : Rat).num.natAbs < 2; decide), (by show (0 : Rat).den < 2; decide)⟩
    exact s4 _ _ (s3 _ _ upd_same)
  · rintro i σ H' _ ⟨m, y, rfl, sm, _⟩
    exact .inl (.inl (sm _ _ eL))
  · rintro i y σ H' hi ⟨m, y1, rfl, sm, hm, em, sz⟩
    obtain ⟨p, hp, rfl, hpm⟩ := ref_at hi
    obtain ⟨S, hS, eS⟩ := paired_at tp hp
    have so := sub_at hn hS
    have hi' := (List.getElem?_eq_some_iff.mp hS).1
    rw [allSub_len _ _ (rg_len _)] at hi'
    have hi2 : i < 32 := Nat.lt_of_lt_of_le hi' (Nat.pow_le_pow_right (by decide) hn)
    have eS' := sm _ _ eS
    have eA' := sm _ _ (s04 _ _ hA)
    have hlS := so.len
    rw [take_step hS, List.map_append, sumR_app]
    generalize hX : (((allSub (rg ns.length)).take i).map (sgn (per (ns.sum : Rat)) ns 0)).sum = X at em sz ⊢
    have hsum : ([S].map (sgn (per (ns.sum : Rat)) ns 0)).sum = sgn (per (ns.sum : Rat)) ns 0 S := by
      show sgn (per (ns.sum : Rat)) ns 0 S + 0 = _
      grind
    rw [hsum]
    have hper : per (ns.sum : Rat) (0 + (wts ns S).sum) = (ns.sum : Rat) / (((pick ns S).sum : Int) : Rat) := by
      rw [wts_sum]; show _ / (0 + _) = _; rw [Rat.zero_add]
    refine ⟨_, rfl, p, _, rfl, .inr (.inl (.inl eS')), _, 2, rfl, rfl, (by show (0 : Int) < 2; decide), rfl, _, rfl, ite2 (fun e => ?_) (fun e => ?_)⟩
    · have e1 : S.length % 2 = 1 := by
        have := V.int.inj (of_decide_eq_true e)
        rw [List.length_map] at this
        omega
      have h0 : S ≠ [] := fun z => by subst z; exact nomatch e1
      have pp := pick_pos g h0 so.mem hlS
      refine ⟨_, rfl, _, rfl, a, ns, rfl, .inr (.inl (.inl eA')), _, rfl, _, rfl, a, p, ns, S, rfl, eA', eS', by omega, so.mem, fun H5 s5 => ?_⟩
      refine ⟨_, _, rfl, pp.1, small_log' (by omega) (by omega), fun H6 r s6 hr er => ?_⟩
      rw [low_eq pp.1] at er
      refine ⟨m, r, _, _, _, _, rfl, s6 _ _ (s5 _ _ em), er, (sz.mono (by omega)).fr, Sz.fr ?_, fun H7 r2 s7 hr2 er2 => ?_⟩
      · exact (sz_div (n := 6) pp.1 (by omega) (by omega)).mono (by decide)
      · refine ⟨r2, _, rfl, ((sm.trans s5).trans s6).trans s7, ?_, ?_, ?_⟩
        · exact (((s04.trans sm).trans s5).trans s6).free hr2
        · rw [er2, low_add]; unfold sgn; rw [if_pos e1, hper]
        · unfold sgn; rw [if_pos e1, hper]
          exact (sz.add (sz_div (n := 6) pp.1 (by omega) (by omega))).mono (by omega)
    · have e1 : ¬ S.length % 2 = 1 := fun z => e (decide_eq_true (by rw [List.length_map]; show V.int ((S.length : Int) % 2) = V.int 1; rw [show ((S.length : Int) % 2) = 1 by omega]))
      refine ⟨_, rfl, p, _, rfl, .inr (.inl (.inl eS')), _, 0, rfl, rfl, _, rfl, ite2 (fun e3 => ?_) (fun e3 => ?_)⟩
      · have h0 : S ≠ [] := fun z => by subst z; exact absurd (of_decide_eq_true e3) (by decide)
        have pp := pick_pos g h0 so.mem hlS
        refine ⟨_, rfl, _, rfl, a, ns, rfl, .inr (.inl (.inl eA')), _, rfl, _, rfl, a, p, ns, S, rfl, eA', eS', by omega, so.mem, fun H5 s5 => ?_⟩
        refine ⟨_, _, rfl, pp.1, small_log' (by omega) (by omega), fun H6 r s6 hr er => ?_⟩
        rw [low_eq pp.1] at er
        refine ⟨m, r, _, _, _, _, rfl, s6 _ _ (s5 _ _ em), er, (sz.mono (by omega)).fr, Sz.fr ?_, fun H7 r2 s7 hr2 er2 => ?_⟩
        · exact (sz_div (n := 6) pp.1 (by omega) (by omega)).mono (by decide)
        · refine ⟨r2, _, rfl, ((sm.trans s5).trans s6).trans s7, ?_, ?_, ?_⟩
          · exact (((s04.trans sm).trans s5).trans s6).free hr2
          · rw [er2, low_sub]; unfold sgn; rw [if_neg e1, hper, Rat.sub_eq_add_neg]
          · unfold sgn; rw [if_neg e1, hper, ← Rat.sub_eq_add_neg]
            exact (sz.sub (sz_div (n := 6) pp.1 (by omega) (by omega))).mono (by omega)
      · have h0 : S = [] := by
          cases S with
          | nil => rfl
          | cons k r => exact absurd (decide_eq_true (show (0 : Int) < (((k :: r).map V.int).length : Int) by rw [List.length_map, List.length_cons]; omega)) e3
        have ez : sgn (per (ns.sum : Rat)) ns 0 S = 0 := by
          unfold sgn; rw [if_neg e1, h0]
          show - per _ (0 + 0) = 0
          rw [Rat.zero_add, per_zero]; rfl
        rw [ez, Rat.add_zero]
        exact ⟨m, _, rfl, sm, hm, em, sz.mono (by omega)⟩
  · rintro σ H' ⟨m, y, rfl, sm, hm, em, sz⟩
    rw [List.length_map, Paired.length tp, List.take_length, sgn_sum _ _ _ _ _ rfl] at em
    exact ⟨_, rfl, q H' m (s04.trans sm) hm em⟩

theorem ok__law_cell (T : Tx K mg) : FnOk P w K mg base CX0 1 T.a__law_cell T.d__law_cell ["_law_script", "_law_k"] (sp__law_cell K) := by
  refine T.F__law_cell.ok sc__law_cell (fun vs H Q E h => ?_) (fun cdv A outer s H vs Q E hr h => ?_)
  · obtain ⟨a, ns, k, rfl, _⟩ := h; rfl
  obtain ⟨a, ns, k, rfl, hS, q⟩ := h
  refine ⟨_, (pss_cons (ps_if (pt_cmpR op_lt (pv 1) (pe_callB (r := Evl.rLenS K) call_len_seq (by rfl) T.m_len bt_len (pa_cons (pv 0) pa_nil)) (nomark _)) (pss_one (ps_ret (pe_ix (r := rIxL K) ix_list (pv 0) (pv 1) (fun _ _ => rfl)))) pss_nil)
      (pss_one (ps_ret pe_int))), ?_⟩
  refine ⟨_, rfl, _, rfl, a, _, rfl, .inl hS, (k : Int), _, rfl, rfl, _, rfl, ite2 (fun e => ?_) (fun e => ?_)⟩
  · have hk : k < ns.length := by
      have := of_decide_eq_true e
      rw [List.length_map] at this
      omega
    refine ⟨_, rfl, _, rfl, a, _, (k : Int), .int ns[k], rfl, rfl, hS, atI_nat ?_, q _⟩
    rw [List.getElem?_map, List.getElem?_eq_getElem hk]
    rfl
  · exact q 0

theorem ok__law_mix (T : Tx K mg) : FnOk P w K mg base CX0 1 T.a__law_mix T.d__law_mix ["_law_cell_here", "_law_k"] sp__law_mix := by
  refine T.F__law_mix.ok sc__law_mix (fun vs H Q E h => ?_) (fun cdv A outer s H vs Q E hr h => ?_)
  · obtain ⟨a, k, rfl, _⟩ := h; rfl
  obtain ⟨c, k, rfl, hk, q⟩ := h
  refine ⟨_, (pss_cons (ps_set (i := 2) sc__law_mix.nd rfl (Or.inl rfl) (pe_lst (pa_cons pe_int (pa_cons pe_int (pa_cons pe_int (pa_cons pe_int (pa_cons pe_int (pa_cons pe_int (pa_cons pe_int (pa_cons pe_int (pa_cons pe_int (pa_cons pe_int (pa_cons pe_int (pa_cons pe_int (pa_cons pe_int pa_nil)))))))))))))))
      (pss_cons (ps_set (i := 3) sc__law_mix.nd rfl (Or.inl rfl) (pe_op op_mul (pe_op op_add (pe_op op_mod (pv 0) pe_int) pe_int) (pe_ix (r := rIxL K) ix_list (pv 2) (pe_op op_mod (pv 1) pe_int) (fun _ _ => rfl))))
      (pss_cons (ps_set (i := 3) sc__law_mix.nd rfl (Or.inl rfl) (pe_op op_add (pe_op op_add (pv 3) (pe_op op_mul pe_int (pv 1))) (pe_op op_mul pe_int (pe_op op_fdivW (pv 1) pe_int))))
      (pss_cons (ps_set (i := 3) sc__law_mix.nd rfl (Or.inl rfl) (pe_op op_mod (pv 3) pe_int))
      (pss_one (ps_ret (pe_op op_fdivW (pe_op op_mod (pe_op op_add (pe_op op_mul (pv 3) (pv 3)) (pe_op op_mul pe_int (pv 1))) pe_int) pe_int))))))), ?_⟩
  refine ⟨by decide, fun p hp => ?_⟩
  have hm : (k : Int) % 13 = ((k % 13 : Nat) : Int) := by omega
  have h13 : k % 13 < 13 := Nat.mod_lt _ (by decide)
  obtain ⟨z, hz⟩ : ∃ z : Int, ([V.int 48271, .int 69621, .int 16807, .int 39373, .int 30269, .int 40014, .int 40692, .int 50021, .int 61687, .int 71993, .int 83869, .int 95561, .int 30307])[k % 13]? = some (.int z) := by
    generalize k % 13 = m at h13
    match m, h13 with
    | 0, _ => exact ⟨_, rfl⟩
    | 1, _ => exact ⟨_, rfl⟩
    | 2, _ => exact ⟨_, rfl⟩
    | 3, _ => exact ⟨_, rfl⟩
    | 4, _ => exact ⟨_, rfl⟩
    | 5, _ => exact ⟨_, rfl⟩
    | 6, _ => exact ⟨_, rfl⟩
    | 7, _ => exact ⟨_, rfl⟩
    | 8, _ => exact ⟨_, rfl⟩
    | 9, _ => exact ⟨_, rfl⟩
    | 10, _ => exact ⟨_, rfl⟩
    | 11, _ => exact ⟨_, rfl⟩
    | 12, _ => exact ⟨_, rfl⟩
  have c1 := Int.emod_nonneg c (show (2147483647 : Int) ≠ 0 by decide)
  have c2 := Int.emod_lt_of_pos c (show (0 : Int) < 2147483647 by decide)
  refine ⟨_, rfl, c, 2147483647, rfl, rfl, (by show (0 : Int) < 2147483647; decide), _, _, rfl, rfl, _, rfl, _, rfl, k, 13, rfl, rfl, (by show (0 : Int) < 13; decide), p, _, _, .int z, rfl, rfl, .inl (.inl upd_same), at_of hm hz, _, z, rfl, rfl, .inl ⟨by omega, by omega⟩, ?_⟩
  refine ⟨_, rfl, _, rfl, 977, k, rfl, rfl, .inl ⟨by omega, by omega⟩, _, _, rfl, rfl, _, rfl, k, 13, rfl, rfl, ⟨by decide, by decide⟩, 7919, _, rfl, rfl, .inl ⟨by omega, by omega⟩, _, _, rfl, rfl, ?_⟩
  refine ⟨_, rfl, _, 1000000007, rfl, rfl, (by show (0 : Int) < 1000000007; decide), ?_⟩
  refine ⟨_, rfl, _, rfl, _, _, rfl, rfl, .inl ⟨Int.lt_of_lt_of_le (by decide) (Int.emod_nonneg _ (by decide)), Int.lt_trans (Int.emod_lt_of_pos _ (by decide)) (by decide)⟩, _, rfl, 48271, k, rfl, rfl, .inl ⟨by omega, by omega⟩, _, _, rfl, rfl, _, 1000000007, rfl, rfl, (by show (0 : Int) < 1000000007; decide), _, 7, rfl, rfl, ⟨by decide, by decide⟩, ?_⟩
  exact q _ _ (same_new hp)

theorem ok__law_box (T : Tx K mg) : FnOk P w K mg base CX0 2 T.a__law_box T.d__law_box ["_law_script", "_law_k"] (spBox K) := by
  refine T.F__law_box.ok sc__law_box (fun vs H Q E h => ?_) (fun cdv A outer s H vs Q E hr h => ?_)
  · obtain ⟨a, ns, k, rfl, _⟩ := h; rfl
  obtain ⟨a, ns, k, rfl, hS, q⟩ := h
  refine ⟨_, (pss_cons (ps_set (i := 2) sc__law_box.nd rfl (Or.inl rfl) (pe_call (ok__law_cell T) (hr.mono (by decide)) (by rfl) T.g__law_cell T.F__law_cell.kp T.b__law_cell .nil pass0 (pa_cons (pv 0) (pa_cons (pv 1) pa_nil))))
      (pss_cons (ps_if (pt_cmpR op_eq (pe_op op_mod (pv 2) pe_int) pe_int (nomark _)) (pss_one (ps_ret (pe_lst (pa_cons (pe_op op_fdiv (pe_callB call_abs (by rfl) T.m_abs bt_abs (pa_cons (pv 2) pa_nil)) pe_int) pa_nil)))) pss_nil)
      (pss_cons (ps_set (i := 3) sc__law_box.nd rfl (Or.inl rfl) pe_int)
      (pss_cons (ps_for PassesOwn.never rfl (pi_range1 (by rfl) T.m_range (pa_cons pe_int pa_nil)) (pg_name (i := 4) sc__law_box.nd rfl (Or.inl rfl)) (pss_one (ps_set (i := 3) sc__law_box.nd rfl (Or.inl rfl) (pe_op op_add (pe_op op_mul (pv 3) pe_int) (pe_call (ok__law_mix T) (hr.mono (by decide)) (by rfl) T.g__law_mix T.F__law_mix.kp T.b__law_mix .nil pass0 (pa_cons (pv 2) (pa_cons (pv 4) pa_nil)))))))
      (pss_one (ps_ret (pe_lst (pa_cons (pv 3) pa_nil)))))))), ?_⟩
  refine ⟨_, rfl, _, rfl, a, ns, k, rfl, hS, fun c => ?_⟩
  refine ⟨_, rfl, c, 2, rfl, rfl, (by show (0 : Int) < 2; decide), rfl, _, rfl, ite2 (fun _ => ?_) (fun _ => ?_)⟩
  · exact ⟨_, rfl, c, rfl, _, 2, rfl, rfl, ⟨by decide, by decide⟩, sz1, fun p hp => q _ p _ (same_new hp) hp upd_same⟩
  · refine ⟨40, rfl, by decide, by decide, for_range (n := 40) (fun i σ H' => ∃ n y, σ = [some (.ref a), some (.int k), some (.int c), some (.int n), y] ∧ Same H H') ⟨0, none, rfl, Same.refl _⟩ ?_ ?_⟩
    · rintro i σ H' hi ⟨n, y, rfl, sm⟩
      refine ⟨_, rfl, n, 142857143, rfl, rfl, .inr ⟨by decide, by decide⟩, _, rfl, _, rfl, c, i, ?_, by omega, fun H2 v sm2 => ?_⟩
      · rw [Int.zero_add]; rfl
      · exact ⟨_, _, rfl, rfl, _, _, rfl, sm.trans sm2⟩
    · rintro σ H' ⟨n, y, rfl, sm⟩
      exact ⟨_, rfl, sz1, fun p hp => q _ p _ (sm.trans (same_new hp)) (sm.free hp) upd_same⟩

theorem ok__law_take (T : Tx K mg) : FnOk P w K mg base CX0 1 T.a__law_take T.d__law_take ["_law_box_here", "_law_many"] spTake := by
  refine T.F__law_take.ok sc__law_take (fun vs H Q E h => ?_) (fun cdv A outer s H vs Q E hr h => ?_)
  · obtain ⟨b, n, m, rfl, _⟩ := h; rfl
  obtain ⟨b, n, m, rfl, hB, h0, hl, q⟩ := h
  refine ⟨_, (pss_cons (ps_asg (pe_callB call_divmodW (by rfl) T.m_divmod bt_divmod (pa_cons (pe_ix (r := rIxL K) ix_list (pv 0) pe_int (fun _ _ => rfl)) (pa_cons (pv 1) pa_nil))) (pg_tup (by rfl) (pgs_cons (pg_name (i := 2) sc__law_take.nd rfl (Or.inl rfl)) (pgs_cons (pg_name (i := 3) sc__law_take.nd rfl (Or.inl rfl)) pgs_nil))))
      (pss_cons (ps_asg (pv 2) (pg_sub (pv 0) pe_int set_list))
      (pss_one (ps_ret (pv 3))))), ?_⟩
  refine ⟨_, rfl, b, _, 0, _, rfl, rfl, .inl (.inl hB), rfl, _, rfl, n, m, rfl, noPy h0 hl, fun p hp => ?_⟩
  have nb : b ≠ p := ne_of_none hB hp
  refine ⟨p, _, rfl, .inl (.inl upd_same), rfl, _, _, rfl, _, _, rfl, rfl, ?_⟩
  refine ⟨_, rfl, _, rfl, b, [.int n], 0, 0, rfl, rfl, ?_, rfl, ?_⟩
  · rw [upd_ne nb]; exact hB
  · refine ⟨_, rfl, q _ (n / m) (n % m) ?_ upd_same (Int.emod_nonneg _ (by omega)) (Int.emod_lt_of_pos _ h0)⟩
    intro a o na ea
    rw [upd_ne na]
    exact same_new hp a o ea

theorem ok__law_drawn_shares (T : Tx K mg) : FnOk P w K mg base CX0 2 T.a__law_drawn_shares T.d__law_drawn_shares ["_law_box_here", "_law_most", "_law_top"] spDrawn := by
  refine T.F__law_drawn_shares.ok sc__law_drawn_shares (fun vs H Q E h => ?_) (fun cdv A outer s H vs Q E hr h => ?_)
  · obtain ⟨b, n, most, top, rfl, _⟩ := h; rfl
  obtain ⟨b, n, most, top, rfl, hB, m1, m2, t1, t2, q⟩ := h
  refine ⟨_, (pss_cons (ps_set (i := 3) sc__law_drawn_shares.nd rfl (Or.inl rfl) (pe_op op_add pe_int (pe_call (ok__law_take T) (hr.mono (by decide)) (by rfl) T.g__law_take T.F__law_take.kp T.b__law_take .nil pass0 (pa_cons (pv 0) (pa_cons (pv 1) pa_nil)))))
      (pss_cons (ps_set (i := 4) sc__law_drawn_shares.nd rfl (Or.inr rfl) (pe_call (ok__law_take T) (hr.mono (by decide)) (by rfl) T.g__law_take T.F__law_take.kp T.b__law_take .nil pass0 (pa_cons (pv 0) (pa_cons pe_int pa_nil))))
      (pss_cons (ps_if (pt_cmpR op_eq (pv 4) pe_int (nomark _)) (pss_one (ps_ret (pe_op (r := KG.rTimes K) KG.op_times (pe_tup (pa_cons (pe_op op_add pe_int (pe_call (ok__law_take T) (hr.mono (by decide)) (by rfl) T.g__law_take T.F__law_take.kp T.b__law_take .nil pass0 (pa_cons (pv 0) (pa_cons (pv 2) pa_nil)))) pa_nil)) (pv 3)))) pss_nil)
      (pss_one (ps_ret (pe_callTy call_tuple_of (by rfl) T.m_tuple bt_tuple (pa_cons (pe_lc (own := [("_law_place", 5)]) (g := gName 5) (tt := tYes) rfl sc__law_drawn_shares.nd (pi_range1 (by rfl) T.m_range (pa_cons (pv 3) pa_nil)) (blkOk_by (N := ["_law_box_here", "_law_most", "_law_top", "_law_many", "_law_kind", "_law_place"]) (sc := defScope s__law_drawn_shares) (by decide +kernel)) (fun _ _ _ _ _ => (pg_name (i := 5) sc__law_drawn_shares.nd rfl (Or.inl rfl))) (fun _ _ _ _ _ => pts_nil) (fun _ _ _ _ _ => (pe_op op_add pe_int (pe_call (ok__law_take T) (hr.mono (by decide)) (by rfl) T.g__law_take T.F__law_take.kp T.b__law_take .nil pass0 (pa_cons (pv 0) (pa_cons (pe_ix (r := rIxL K) ix_list (pe_lst (pa_cons (pv 2) (pa_cons pe_int (pa_cons (pv 2) pa_nil)))) (pe_op op_sub (pv 4) pe_int) (fun _ _ => rfl)) pa_nil)))))) pa_nil))))))), ?_⟩
  refine ⟨_, rfl, _, rfl, b, n, most, rfl, hB, by omega, small_log' (by omega) (by omega), fun H1 n1 d1 k1 e1 z1 z2 => ⟨1, d1, rfl, rfl, ?_⟩⟩
  refine ⟨_, rfl, b, n1, 4, rfl, e1, by decide, by decide, fun H2 n2 d2 k2 e2 z3 z4 => ?_⟩
  refine ⟨_, rfl, rfl, _, rfl, ite2 (fun _ => ?_) (fun e => ?_)⟩
  · refine ⟨_, rfl, _, rfl, b, n2, top, rfl, e2, by omega, small_log' (by omega) (by omega), fun H3 n3 d3 k3 e3 z5 z6 => ⟨1, d3, rfl, rfl, sz1, fun p hp => ?_⟩⟩
    have kp : Kp b H (upd H3 p (.tup [.int (1 + d3)])) := k1.trans (k2.trans (k3.trans (Kp.of (same_new hp))))
    have nb : b ≠ p := ne_of_none e3 hp
    have eb : (upd H3 p (.tup [.int (1 + d3)])) b = some (.lst [.int n3]) := by rw [upd_ne nb]; exact e3
    have hn : H p = none := (k1.trans (k2.trans k3)).free e3 hp
    refine ⟨_, rfl, p, 1 + d1, [.int (1 + d3)], rfl, rfl, .inl (.inl upd_same), by simp, by omega, by omega, by show 1 ≤ 1000; decide, fun h1 => ?_, fun h2 p2 hp2 => ?_⟩
    · refine q _ p n3 [1 + d3] kp eb hn upd_same (Nat.le_refl _) (by show (1 : Int) ≤ most; omega) (fun x hx => ?_)
      rw [List.mem_singleton] at hx
      omega
    · have nb2 : b ≠ p2 := ne_of_none eb hp2
      refine q _ p2 n3 (List.replicate (1 + d1).toNat (1 + d3)) (kp.trans (Kp.of (same_new hp2))) ?_ (kp.free eb hp2) ?_ ?_ ?_ (fun x hx => ?_)
      · rw [upd_ne nb2]; exact eb
      · rw [upd_same, rep_map]
      · rw [List.length_replicate]; omega
      · rw [List.length_replicate]; omega
      · have := List.eq_of_mem_replicate hx
        omega
  · have hk0 : d2 ≠ 0 := fun z => e (decide_eq_true (by rw [z]))
    obtain ⟨m, hm, hm0, hm1⟩ := menu (show 1 ≤ d2 by omega) z4 t1
    refine ⟨_, rfl, 1 + d1, rfl, by omega, by omega, fun D hD => ?_⟩
    have kp0 : Kp b H H2 := k1.trans k2
    have hDb : D ≠ b := fun z => by rw [z, e2] at hD; exact nomatch hD
    refine lc_range (n := (1 + d1).toNat) (fun i H' => ∃ (ns : List Int) (n' : Int), H' D = some (.lst (ns.map V.int)) ∧ ns.length = i ∧ (∀ x ∈ ns, 1 ≤ x ∧ x ≤ top) ∧ H' b = some (.lst [.int n']) ∧ Kp b H2 H') ?_ ?_ ?_
    · exact ⟨[], n2, upd_same, rfl, (fun x hx => nomatch hx), by rw [upd_ne hDb.symm]; exact e2, Kp.of (same_new hD)⟩
    · rintro i H3 hi ⟨ns, n', eD, el, ha, eb, kp⟩
      refine ⟨rfl, yesT ⟨_, rfl, _, rfl, _, rfl, sz3, fun l hl => ⟨_, rfl, d2, 1, rfl, rfl, l, _, _, _, rfl, rfl, .inl (.inl upd_same), hm, ?_⟩⟩⟩
      have nlb : b ≠ l := ne_of_none eb hl
      have nlD : D ≠ l := ne_of_none eD hl
      refine ⟨b, n', m, rfl, by rw [upd_ne nlb]; exact eb, hm0, small_log' (by omega) (by omega), fun H5 n5 d5 k5 e5 w0 w1 => ⟨1, d5, rfl, rfl, ns.map V.int, ?_, ?_, ns ++ [1 + d5], n5, ?_, ?_, ?_, ?_, ?_⟩⟩
      · refine k5 D _ hDb ?_
        rw [upd_ne nlD]; exact eD
      · rw [List.length_map]; exact small1000 (by omega)
      · rw [upd_same, List.map_append]; rfl
      · rw [List.length_append, el]; rfl
      · intro x hx
        rcases List.mem_append.mp hx with hx | hx
        · exact ha x hx
        · rw [List.mem_singleton] at hx
          omega
      · rw [upd_ne hDb.symm]; exact e5
      · intro a o na ea
        have nD : a ≠ D := ne_of_none ea hD
        rw [upd_ne nD]
        exact k5 a o na (same_new hl a o (kp a o na ea))
    · rintro H3 ⟨ns, n', eD, el, ha, eb, kp⟩
      refine ⟨D, _, rfl, .inl ⟨.inl (.inl eD), fun p hp => ?_⟩⟩
      have nb : b ≠ p := ne_of_none eb hp
      exact q _ p n' ns (kp0.trans (kp.trans (Kp.of (same_new hp)))) (by rw [upd_ne nb]; exact eb) ((kp0.trans kp).free eb hp) upd_same (by omega) (by omega) ha

theorem ok__law_common (T : Tx K mg) : FnOk P w K mg base CX0 1 T.a__law_common T.d__law_common ["_law_one", "_law_other"] spGcd := by
  refine T.F__law_common.ok sc__law_common (fun vs H Q E h => ?_) (fun cdv A outer s H vs Q E hr h => ?_)
  · obtain ⟨a, b, rfl, _⟩ := h; rfl
  obtain ⟨a, b, rfl, ha, hb, q⟩ := h
  refine ⟨_, (pss_cons (ps_while PassesOwn.never (pt_cmpR op_ne (pv 1) pe_int (nomark _)) (pss_one (ps_par (i := 0) (j := 1) (by rfl) sc__law_common.nd rfl rfl (by decide) rfl rfl (pa_cons (pv 1) (pa_cons (pe_op op_mod (pv 0) (pv 1)) pa_nil)) (by rfl))))
      (pss_one (ps_ret (pv 0)))), ?_⟩
  refine while_by (fun σ H' => ∃ x y : Int, σ = [some (.int x), some (.int y)] ∧ 0 ≤ x ∧ 0 ≤ y ∧ Int.gcd x y = Int.gcd a b ∧ H' = H) (fun σ _ => match σ with | [_, some (.int y)] => y.toNat | _ => 0) ⟨a, b, rfl, ha, hb, rfl, rfl⟩ ?_ ?_
  · rintro σ H' ⟨x, y, rfl, hx, hy, e, rfl⟩
    refine ⟨_, rfl, rfl, _, rfl, ?_⟩
    by_cases h0 : y = 0
    · subst h0
      refine iteNS rfl ⟨_, rfl, ?_⟩
      rw [Int.gcd_zero_right] at e
      have e2 : x = (Int.gcd a b : Int) := by omega
      rw [e2]
      exact q
    · have hd : (!decide (V.int y = V.int 0)) = true := by
        rw [decide_eq_false (fun z => h0 (V.int.inj z))]; rfl
      rw [hd]
      refine iteT ⟨_, rfl, _, rfl, _, rfl, x, y, rfl, rfl, (by omega : 0 < y), _, _, rfl, ⟨y, x % y, rfl, hy, Int.emod_nonneg _ h0, ?_, rfl⟩, ?_⟩
      · rw [gcd_step x y hx (by omega), e]
      · show (x % y).toNat < y.toNat
        have := Int.emod_lt_of_pos x (show 0 < y by omega)
        omega
  · rintro σ H' Q Q' m ⟨v, h1, h2, k, h3, h4⟩
    exact ⟨v, h1, h2, k, h3, m _ _ h4⟩

theorem ok__law_made (T : Tx K mg) : FnOk P w K mg base CX0 2 T.a__law_made T.d__law_made ["_law_top", "_law_bottom"] spLow := by
  refine T.F__law_made.ok sc__law_made (fun vs H Q E h => ?_) (fun cdv A outer s H vs Q E hr h => ?_)
  · obtain ⟨a, b, rfl, _⟩ := h; rfl
  obtain ⟨t, b, rfl, hb, hl, q⟩ := h
  refine ⟨_, (pss_cons (ps_set (i := 2) sc__law_made.nd rfl (Or.inl rfl) (pe_call (ok__law_common T) (hr.mono (by decide)) (by rfl) T.g__law_common T.F__law_common.kp T.b__law_common .nil pass0 (pa_cons (pv 1) (pa_cons (pe_callB call_abs (by rfl) T.m_abs bt_abs (pa_cons (pv 0) pa_nil)) pa_nil))))
      (pss_one (ps_ret (pe_tup (pa_cons (pe_op op_fdivW (pv 0) (pv 2)) (pa_cons (pe_op op_fdivW (pv 1) (pv 2)) pa_nil)))))), ?_⟩
  refine ⟨_, rfl, _, rfl, t, rfl, b, _, rfl, (by omega), ?_, ?_⟩
  · rw [abs_eq]; omega
  have e : Int.gcd b (if t < 0 then -t else t) = Int.gcd t b := by
    rw [abs_eq, Int.gcd_comm]; rfl
  rw [e]
  refine ⟨_, rfl, _, rfl, t, _, rfl, rfl, gcd_div hb hl, _, rfl, _, rfl, b, _, rfl, rfl, gcd_div hb hl, sz2, fun p hp => ?_⟩
  exact q _ p (same_new hp) hp upd_same

theorem ok__law_plus (T : Tx K mg) : FnOk P w K mg base CX0 3 T.a__law_plus T.d__law_plus ["_law_one", "_law_other"] spPlus := by
  refine T.F__law_plus.ok sc__law_plus (fun vs H Q E h => ?_) (fun cdv A outer s H vs Q E hr h => ?_)
  · obtain ⟨p, q, a, b, c, d, rfl, _⟩ := h; rfl
  obtain ⟨p, q', a, b, c, d, rfl, ep, eq, hb, hd, za, zb, zc, zd, q⟩ := h
  refine ⟨_, (pss_one (ps_ret (pe_call (ok__law_made T) (hr.mono (by decide)) (by rfl) T.g__law_made T.F__law_made.kp T.b__law_made .nil pass0 (pa_cons (pe_op op_add (pe_op op_mulW (pe_ix (r := rIxT K) ix_tup (pv 0) pe_int (fun _ _ => rfl)) (pe_ix (r := rIxT K) ix_tup (pv 1) pe_int (fun _ _ => rfl))) (pe_op op_mulW (pe_ix (r := rIxT K) ix_tup (pv 1) pe_int (fun _ _ => rfl)) (pe_ix (r := rIxT K) ix_tup (pv 0) pe_int (fun _ _ => rfl)))) (pa_cons (pe_op op_mulW (pe_ix (r := rIxT K) ix_tup (pv 0) pe_int (fun _ _ => rfl)) (pe_ix (r := rIxT K) ix_tup (pv 1) pe_int (fun _ _ => rfl))) pa_nil))))), ?_⟩
  have s1 : SqT K H p [.int a, .int b] := .inl (.inl ep)
  have s2 : SqT K H q' [.int c, .int d] := .inl (.inl eq)
  refine ⟨_, rfl, p, _, 0, .int a, rfl, rfl, s1, rfl, _, rfl, q', _, 1, .int d, rfl, rfl, s2, rfl, a, d, rfl, rfl, mulW za zd, ?_⟩
  refine ⟨_, rfl, q', _, 0, .int c, rfl, rfl, s2, rfl, _, rfl, p, _, 1, .int b, rfl, rfl, s1, rfl, c, b, rfl, rfl, mulW zc zb, _, _, rfl, rfl, ?_⟩
  refine ⟨_, rfl, p, _, 1, .int b, rfl, rfl, s1, rfl, _, rfl, q', _, 1, .int d, rfl, rfl, s2, rfl, b, d, rfl, rfl, mulW zb zd, ?_⟩
  exact ⟨_, _, rfl, pos_prod hb hd, log_prod zb zd, q⟩

theorem ok__law_all_some (T : Tx K mg) : FnOk P w K mg base CX0 1 T.a__law_all_some T.d__law_all_some ["_law_many"] spLawAllSome := by
  refine T.F__law_all_some.ok sc__law_all_some (fun vs H Q E h => ?_) (fun cdv A outer s H vs Q E hr h => ?_)
  · obtain ⟨n, rfl, _⟩ := h; rfl
  obtain ⟨n, rfl, hl, q⟩ := h
  refine ⟨_, (pss_cons (ps_set (i := 1) sc__law_all_some.nd rfl (Or.inl rfl) (pe_lst (pa_cons (pe_tup pa_nil) pa_nil)))
      (pss_cons (ps_for PassesOwn.never rfl (pi_range1 (by rfl) T.m_range (pa_cons (pv 0) pa_nil)) (pg_name (i := 2) sc__law_all_some.nd rfl (Or.inr rfl)) (pss_one (ps_set (i := 1) sc__law_all_some.nd rfl (Or.inl rfl) (pe_op (r := rCat) op_cat (pv 1) (pe_lc (own := [("_law_some", 3)]) (g := gName 3) (tt := tYes) rfl sc__law_all_some.nd (pi_list (pv 1)) (blkOk_by (N := ["_law_many", "_law_found", "_law_kind", "_law_some"]) (sc := defScope s__law_all_some) (by decide +kernel)) (fun _ _ _ _ _ => (pg_name (i := 3) sc__law_all_some.nd rfl (Or.inl rfl))) (fun _ _ _ _ _ => pts_nil) (fun _ _ _ _ _ => (pe_op (r := rCatA K) op_catA (pv 3) (pe_tup (pa_cons (pv 2) pa_nil)))))))))
      (pss_one (ps_ret (pv 1))))), ?_⟩
  refine ⟨Nat.zero_le _, fun q0 h0 => ⟨sz1, fun L0 hL0 => ?_⟩⟩
  refine ⟨_, rfl, n, rfl, by omega, by omega, for_range (n := (n : Int).toNat) (fun i σ H' => ∃ L qs y1 y2, σ = [some (.int n), some (.ref L), y1, y2] ∧ Same H H' ∧ H L = none ∧ H' L = some (.lst (qs.map V.ref)) ∧ Tups H' qs (allSub (rg i))) ?_ ?_ ?_⟩
  · exact ⟨L0, [q0], _, _, rfl, (same_new h0).trans (same_new hL0), (same_new h0).free hL0, upd_same, .cons (by exact same_new hL0 _ _ upd_same) .nil⟩
  · rintro i σ H' hi' ⟨L, qs, y1, y2, rfl, sm, hL, eL, tp⟩
    have hi' : i < n := by omega
    generalize hk : (0 + (i : Int)) = k
    have hk : k = i := by omega
    have ql : qs.length = 2 ^ i := by
      rw [Paired.length tp, allSub_len i _ (rg_len i)]
    have ql2 : qs.length ≤ 32 := by
      rw [ql]
      exact Nat.pow_le_pow_right (by decide) (show i ≤ 5 by omega)
    refine ⟨_, rfl, _, rfl, L, rfl, ⟨_, .inl (.inl eL)⟩, fun D hD => ?_⟩
    have nDL : D ≠ L := fun z => by rw [z, eL] at hD; exact nomatch hD
    refine lc_list (xs := qs.map V.ref) (fun j H2 => ∃ rs : List Addr, LcI H' D (rs.map V.ref) H2 ∧ rs.length = j ∧ Tups H2 rs (((allSub (rg i)).take j).map (· ++ [k]))) ⟨[], ⟨same_new hD, upd_same⟩, rfl, .nil⟩ (fun j H2 _ ⟨rs, h, _⟩ => .inl (.inl (h.1 L _ eL))) ?_ ?_
    · rintro j y H2 hj ⟨rs, h, hrl, tr⟩
      obtain ⟨p, hp, rfl, hpm⟩ := ref_at hj
      obtain ⟨S, hS, eS⟩ := paired_at tp hp
      have hj' := (List.getElem?_eq_some_iff.mp hp).1
      refine ⟨rfl, yesT ⟨_, rfl, _, rfl, sz1, fun t ht => ?_⟩⟩
      have e2 : ((allSub (rg i)).take (j + 1)).map (· ++ [k]) = ((allSub (rg i)).take j).map (· ++ [k]) ++ [S ++ [k]] := by rw [take_step hS, List.map_append]; rfl
      rw [e2]
      have st : Same H2 (upd H2 t (.tup [.int k])) := same_new ht
      have sl : S.length ≤ 5 := by
        have := allSub_le i (rg i) (rg_len i) S (List.mem_of_getElem? hS)
        omega
      have rl : (rs.map V.ref).length ≤ 1000 := by rw [List.length_map, hrl]; omega
      refine ⟨p, t, _, _, rfl, rfl, .inl (.inl (st _ _ (h.1 _ _ eS))), .inl (.inl upd_same), ?_, fun he => ?_, fun _ he => (nomatch he), fun he _ r hr => ?_⟩
      · rw [List.length_map]; exact Nat.le_of_lt (small1000 (by show S.length + 1 ≤ 1000; omega))
      · have eS0 : S = [] := List.map_eq_nil_iff.mp he
        subst eS0
        obtain ⟨acc, a1, a2, a3⟩ := h.put (y := .ref t) hD rl st
        refine ⟨acc, a1, a2, rs ++ [t], by rw [List.map_append]; exact a3, by rw [List.length_append, hrl]; rfl, ?_⟩
        have ht2 : t ≠ D := fun z => by rw [z, h.2] at ht; exact nomatch ht
        refine Paired.snoc ((tr.mono st).upd a1) ?_
        rw [upd_ne ht2]; exact upd_same
      · have st2 := st.trans (same_new (o := .tup (S.map V.int ++ [.int k])) hr)
        obtain ⟨acc, a1, a2, a3⟩ := h.put (y := .ref r) hD rl st2
        refine ⟨acc, a1, a2, rs ++ [r], by rw [List.map_append]; exact a3, by rw [List.length_append, hrl]; rfl, ?_⟩
        have hr2 : r ≠ D := fun z => by rw [z, st _ _ h.2] at hr; exact nomatch hr
        refine Paired.snoc ((tr.mono st2).upd a1) ?_
        rw [upd_ne hr2, upd_same, List.map_append]; rfl
    · rintro H2 ⟨rs, h, hrl, tr⟩
      rw [List.length_map] at hrl tr
      rw [Paired.length tp, List.take_length] at tr
      refine ⟨L, D, _, _, rfl, rfl, h.1 _ _ eL, h.2, ?_, fun p hp => ?_⟩
      · rw [List.length_map, List.length_map, hrl]; exact Nat.le_of_lt (small1000 (by omega))
      have sp := same_new (o := .lst (qs.map V.ref ++ rs.map V.ref)) hp
      refine ⟨p, qs ++ rs, _, _, rfl, (sm.trans h.1).trans sp, (sm.trans h.1).free hp, ?_, ?_⟩
      · rw [upd_same, List.map_append]
      · rw [rg_succ, ← hk, allSub_app]
        exact paired_app (tp.mono (h.1.trans sp)) (tr.mono sp)
  · rintro σ H' ⟨L, qs, y1, y2, rfl, sm, hL, eL, tp⟩
    rw [show (n : Int).toNat = n by omega] at tp
    exact ⟨_, rfl, q H' L qs sm hL eL tp⟩

theorem ok__law_paper (T : Tx K mg) : FnOk P w K mg base CX0 4 T.a__law_paper T.d__law_paper ["_law_shares"] spLawPaper := by
  refine T.F__law_paper.ok sc__law_paper (fun vs H Q E h => ?_) (fun cdv A outer s H vs Q E hr h => ?_)
  · obtain ⟨a, ns, rfl, _⟩ := h; rfl
  obtain ⟨a, ns, rfl, hA, g, q⟩ := h
  have hn := g.2.1
  have sp := g.sum_pos
  refine ⟨_, (pss_cons (ps_set (i := 1) sc__law_paper.nd rfl (Or.inl rfl) (pe_dispT1 (hu_of hr) (pe_tup pa_nil) (pe_tup (pa_cons pe_int (pa_cons pe_int pa_nil)))))
      (pss_cons (ps_for PassesOwn.never rfl (pi_list (pe_call (ok__law_all_some T) (hr.mono (by decide)) (by rfl) T.g__law_all_some T.F__law_all_some.kp T.b__law_all_some .nil pass0 (pa_cons (pe_callB (r := Evl.rLenS K) call_len_seq (by rfl) T.m_len bt_len (pa_cons (pv 0) pa_nil)) pa_nil))) (pg_name (i := 2) sc__law_paper.nd rfl (Or.inl rfl)) (pss_one (ps_if (pt_cmpR (r := rNeD K) (op_neD hr.units) (pv 2) (pe_tup pa_nil) (nomark _)) (pss_cons (ps_set (i := 3) sc__law_paper.nd rfl (Or.inl rfl) (pe_tup (pa_cons (pe_callB (r := KG.rSum2 K) (KG.call_sum rfl) (by rfl) T.m_sum bt_sum (pa_cons (pv 0) pa_nil)) (pa_cons pe_int pa_nil))))
      (pss_cons (ps_for PassesOwn.never rfl (pi_tup (pv 2)) (pg_name (i := 4) sc__law_paper.nd rfl (Or.inr rfl)) (pss_cons (ps_set (i := 5) sc__law_paper.nd rfl (Or.inl rfl) (pe_dget (hu_of hr) (pv 1) (pe_callTy call_tuple_of (by rfl) T.m_tuple bt_tuple (pa_cons (pe_lc (own := [("_law_one", 6)]) (g := gName 6) rfl sc__law_paper.nd (pi_tup (pv 2)) (blkOk_by (N := ["_law_shares", "_law_found", "_law_some", "_law_number", "_law_kind", "_law_piece", "_law_one"]) (sc := defScope s__law_paper) (by decide +kernel)) (fun _ _ _ _ _ => (pg_name (i := 6) sc__law_paper.nd rfl (Or.inl rfl))) (fun _ _ _ _ _ => pts_one (pt_cmpR op_ne (pv 6) (pv 4) (nomark _))) (fun _ _ _ _ _ => (pv 6))) pa_nil)) (fun _ _ => rfl)))
      (pss_one (ps_set (i := 3) sc__law_paper.nd rfl (Or.inl rfl) (pe_call (ok__law_plus T) (hr.mono (by decide)) (by rfl) T.g__law_plus T.F__law_plus.kp T.b__law_plus .nil pass0 (pa_cons (pv 3) (pa_cons (pe_tup (pa_cons (pe_op op_mulW (pe_ix (r := rIxT K) ix_tup (pv 5) pe_int (fun _ _ => rfl)) (pe_ix (r := rIxT K) ix_tup (pv 0) (pv 4) (fun _ _ => rfl))) (pa_cons (pe_ix (r := rIxT K) ix_tup (pv 5) pe_int (fun _ _ => rfl)) pa_nil))) pa_nil)))))))
      (pss_one (ps_dput (hu_of hr) (pv 1) (pv 2) (pe_call (ok__law_made T) (hr.mono (by decide)) (by rfl) T.g__law_made T.F__law_made.kp T.b__law_made .nil pass0 (pa_cons (pe_ix (r := rIxT K) ix_tup (pv 3) pe_int (fun _ _ => rfl)) (pa_cons (pe_op op_mulW (pe_ix (r := rIxT K) ix_tup (pv 3) pe_int (fun _ _ => rfl)) (pe_callB (r := KG.rSum2 K) (KG.call_sum rfl) (by rfl) T.m_sum bt_sum (pa_cons (pe_lc (own := [("_law_kind", 4)]) (g := gName 4) (tt := tYes) rfl sc__law_paper.nd (pi_tup (pv 2)) (blkOk_by (N := ["_law_shares", "_law_found", "_law_some", "_law_number", "_law_kind", "_law_piece", "_law_one"]) (sc := defScope s__law_paper) (by decide +kernel)) (fun _ _ _ _ _ => (pg_name (i := 4) sc__law_paper.nd rfl (Or.inl rfl))) (fun _ _ _ _ _ => pts_nil) (fun _ _ _ _ _ => (pe_ix (r := rIxT K) ix_tup (pv 0) (pv 4) (fun _ _ => rfl)))) pa_nil))) pa_nil))) rfl)))) pss_nil)))
      (pss_one (ps_ret (pv 1))))), ?_⟩
  refine fun d hd => ⟨Nat.zero_le _, fun q0 h0 => ⟨sz2, fun z hz => ⟨same_new hz _ _ (same_new h0 _ _ upd_same), [], q0, rfl, same_new hz _ _ upd_same, ?_⟩⟩⟩
  generalize hH3 : upd (upd (upd (upd H d (.dT [])) q0 (.tup [])) z (.tup [.int 0, .int 1])) d (.dT [([], .ref z)]) = H3
  have s03 : Same H H3 := by
    intro b o e
    rw [← hH3, upd_ne (ne_of_none e hd)]
    exact same_new hz _ _ (same_new h0 _ _ (same_new hd _ _ e))
  have pap : PapAt H3 d [[]] (fV ns) := by
    refine ⟨[z], by rw [← hH3]; exact upd_same, .cons ?_ .nil⟩
    have nz : z ≠ d := fun w => by rw [w, same_new h0 _ _ upd_same] at hz; exact nomatch hz
    rw [← hH3, upd_ne nz, upd_same, fV_nil, frV_zero]
  clear hH3
  refine ⟨_, rfl, a, _, rfl, .inr (.inl (.inl (s03 _ _ hA))), ns.length, by rw [List.length_map]; rfl, hn, fun H4 L qs s4 hL eL tp => ?_⟩
  have s04 := s03.trans s4
  have pap4 := pap.mono s4
  have eA4 := s04 _ _ hA
  obtain ⟨ps4, ed4, _⟩ := id pap4
  have nd : ∀ {b : Addr} {xs : List V}, H4 b = some (.tup xs) → b ≠ d := fun e => ne_of e ed4 (by intro w; cases w)
  have nL : L ≠ d := ne_of eL ed4 (by intro w; cases w)
  refine ⟨L, rfl, ⟨_, .inl (.inl eL)⟩, for_list (xs := qs.map V.ref) (fun i σ H' => ∃ y2 y3 y4 y5, σ = [some (.ref a), some (.ref d), y2, y3, y4, y5, none] ∧ Kp d H4 H' ∧ PapAt H' d ((allSub (rg ns.length)).take (max i 1)) (fV ns)) ?_ ?_ ?_ ?_⟩
  · refine ⟨none, none, none, none, rfl, Kp.of (Same.refl _), ?_⟩
    rw [show max 0 1 = 0 + 1 from rfl, take_step sub_nil]
    exact pap4
  · rintro i σ H5 _ ⟨y2, y3, y4, y5, rfl, k5, _⟩
    exact .inl (.inl (k5 _ _ nL eL))
  · rintro i y σ H5 hi ⟨y2, y3, y4, y5, rfl, k5, pap5⟩
    obtain ⟨p, hp, rfl, hpm⟩ := ref_at hi
    obtain ⟨S, hS, eS⟩ := paired_at tp hp
    have so := sub_at hn hS
    have hlS := so.len
    have hi' := (List.getElem?_eq_some_iff.mp hS).1
    have hi2 := hi'
    rw [allSub_len _ _ (rg_len _)] at hi2
    have hi3 : i < 32 := Nat.lt_of_lt_of_le hi2 (Nat.pow_le_pow_right (by decide) hn)
    have eS5 := k5 _ _ (nd eS) eS
    have eA5 := k5 _ _ (nd eA4) eA4
    refine ⟨_, rfl, Nat.zero_le _, fun e0 he0 => ⟨_, _, dp_tup (S := S) (same_new he0 _ _ eS5), dp_tup (S := []) upd_same, shaped_ints _, shaped_ints _, _, rfl, ?_⟩⟩
    rw [eqv_ints]
    have sE := same_new (o := .tup []) he0
    by_cases hS0 : S = []
    · refine iteNS hS0 ⟨_, _, _, _, rfl, k5.trans (Kp.of sE), ?_⟩
      have i0 : i = 0 := Classical.byContradiction fun z => so.one z hS0
      subst i0
      exact pap5.mono sE
    rw [decide_eq_false hS0]
    refine iteT ?_
    have h1i : max i 1 = i := by
      have : i ≠ 0 := fun z => hS0 (by subst z; rw [sub_nil] at hS; exact (Option.some.inj hS).symm)
      omega
    rw [h1i] at pap5
    refine ⟨_, rfl, a, ns, rfl, .inr (.inl (.inl (sE _ _ eA5))), sz2, fun m0 hm0 => ?_⟩
    have s6 := sE.trans (same_new (o := .tup [.int ns.sum, .int 1]) hm0)
    generalize hH6 : upd (upd H5 e0 (.tup [])) m0 (.tup [.int ns.sum, .int 1]) = H6 at s6
    have em0 : H6 m0 = some (.tup (frV (psum ns S (fV ns) 0))) := by rw [← hH6, upd_same, psum_zero, frV_int]
    clear hH6
    have eS6 := s6 _ _ eS5
    have eA6 := s6 _ _ eA5
    have pap6 := pap5.mono s6
    refine ⟨_, rfl, p, rfl, ⟨_, .inl (.inl eS6)⟩, for_tup (xs := S.map V.int) (fun j σ H' => ∃ m y4 y5, σ = [some (.ref a), some (.ref d), some (.ref p), some (.ref m), y4, y5, none] ∧ Same H6 H' ∧ H' m = some (.tup (frV (psum ns S (fV ns) j))) ∧ Sz (229 * j + 6) (psum ns S (fV ns) j)) ?_ ?_ ?_ ?_⟩
    · refine ⟨m0, y4, y5, rfl, Same.refl _, em0, ?_⟩
      rw [psum_zero]
      exact sz_int (by omega) (by decide)
    · rintro j σ H7 _ ⟨m, y4, y5, rfl, s7, _⟩
      exact .inl (.inl (s7 _ _ eS6))
    · rintro j y σ H7 hj ⟨m, y4, y5, rfl, s7, em, sz⟩
      obtain ⟨k, hk, rfl, hkm⟩ := map_at hj
      have hj' := (List.getElem?_eq_some_iff.mp hk).1
      have kk := so.mem k hkm
      have eS7 := s7 _ _ eS6
      have eA7 := s7 _ _ eA6
      refine ⟨_, rfl, _, rfl, p, rfl, ⟨_, .inl (.inl eS7)⟩, fun D hD => ?_⟩
      refine lc_tup (xs := S.map V.int) (fun i => LcI H7 D (((S.take i).filter (fun j => decide (j ≠ k))).map V.int)) ⟨same_new hD, upd_same⟩ (fun i H' _ h => .inl (.inl (h.1 _ _ eS7))) ?_ ?_
      · rintro l y H8 hl h
        obtain ⟨x, hx, rfl, hxm⟩ := map_at hl
        refine ⟨rfl, ⟨_, rfl, _, rfl, rfl, _, rfl, ?_⟩⟩
        have hll : (((S.take l).filter (fun j => decide (j ≠ k))).map V.int).length ≤ 1000 := by
          rw [List.length_map]
          have := List.length_filter_le (fun j => decide (j ≠ k)) (S.take l)
          rw [List.length_take] at this
          omega
        by_cases hxk : x = k
        · refine iteNS (by rw [hxk]) ?_
          rw [filter_step k hx, if_pos hxk, List.append_nil]
          exact h
        · rw [decide_eq_false (fun w => hxk (V.int.inj w))]
          refine iteT ⟨_, rfl, ?_⟩
          rw [filter_step k hx, if_neg hxk, List.map_append]
          exact h.put hD hll (Same.refl _)
      · rintro H8 h
        rw [List.length_map, List.take_length] at h
        refine ⟨D, _, rfl, .inl ⟨.inl (.inl h.2), fun t ht => ?_⟩⟩
        have s8 := h.1.trans (same_new (o := .tup ((S.filter (fun j => decide (j ≠ k))).map V.int)) ht)
        obtain ⟨pp, dg, epp⟩ := ((pap6.mono s7).mono s8).get (so.fewer k hkm) (b := t) upd_same
        refine ⟨d, _, rfl, dg, ?_⟩
        generalize upd H8 t (.tup ((S.filter (fun j => decide (j ≠ k))).map V.int)) = H9 at s8 dg epp ⊢
        have em9 := s8 _ _ em
        have eA9 := s8 _ _ eA7
        have fz : Sz 223 (fV ns (S.filter (fun j => decide (j ≠ k)))) := fV_sz g (Nat.le_trans (List.length_filter_le _ _) hlS) (fun i hi => so.mem i (List.mem_filter.mp hi).1)
        generalize hfx : fV ns (S.filter (fun j => decide (j ≠ k))) = fx at epp fz
        have kg := sh_good g kk
        have ek : sh ns k = ns.getD k.toNat 0 := rfl
        have zc : (fx.num * ns.getD k.toNat 0).natAbs < 2 ^ 227 := by
          rw [← ek]
          exact sz_mul (m := 223) (n := 4) fz.1 (by omega)
        have zd : ((fx.den : Int)).natAbs < 2 ^ 223 := by rw [Int.natAbs_natCast]; exact fz.2
        refine ⟨_, rfl, _, rfl, pp, _, 0, _, rfl, rfl, .inl (.inl epp), rfl, _, rfl, _, rfl, a, _, k, _, rfl, rfl, .inl (.inl eA9), at_kind kk.1 kk.2, _, _, rfl, rfl, mulW (sz_le fz.1 (by decide)) (sz_le (n := 4000) (m := 4) (by rw [← ek]; omega) (by decide)), _, rfl, pp, _, 1, _, rfl, rfl, .inl (.inl epp), rfl, sz2, fun t2 ht2 => ?_⟩
        have s10 := same_new (o := .tup [.int (fx.num * ns.getD k.toNat 0), .int (fx.den : Int)]) ht2
        refine ⟨m, t2, _, _, _, _, rfl, s10 _ _ em9, upd_same, den_pos _, den_pos _, ?_, ?_, sz_le zc (by decide), sz_le zd (by decide), fun H11 r s11 hr er => ?_⟩
        · exact sz_le sz.1 (by omega)
        · rw [Int.natAbs_natCast]; exact Nat.lt_of_lt_of_le sz.2 (Nat.pow_le_pow_right (by decide) (by omega))
        · rw [low_plus _ (den_pos fx), ← ek, rat_scaled] at er
          refine ⟨r, _, _, rfl, ((s7.trans s8).trans s10).trans s11, ?_, ?_⟩
          · rw [er, psum_succ hk, hfx]
          · rw [psum_succ hk, hfx]
            refine (sz.add (Sz.mul (sz_int (n := 4) (by omega) (by decide)) fz)).mono (by omega)
    · rintro σ H7 ⟨m, y4, y5, rfl, s7, em, sz⟩
      have eS7 := s7 _ _ eS6
      have eA7 := s7 _ _ eA6
      rw [List.length_map] at em sz
      have pp := pick_pos g hS0 so.mem hlS
      have hdue : psum ns S (fV ns) S.length / (((pick ns S).sum : Int) : Rat) = fV ns S := by
        refine div_of (cast_ne pp.1) ?_
        unfold psum
        rw [List.take_length]
        exact fV_rec so.rise hS0 (fun k hk => by have := sh_good g (so.mem k hk); omega)
      generalize hX : psum ns S (fV ns) S.length = X at em sz hdue
      refine ⟨_, rfl, m, _, 0, _, rfl, rfl, .inl (.inl em), rfl, _, rfl, m, _, 1, _, rfl, rfl, .inl (.inl em), rfl, _, rfl, p, rfl, ⟨_, .inl (.inl eS7)⟩, fun D hD => ?_⟩
      refine lc_tup (xs := S.map V.int) (fun i => LcI H7 D ((pick ns (S.take i)).map V.int)) ⟨same_new hD, upd_same⟩ (fun i H' _ h => .inl (.inl (h.1 _ _ eS7))) ?_ ?_
      · rintro l y H8 hl h
        obtain ⟨k, hz, rfl, hkm⟩ := map_at hl
        have kk := so.mem k hkm
        refine ⟨rfl, yesT ⟨_, rfl, _, rfl, a, _, k, _, rfl, rfl, .inl (.inl (h.1 _ _ eA7)), at_kind kk.1 kk.2, ?_⟩⟩
        have e : (pick ns (S.take (l + 1))).map V.int = (pick ns (S.take l)).map V.int ++ [V.int (ns.getD k.toNat 0)] := by rw [take_step hz, pick, pick, List.map_append, List.map_append]; rfl
        rw [e]
        exact h.put hD (by rw [List.length_map, pick, List.length_map, List.length_take]; omega) (Same.refl _)
      · rintro H8 h
        rw [List.length_map, List.take_length] at h
        refine ⟨D, pick ns S, rfl, .inl (.inl (.inl h.2)), _, _, rfl, rfl, ?_, _, _, rfl, Int.mul_pos (den_pos X) pp.1, ?_, fun H9 r s9 hr er => ?_⟩
        · exact mulW (by rw [Int.natAbs_natCast]; exact Nat.lt_of_lt_of_le sz.2 (Nat.pow_le_pow_right (by decide) (by omega))) (sz_le (m := 6) (by omega) (by decide))
        · exact log_prod (by rw [Int.natAbs_natCast]; exact Nat.lt_of_lt_of_le sz.2 (Nat.pow_le_pow_right (by decide) (by omega))) (sz_le (m := 6) (by omega) (by decide))
        · rw [low_over _ pp.1, hdue] at er
          have s79 := h.1.trans s9
          obtain ⟨H10, dp, pap10, k10⟩ := ((pap6.mono s7).mono s79).put so.new (by rw [List.length_take]; omega) (s79 _ _ eS7) er
          refine ⟨_, rfl, _, rfl, d, H10, rfl, dp, _, _, _, _, rfl, ?_, ?_⟩
          · exact k5.trans ((Kp.of ((s6.trans s7).trans s79)).trans k10)
          · rw [show max (i + 1) 1 = i + 1 by omega, take_step hS]
            exact pap10
  · rintro σ H5 ⟨y2, y3, y4, y5, rfl, k5, pap5⟩
    rw [List.length_map, Paired.length tp] at pap5
    have hp := Nat.two_pow_pos ns.length
    rw [show max (allSub (rg ns.length)).length 1 = (allSub (rg ns.length)).length by rw [allSub_len _ _ (rg_len _)]; omega, List.take_length] at pap5
    refine ⟨_, rfl, q H5 d ?_ hd pap5⟩
    intro b o e
    exact k5 b o (ne_of_none e hd) (s04 b o e)
end
end KGX

namespace KGX
open PySem PySem.Spec PyProof.Rows L2
section
variable {P : Program} {w : World} {K : PySem.W.Frag} {mg : Str → Option Value} {base : Heap}
--GUARDED
theorem ok_law (T : Tx K mg) : KG.FnG P w K mg base 6 T.a_law T.d_law ["_law_script"] (sp_law K) := by
  refine KG.okG T.F_law sc_law (fun vs H Q E h => ?_) (fun cdv A outer s H vs Q E gd hr h => ?_)
  · obtain ⟨a, ns, rfl, _⟩ := h; rfl
  obtain ⟨a, ns, rfl, hS, hl, q⟩ := h
  refine ⟨_, (pss_cons (ps_for PassesOwn.never rfl (pi_range1 (by rfl) T.m_range (pa_cons (pe_callB (call_max2 rfl) (by rfl) T.m_max bt_max (pa_cons pe_int (pa_cons (pe_callB (call_min2 rfl) (by rfl) T.m_min bt_min (pa_cons (pe_callB (r := Evl.rLenS K) call_len_seq (by rfl) T.m_len bt_len (pa_cons (pv 0) pa_nil)) (pa_cons pe_int pa_nil))) pa_nil))) pa_nil)) (pg_name (i := 1) sc_law.nd rfl (Or.inl rfl)) (pss_cons (ps_set (i := 2) sc_law.nd rfl (Or.inl rfl) (pe_call (ok__law_drawn_shares T) (hr.mono (by decide)) (by rfl) T.g__law_drawn_shares T.F__law_drawn_shares.kp T.b__law_drawn_shares .nil pass0 (pa_cons (pe_call (ok__law_box T) (hr.mono (by decide)) (by rfl) T.g__law_box T.F__law_box.kp T.b__law_box .nil pass0 (pa_cons (pv 0) (pa_cons (pv 1) pa_nil))) (pa_cons pe_int (pa_cons pe_int pa_nil)))))
      (pss_one (ps_if (pt_cmpR op_ne (pe_callB (r := KG.rRepr K) (KG.call_repr gd hr) (by rfl) T.m_repr bt_repr (pa_cons (pe_call (ok_mean_all T) (hr.mono (by decide)) (by rfl) T.g_mean_all T.F_mean_all.kp T.b_mean_all .nil pass0 (pa_cons (pv 2) pa_nil)) pa_nil)) (pe_callB (r := KG.rRepr K) (KG.call_repr gd hr) (by rfl) T.m_repr bt_repr (pa_cons (pe_dget (hu_of hr) (pe_call (ok__law_paper T) (hr.mono (by decide)) (by rfl) T.g__law_paper T.F__law_paper.kp T.b__law_paper .nil pass0 (pa_cons (pv 2) pa_nil)) (pe_tupRg rfl (by rfl) T.m_tuple (prg_1 (by rfl) T.m_range (pe_callB (r := Evl.rLenS K) call_len_seq (by rfl) T.m_len bt_len (pa_cons (pv 2) pa_nil)))) (fun _ _ => rfl)) pa_nil)) (nomark _)) (pss_one (ps_ret pe_bl)) pss_nil))))
      (pss_one (ps_ret pe_bl))), ?_⟩
  refine ⟨_, rfl, a, _, rfl, .inl hS, _, _, rfl, _, _, rfl, ?_⟩
  generalize hM : (if (if (3 : Int) < ((ns.map V.int).length : Int) then (3 : Int) else ((ns.map V.int).length : Int)) > 1 then (if (3 : Int) < ((ns.map V.int).length : Int) then (3 : Int) else ((ns.map V.int).length : Int)) else (1 : Int)) = M
  have hM1 : 1 ≤ M ∧ M ≤ 3 := by
    rw [← hM]
    split <;> split <;> omega
  refine ⟨M, rfl, by omega, by omega, for_range (n := M.toNat) (fun i σ H' => ∃ y1 y2, σ = [some (.ref a), y1, y2] ∧ Same H H') ⟨_, _, rfl, Same.refl _⟩ ?_ ?_⟩
  · rintro i σ H1 hi ⟨y1, y2, rfl, s1⟩
    refine ⟨_, rfl, _, rfl, a, ns, i, by rw [Int.zero_add]; rfl, s1.seq hS, fun H2 b n s2 hb eb => ?_⟩
    refine ⟨b, n, 5, 9, rfl, eb, by decide, by decide, by decide, by decide, fun H3 p n3 ss k3 e3 hp ep l1 l2 hss => ?_⟩
    have g : Good ss := ⟨l1, by omega, hss⟩
    have hb0 : H b = none := s1.free hb
    have s13 : Same H H3 := fun x o e => k3 x o (ne_of_none e hb0) (s2 x o (s1 x o e))
    refine ⟨_, rfl, p, ss, rfl, ep, g, fun H4 m s4 hm em => ?_⟩
    have fz := fV_sz (S := rg ss.length) g (by rw [rg_len]; omega) (sub_all (by omega) rg_mem).choose_spec.2.2.mem
    refine ⟨_, _, rfl, dp_fr em, log_den fz (by decide) (by decide), ?_⟩
    refine ⟨_, rfl, p, ss, rfl, s4 _ _ ep, g, fun H5 d s5 hd pap => ?_⟩
    refine ⟨_, rfl, p, _, rfl, .inr (.inl (.inl (s5 _ _ (s4 _ _ ep)))), _, rfl, RgOk.of_le (by omega) (by rw [List.length_map]; omega) (by omega) (by omega), fun c hc => ?_⟩
    rw [List.length_map, rgV_rg]
    have s6 := same_new (o := .tup ((rg ss.length).map V.int)) hc
    obtain ⟨p2, dg, ep2⟩ := (pap.mono s6).get rg_mem (b := c) upd_same
    refine ⟨d, _, rfl, dg, _, _, rfl, dp_fr ep2, log_den fz (by decide) (by decide), rfl, _, rfl, iteNS rfl ?_⟩
    exact ⟨_, _, rfl, ((s13.trans s4).trans s5).trans s6⟩
  · rintro σ H1 _
    exact q _
end
end KGX

namespace KGX
open PySem PySem.Spec PyProof.Rows L2
theorem all_mk {l : PySem.W.OpenLaw} {w : World} {K : PySem.W.Frag} {h : Heap} {mg : Str → Option Value} {fa : Addr} (X : K.In h) (G : h.Ns mainGlobals mg) (hfa : mg "law" = some (.ref fa))
    {f0 : Addr} {od0 an0 : Option Addr} {sl0 : Array (Option Value)} {oc0 kV0 dc0 pm0 cd0 ct0 : Value} {f1 : Addr} {od1 an1 : Option Addr} {sl1 : Array (Option Value)} {oc1 kV1 dc1 pm1 cd1 ct1 : Value} {f2 : Addr} {od2 an2 : Option Addr} {sl2 : Array (Option Value)} {oc2 kV2 dc2 pm2 cd2 ct2 : Value} {f3 : Addr} {od3 an3 : Option Addr} {sl3 : Array (Option Value)} {oc3 kV3 dc3 pm3 cd3 ct3 : Value} {f4 : Addr} {od4 an4 : Option Addr} {sl4 : Array (Option Value)} {oc4 kV4 dc4 pm4 cd4 ct4 : Value} {f5 : Addr} {od5 an5 : Option Addr} {sl5 : Array (Option Value)} {oc5 kV5 dc5 pm5 cd5 ct5 : Value} {f6 : Addr} {od6 an6 : Option Addr} {sl6 : Array (Option Value)} {oc6 kV6 dc6 pm6 cd6 ct6 : Value} {f7 : Addr} {od7 an7 : Option Addr} {sl7 : Array (Option Value)} {oc7 kV7 dc7 pm7 cd7 ct7 : Value} {f8 : Addr} {od8 an8 : Option Addr} {sl8 : Array (Option Value)} {oc8 kV8 dc8 pm8 cd8 ct8 : Value} {f9 : Addr} {od9 an9 : Option Addr} {sl9 : Array (Option Value)} {oc9 kV9 dc9 pm9 cd9 ct9 : Value} {f10 : Addr} {od10 an10 : Option Addr} {sl10 : Array (Option Value)} {oc10 kV10 dc10 pm10 cd10 ct10 : Value} {f11 : Addr} {od11 an11 : Option Addr} {sl11 : Array (Option Value)} {oc11 kV11 dc11 pm11 cd11 ct11 : Value} {f12 : Addr} {od12 an12 : Option Addr} {sl12 : Array (Option Value)} {oc12 kV12 dc12 pm12 cd12 ct12 : Value} {f13 : Addr} {od13 an13 : Option Addr} {sl13 : Array (Option Value)} {oc13 kV13 dc13 pm13 cd13 ct13 : Value} {f14 : Addr} {od14 an14 : Option Addr} {sl14 : Array (Option Value)} {oc14 kV14 dc14 pm14 cd14 ct14 : Value} {f15 : Addr} {od15 an15 : Option Addr} {sl15 : Array (Option Value)} {oc15 kV15 dc15 pm15 cd15 ct15 : Value} {f16 : Addr} {od16 an16 : Option Addr} {sl16 : Array (Option Value)} {oc16 kV16 dc16 pm16 cd16 ct16 : Value} {f17 : Addr} {od17 an17 : Option Addr} {sl17 : Array (Option Value)} {oc17 kV17 dc17 pm17 cd17 ct17 : Value} {f18 : Addr} {od18 an18 : Option Addr} {sl18 : Array (Option Value)} {oc18 kV18 dc18 pm18 cd18 ct18 : Value} {f19 : Addr} {od19 an19 : Option Addr} {sl19 : Array (Option Value)} {oc19 kV19 dc19 pm19 cd19 ct19 : Value} {f20 : Addr} {od20 an20 : Option Addr} {sl20 : Array (Option Value)} {oc20 kV20 dc20 pm20 cd20 ct20 : Value} {f21 : Addr} {od21 an21 : Option Addr} {sl21 : Array (Option Value)} {oc21 kV21 dc21 pm21 cd21 ct21 : Value} {f22 : Addr} {od22 an22 : Option Addr} {sl22 : Array (Option Value)} {oc22 kV22 dc22 pm22 cd22 ct22 : Value} {f23 : Addr} {od23 an23 : Option Addr} {sl23 : Array (Option Value)} {oc23 kV23 dc23 pm23 cd23 ct23 : Value} {f24 : Addr} {od24 an24 : Option Addr} {sl24 : Array (Option Value)} {oc24 kV24 dc24 pm24 cd24 ct24 : Value} {t_MOST_KINDS : Tok} {t_MOST_SHARE : Tok}
    (a0 : PySem.W.nsIn K mainGlobals "is_whole" = some (some (.ref f0))) (l0 : K.lookup f0 = some ⟨oc0, od0, .func (PySem.W.fnOf "is_whole" "is_whole" (defArgs s_is_whole) (defBody s_is_whole) (defScope s_is_whole) .none kV0 dc0 pm0 an0 cd0 ct0), sl0⟩)
    (c0 : PySem.W.codeIn K cd0 "is_whole" = true) (k0 : PySem.W.keepIn K (.ref f0) = true)
    (a1 : PySem.W.nsIn K mainGlobals "is_whole_within" = some (some (.ref f1))) (l1 : K.lookup f1 = some ⟨oc1, od1, .func (PySem.W.fnOf "is_whole_within" "is_whole_within" (defArgs s_is_whole_within) (defBody s_is_whole_within) (defScope s_is_whole_within) .none kV1 dc1 pm1 an1 cd1 ct1), sl1⟩)
    (c1 : PySem.W.codeIn K cd1 "is_whole_within" = true) (k1 : PySem.W.keepIn K (.ref f1) = true)
    (a2 : PySem.W.nsIn K mainGlobals "greatest_divisor" = some (some (.ref f2))) (l2 : K.lookup f2 = some ⟨oc2, od2, .func (PySem.W.fnOf "greatest_divisor" "greatest_divisor" (defArgs s_greatest_divisor) (defBody s_greatest_divisor) (defScope s_greatest_divisor) .none kV2 dc2 pm2 an2 cd2 ct2), sl2⟩)
    (c2 : PySem.W.codeIn K cd2 "greatest_divisor" = true) (k2 : PySem.W.keepIn K (.ref f2) = true)
    (a3 : PySem.W.nsIn K mainGlobals "is_fraction" = some (some (.ref f3))) (l3 : K.lookup f3 = some ⟨oc3, od3, .func (PySem.W.fnOf "is_fraction" "is_fraction" (defArgs s_is_fraction) (defBody s_is_fraction) (defScope s_is_fraction) .none kV3 dc3 pm3 an3 cd3 ct3), sl3⟩)
    (c3 : PySem.W.codeIn K cd3 "is_fraction" = true) (k3 : PySem.W.keepIn K (.ref f3) = true)
    (a4 : PySem.W.nsIn K mainGlobals "lowest" = some (some (.ref f4))) (l4 : K.lookup f4 = some ⟨oc4, od4, .func (PySem.W.fnOf "lowest" "lowest" (defArgs s_lowest) (defBody s_lowest) (defScope s_lowest) .none kV4 dc4 pm4 an4 cd4 ct4), sl4⟩)
    (c4 : PySem.W.codeIn K cd4 "lowest" = true) (k4 : PySem.W.keepIn K (.ref f4) = true)
    (a5 : PySem.W.nsIn K mainGlobals "check_fractions" = some (some (.ref f5))) (l5 : K.lookup f5 = some ⟨oc5, od5, .func (PySem.W.fnOf "check_fractions" "check_fractions" (defArgs s_check_fractions) (defBody s_check_fractions) (defScope s_check_fractions) .none kV5 dc5 pm5 an5 cd5 ct5), sl5⟩)
    (c5 : PySem.W.codeIn K cd5 "check_fractions" = true) (k5 : PySem.W.keepIn K (.ref f5) = true)
    (a6 : PySem.W.nsIn K mainGlobals "added" = some (some (.ref f6))) (l6 : K.lookup f6 = some ⟨oc6, od6, .func (PySem.W.fnOf "added" "added" (defArgs s_added) (defBody s_added) (defScope s_added) .none kV6 dc6 pm6 an6 cd6 ct6), sl6⟩)
    (c6 : PySem.W.codeIn K cd6 "added" = true) (k6 : PySem.W.keepIn K (.ref f6) = true)
    (a7 : PySem.W.nsIn K mainGlobals "lessened" = some (some (.ref f7))) (l7 : K.lookup f7 = some ⟨oc7, od7, .func (PySem.W.fnOf "lessened" "lessened" (defArgs s_lessened) (defBody s_lessened) (defScope s_lessened) .none kV7 dc7 pm7 an7 cd7 ct7), sl7⟩)
    (c7 : PySem.W.codeIn K cd7 "lessened" = true) (k7 : PySem.W.keepIn K (.ref f7) = true)
    (a8 : PySem.W.nsIn K mainGlobals "is_shares" = some (some (.ref f8))) (l8 : K.lookup f8 = some ⟨oc8, od8, .func (PySem.W.fnOf "is_shares" "is_shares" (defArgs s_is_shares) (defBody s_is_shares) (defScope s_is_shares) .none kV8 dc8 pm8 an8 cd8 ct8), sl8⟩)
    (c8 : PySem.W.codeIn K cd8 "is_shares" = true) (k8 : PySem.W.keepIn K (.ref f8) = true)
    (a9 : PySem.W.nsIn K mainGlobals "check_shares" = some (some (.ref f9))) (l9 : K.lookup f9 = some ⟨oc9, od9, .func (PySem.W.fnOf "check_shares" "check_shares" (defArgs s_check_shares) (defBody s_check_shares) (defScope s_check_shares) .none kV9 dc9 pm9 an9 cd9 ct9), sl9⟩)
    (c9 : PySem.W.codeIn K cd9 "check_shares" = true) (k9 : PySem.W.keepIn K (.ref f9) = true)
    (a10 : PySem.W.nsIn K mainGlobals "all_kinds" = some (some (.ref f10))) (l10 : K.lookup f10 = some ⟨oc10, od10, .func (PySem.W.fnOf "all_kinds" "all_kinds" (defArgs s_all_kinds) (defBody s_all_kinds) (defScope s_all_kinds) .none kV10 dc10 pm10 an10 cd10 ct10), sl10⟩)
    (c10 : PySem.W.codeIn K cd10 "all_kinds" = true) (k10 : PySem.W.keepIn K (.ref f10) = true)
    (a11 : PySem.W.nsIn K mainGlobals "all_some" = some (some (.ref f11))) (l11 : K.lookup f11 = some ⟨oc11, od11, .func (PySem.W.fnOf "all_some" "all_some" (defArgs s_all_some) (defBody s_all_some) (defScope s_all_some) .none kV11 dc11 pm11 an11 cd11 ct11), sl11⟩)
    (c11 : PySem.W.codeIn K cd11 "all_some" = true) (k11 : PySem.W.keepIn K (.ref f11) = true)
    (a12 : PySem.W.nsIn K mainGlobals "share_of" = some (some (.ref f12))) (l12 : K.lookup f12 = some ⟨oc12, od12, .func (PySem.W.fnOf "share_of" "share_of" (defArgs s_share_of) (defBody s_share_of) (defScope s_share_of) .none kV12 dc12 pm12 an12 cd12 ct12), sl12⟩)
    (c12 : PySem.W.codeIn K cd12 "share_of" = true) (k12 : PySem.W.keepIn K (.ref f12) = true)
    (a13 : PySem.W.nsIn K mainGlobals "mean_all" = some (some (.ref f13))) (l13 : K.lookup f13 = some ⟨oc13, od13, .func (PySem.W.fnOf "mean_all" "mean_all" (defArgs s_mean_all) (defBody s_mean_all) (defScope s_mean_all) .none kV13 dc13 pm13 an13 cd13 ct13), sl13⟩)
    (c13 : PySem.W.codeIn K cd13 "mean_all" = true) (k13 : PySem.W.keepIn K (.ref f13) = true)
    (a14 : PySem.W.nsIn K mainGlobals "_law_cell" = some (some (.ref f14))) (l14 : K.lookup f14 = some ⟨oc14, od14, .func (PySem.W.fnOf "_law_cell" "_law_cell" (defArgs s__law_cell) (defBody s__law_cell) (defScope s__law_cell) .none kV14 dc14 pm14 an14 cd14 ct14), sl14⟩)
    (c14 : PySem.W.codeIn K cd14 "_law_cell" = true) (k14 : PySem.W.keepIn K (.ref f14) = true)
    (a15 : PySem.W.nsIn K mainGlobals "_law_mix" = some (some (.ref f15))) (l15 : K.lookup f15 = some ⟨oc15, od15, .func (PySem.W.fnOf "_law_mix" "_law_mix" (defArgs s__law_mix) (defBody s__law_mix) (defScope s__law_mix) .none kV15 dc15 pm15 an15 cd15 ct15), sl15⟩)
    (c15 : PySem.W.codeIn K cd15 "_law_mix" = true) (k15 : PySem.W.keepIn K (.ref f15) = true)
    (a16 : PySem.W.nsIn K mainGlobals "_law_box" = some (some (.ref f16))) (l16 : K.lookup f16 = some ⟨oc16, od16, .func (PySem.W.fnOf "_law_box" "_law_box" (defArgs s__law_box) (defBody s__law_box) (defScope s__law_box) .none kV16 dc16 pm16 an16 cd16 ct16), sl16⟩)
    (c16 : PySem.W.codeIn K cd16 "_law_box" = true) (k16 : PySem.W.keepIn K (.ref f16) = true)
    (a17 : PySem.W.nsIn K mainGlobals "_law_take" = some (some (.ref f17))) (l17 : K.lookup f17 = some ⟨oc17, od17, .func (PySem.W.fnOf "_law_take" "_law_take" (defArgs s__law_take) (defBody s__law_take) (defScope s__law_take) .none kV17 dc17 pm17 an17 cd17 ct17), sl17⟩)
    (c17 : PySem.W.codeIn K cd17 "_law_take" = true) (k17 : PySem.W.keepIn K (.ref f17) = true)
    (a18 : PySem.W.nsIn K mainGlobals "_law_drawn_shares" = some (some (.ref f18))) (l18 : K.lookup f18 = some ⟨oc18, od18, .func (PySem.W.fnOf "_law_drawn_shares" "_law_drawn_shares" (defArgs s__law_drawn_shares) (defBody s__law_drawn_shares) (defScope s__law_drawn_shares) .none kV18 dc18 pm18 an18 cd18 ct18), sl18⟩)
    (c18 : PySem.W.codeIn K cd18 "_law_drawn_shares" = true) (k18 : PySem.W.keepIn K (.ref f18) = true)
    (a19 : PySem.W.nsIn K mainGlobals "_law_common" = some (some (.ref f19))) (l19 : K.lookup f19 = some ⟨oc19, od19, .func (PySem.W.fnOf "_law_common" "_law_common" (defArgs s__law_common) (defBody s__law_common) (defScope s__law_common) .none kV19 dc19 pm19 an19 cd19 ct19), sl19⟩)
    (c19 : PySem.W.codeIn K cd19 "_law_common" = true) (k19 : PySem.W.keepIn K (.ref f19) = true)
    (a20 : PySem.W.nsIn K mainGlobals "_law_made" = some (some (.ref f20))) (l20 : K.lookup f20 = some ⟨oc20, od20, .func (PySem.W.fnOf "_law_made" "_law_made" (defArgs s__law_made) (defBody s__law_made) (defScope s__law_made) .none kV20 dc20 pm20 an20 cd20 ct20), sl20⟩)
    (c20 : PySem.W.codeIn K cd20 "_law_made" = true) (k20 : PySem.W.keepIn K (.ref f20) = true)
    (a21 : PySem.W.nsIn K mainGlobals "_law_plus" = some (some (.ref f21))) (l21 : K.lookup f21 = some ⟨oc21, od21, .func (PySem.W.fnOf "_law_plus" "_law_plus" (defArgs s__law_plus) (defBody s__law_plus) (defScope s__law_plus) .none kV21 dc21 pm21 an21 cd21 ct21), sl21⟩)
    (c21 : PySem.W.codeIn K cd21 "_law_plus" = true) (k21 : PySem.W.keepIn K (.ref f21) = true)
    (a22 : PySem.W.nsIn K mainGlobals "_law_all_some" = some (some (.ref f22))) (l22 : K.lookup f22 = some ⟨oc22, od22, .func (PySem.W.fnOf "_law_all_some" "_law_all_some" (defArgs s__law_all_some) (defBody s__law_all_some) (defScope s__law_all_some) .none kV22 dc22 pm22 an22 cd22 ct22), sl22⟩)
    (c22 : PySem.W.codeIn K cd22 "_law_all_some" = true) (k22 : PySem.W.keepIn K (.ref f22) = true)
    (a23 : PySem.W.nsIn K mainGlobals "_law_paper" = some (some (.ref f23))) (l23 : K.lookup f23 = some ⟨oc23, od23, .func (PySem.W.fnOf "_law_paper" "_law_paper" (defArgs s__law_paper) (defBody s__law_paper) (defScope s__law_paper) .none kV23 dc23 pm23 an23 cd23 ct23), sl23⟩)
    (c23 : PySem.W.codeIn K cd23 "_law_paper" = true) (k23 : PySem.W.keepIn K (.ref f23) = true)
    (a24 : PySem.W.nsIn K mainGlobals "law" = some (some (.ref f24))) (l24 : K.lookup f24 = some ⟨oc24, od24, .func (PySem.W.fnOf "law" "law" (defArgs s_law) (defBody s_law) (defScope s_law) .none kV24 dc24 pm24 an24 cd24 ct24), sl24⟩)
    (c24 : PySem.W.codeIn K cd24 "law" = true) (k24 : PySem.W.keepIn K (.ref f24) = true)
    (z_isinstance : PySem.W.nsIn K mainGlobals "isinstance" = some none)
    (z_int : PySem.W.nsIn K mainGlobals "int" = some none)
    (z_bool : PySem.W.nsIn K mainGlobals "bool" = some none)
    (z_abs : PySem.W.nsIn K mainGlobals "abs" = some none)
    (z_tuple : PySem.W.nsIn K mainGlobals "tuple" = some none)
    (z_len : PySem.W.nsIn K mainGlobals "len" = some none)
    (z_all : PySem.W.nsIn K mainGlobals "all" = some none)
    (z_range : PySem.W.nsIn K mainGlobals "range" = some none)
    (z_sum : PySem.W.nsIn K mainGlobals "sum" = some none)
    (z_divmod : PySem.W.nsIn K mainGlobals "divmod" = some none)
    (z_max : PySem.W.nsIn K mainGlobals "max" = some none)
    (z_min : PySem.W.nsIn K mainGlobals "min" = some none)
    (z_repr : PySem.W.nsIn K mainGlobals "repr" = some none)
    (y_MOST_KINDS : PySem.W.nsIn K mainGlobals "MOST_KINDS" = some (some (.int 5 t_MOST_KINDS)))
    (y_MOST_SHARE : PySem.W.nsIn K mainGlobals "MOST_SHARE" = some (some (.int 9 t_MOST_SHARE))) :
    ∃ fd : FuncData, (∀ (s : Shared) (v : Value), BindsTo s fd ⟨[v], []⟩ [("_law_script", v)]) ∧ ∀ base : Heap, K.In base → base.Ns mainGlobals mg → KG.FnG l.prog w K mg base 6 fa fd ["_law_script"] (sp_law K) := by
  have T : ∃ T : Tx K mg, T.a_law = f24 ∧ T.d_law = PySem.W.fnOf "law" "law" (defArgs s_law) (defBody s_law) (defScope s_law) .none kV24 dc24 pm24 an24 cd24 ct24 := ⟨{
    a_is_whole := f0, d_is_whole := _, F_is_whole := fun_mk (st := s_is_whole) l0 c0 k0, g_is_whole := PySem.W.mg_of X G a0, b_is_whole := (fun_mk (st := s_is_whole) l0 c0 k0).binds (ps := ["thing"]) fun _ _ _ _ _ _ us hl => match us, hl with | [_], _ => rfl,
    a_is_whole_within := f1, d_is_whole_within := _, F_is_whole_within := fun_mk (st := s_is_whole_within) l1 c1 k1, g_is_whole_within := PySem.W.mg_of X G a1, b_is_whole_within := (fun_mk (st := s_is_whole_within) l1 c1 k1).binds (ps := ["thing", "least", "most"]) fun _ _ _ _ _ _ us hl => match us, hl with | [_, _, _], _ => rfl,
    a_greatest_divisor := f2, d_greatest_divisor := _, F_greatest_divisor := fun_mk (st := s_greatest_divisor) l2 c2 k2, g_greatest_divisor := PySem.W.mg_of X G a2, b_greatest_divisor := (fun_mk (st := s_greatest_divisor) l2 c2 k2).binds (ps := ["top", "bottom"]) fun _ _ _ _ _ _ us hl => match us, hl with | [_, _], _ => rfl,
    a_is_fraction := f3, d_is_fraction := _, F_is_fraction := fun_mk (st := s_is_fraction) l3 c3 k3, g_is_fraction := PySem.W.mg_of X G a3, b_is_fraction := (fun_mk (st := s_is_fraction) l3 c3 k3).binds (ps := ["thing"]) fun _ _ _ _ _ _ us hl => match us, hl with | [_], _ => rfl,
    a_lowest := f4, d_lowest := _, F_lowest := fun_mk (st := s_lowest) l4 c4 k4, g_lowest := PySem.W.mg_of X G a4, b_lowest := (fun_mk (st := s_lowest) l4 c4 k4).binds (ps := ["top", "bottom"]) fun _ _ _ _ _ _ us hl => match us, hl with | [_, _], _ => rfl,
    a_check_fractions := f5, d_check_fractions := _, F_check_fractions := fun_mk (st := s_check_fractions) l5 c5 k5, g_check_fractions := PySem.W.mg_of X G a5, b_check_fractions := (fun_mk (st := s_check_fractions) l5 c5 k5).binds (ps := ["one", "other"]) fun _ _ _ _ _ _ us hl => match us, hl with | [_, _], _ => rfl,
    a_added := f6, d_added := _, F_added := fun_mk (st := s_added) l6 c6 k6, g_added := PySem.W.mg_of X G a6, b_added := (fun_mk (st := s_added) l6 c6 k6).binds (ps := ["one", "other"]) fun _ _ _ _ _ _ us hl => match us, hl with | [_, _], _ => rfl,
    a_lessened := f7, d_lessened := _, F_lessened := fun_mk (st := s_lessened) l7 c7 k7, g_lessened := PySem.W.mg_of X G a7, b_lessened := (fun_mk (st := s_lessened) l7 c7 k7).binds (ps := ["one", "other"]) fun _ _ _ _ _ _ us hl => match us, hl with | [_, _], _ => rfl,
    a_is_shares := f8, d_is_shares := _, F_is_shares := fun_mk (st := s_is_shares) l8 c8 k8, g_is_shares := PySem.W.mg_of X G a8, b_is_shares := (fun_mk (st := s_is_shares) l8 c8 k8).binds (ps := ["thing"]) fun _ _ _ _ _ _ us hl => match us, hl with | [_], _ => rfl,
    a_check_shares := f9, d_check_shares := _, F_check_shares := fun_mk (st := s_check_shares) l9 c9 k9, g_check_shares := PySem.W.mg_of X G a9, b_check_shares := (fun_mk (st := s_check_shares) l9 c9 k9).binds (ps := ["thing"]) fun _ _ _ _ _ _ us hl => match us, hl with | [_], _ => rfl,
    a_all_kinds := f10, d_all_kinds := _, F_all_kinds := fun_mk (st := s_all_kinds) l10 c10 k10, g_all_kinds := PySem.W.mg_of X G a10, b_all_kinds := (fun_mk (st := s_all_kinds) l10 c10 k10).binds (ps := ["shares"]) fun _ _ _ _ _ _ us hl => match us, hl with | [_], _ => rfl,
    a_all_some := f11, d_all_some := _, F_all_some := fun_mk (st := s_all_some) l11 c11 k11, g_all_some := PySem.W.mg_of X G a11, b_all_some := (fun_mk (st := s_all_some) l11 c11 k11).binds (ps := ["kinds"]) fun _ _ _ _ _ _ us hl => match us, hl with | [_], _ => rfl,
    a_share_of := f12, d_share_of := _, F_share_of := fun_mk (st := s_share_of) l12 c12 k12, g_share_of := PySem.W.mg_of X G a12, b_share_of := (fun_mk (st := s_share_of) l12 c12 k12).binds (ps := ["shares", "some"]) fun _ _ _ _ _ _ us hl => match us, hl with | [_, _], _ => rfl,
    a_mean_all := f13, d_mean_all := _, F_mean_all := fun_mk (st := s_mean_all) l13 c13 k13, g_mean_all := PySem.W.mg_of X G a13, b_mean_all := (fun_mk (st := s_mean_all) l13 c13 k13).binds (ps := ["shares"]) fun _ _ _ _ _ _ us hl => match us, hl with | [_], _ => rfl,
    a__law_cell := f14, d__law_cell := _, F__law_cell := fun_mk (st := s__law_cell) l14 c14 k14, g__law_cell := PySem.W.mg_of X G a14, b__law_cell := (fun_mk (st := s__law_cell) l14 c14 k14).binds (ps := ["_law_script", "_law_k"]) fun _ _ _ _ _ _ us hl => match us, hl with | [_, _], _ => rfl,
    a__law_mix := f15, d__law_mix := _, F__law_mix := fun_mk (st := s__law_mix) l15 c15 k15, g__law_mix := PySem.W.mg_of X G a15, b__law_mix := (fun_mk (st := s__law_mix) l15 c15 k15).binds (ps := ["_law_cell_here", "_law_k"]) fun _ _ _ _ _ _ us hl => match us, hl with | [_, _], _ => rfl,
    a__law_box := f16, d__law_box := _, F__law_box := fun_mk (st := s__law_box) l16 c16 k16, g__law_box := PySem.W.mg_of X G a16, b__law_box := (fun_mk (st := s__law_box) l16 c16 k16).binds (ps := ["_law_script", "_law_k"]) fun _ _ _ _ _ _ us hl => match us, hl with | [_, _], _ => rfl,
    a__law_take := f17, d__law_take := _, F__law_take := fun_mk (st := s__law_take) l17 c17 k17, g__law_take := PySem.W.mg_of X G a17, b__law_take := (fun_mk (st := s__law_take) l17 c17 k17).binds (ps := ["_law_box_here", "_law_many"]) fun _ _ _ _ _ _ us hl => match us, hl with | [_, _], _ => rfl,
    a__law_drawn_shares := f18, d__law_drawn_shares := _, F__law_drawn_shares := fun_mk (st := s__law_drawn_shares) l18 c18 k18, g__law_drawn_shares := PySem.W.mg_of X G a18, b__law_drawn_shares := (fun_mk (st := s__law_drawn_shares) l18 c18 k18).binds (ps := ["_law_box_here", "_law_most", "_law_top"]) fun _ _ _ _ _ _ us hl => match us, hl with | [_, _, _], _ => rfl,
    a__law_common := f19, d__law_common := _, F__law_common := fun_mk (st := s__law_common) l19 c19 k19, g__law_common := PySem.W.mg_of X G a19, b__law_common := (fun_mk (st := s__law_common) l19 c19 k19).binds (ps := ["_law_one", "_law_other"]) fun _ _ _ _ _ _ us hl => match us, hl with | [_, _], _ => rfl,
    a__law_made := f20, d__law_made := _, F__law_made := fun_mk (st := s__law_made) l20 c20 k20, g__law_made := PySem.W.mg_of X G a20, b__law_made := (fun_mk (st := s__law_made) l20 c20 k20).binds (ps := ["_law_top", "_law_bottom"]) fun _ _ _ _ _ _ us hl => match us, hl with | [_, _], _ => rfl,
    a__law_plus := f21, d__law_plus := _, F__law_plus := fun_mk (st := s__law_plus) l21 c21 k21, g__law_plus := PySem.W.mg_of X G a21, b__law_plus := (fun_mk (st := s__law_plus) l21 c21 k21).binds (ps := ["_law_one", "_law_other"]) fun _ _ _ _ _ _ us hl => match us, hl with | [_, _], _ => rfl,
    a__law_all_some := f22, d__law_all_some := _, F__law_all_some := fun_mk (st := s__law_all_some) l22 c22 k22, g__law_all_some := PySem.W.mg_of X G a22, b__law_all_some := (fun_mk (st := s__law_all_some) l22 c22 k22).binds (ps := ["_law_many"]) fun _ _ _ _ _ _ us hl => match us, hl with | [_], _ => rfl,
    a__law_paper := f23, d__law_paper := _, F__law_paper := fun_mk (st := s__law_paper) l23 c23 k23, g__law_paper := PySem.W.mg_of X G a23, b__law_paper := (fun_mk (st := s__law_paper) l23 c23 k23).binds (ps := ["_law_shares"]) fun _ _ _ _ _ _ us hl => match us, hl with | [_], _ => rfl,
    a_law := f24, d_law := _, F_law := fun_mk (st := s_law) l24 c24 k24, g_law := PySem.W.mg_of X G a24, b_law := (fun_mk (st := s_law) l24 c24 k24).binds (ps := ["_law_script"]) fun _ _ _ _ _ _ us hl => match us, hl with | [_], _ => rfl,
    m_isinstance := PySem.W.mg_none_of X G z_isinstance,
    m_int := PySem.W.mg_none_of X G z_int,
    m_bool := PySem.W.mg_none_of X G z_bool,
    m_abs := PySem.W.mg_none_of X G z_abs,
    m_tuple := PySem.W.mg_none_of X G z_tuple,
    m_len := PySem.W.mg_none_of X G z_len,
    m_all := PySem.W.mg_none_of X G z_all,
    m_range := PySem.W.mg_none_of X G z_range,
    m_sum := PySem.W.mg_none_of X G z_sum,
    m_divmod := PySem.W.mg_none_of X G z_divmod,
    m_max := PySem.W.mg_none_of X G z_max,
    m_min := PySem.W.mg_none_of X G z_min,
    m_repr := PySem.W.mg_none_of X G z_repr,
    t_MOST_KINDS := t_MOST_KINDS, c_MOST_KINDS := PySem.W.mg_of X G y_MOST_KINDS,
    t_MOST_SHARE := t_MOST_SHARE, c_MOST_SHARE := PySem.W.mg_of X G y_MOST_SHARE }, rfl, rfl⟩
  obtain ⟨T, e1, e2⟩ := T
  have e := hfa.symm.trans (PySem.W.mg_of X G a24)
  cases e
  have ok : ∀ base : Heap, KG.FnG l.prog w K mg base 6 T.a_law T.d_law ["_law_script"] (sp_law K) := fun base => ok_law T
  rw [e1, e2] at ok
  exact ⟨_, fun s v => .of_eq rfl, fun base _ _ => ok base⟩
end KGX
open PySem PySem.W PyProof.Rows
set_option maxRecDepth 100000 in
set_option maxHeartbeats 0 in
theorem PySem.Challenge.cw_kindsgathered_k10_means_until_all_holds : PySem.Challenge.rw_kindsgathered_k10_means_until_all.Holds := by
  w_on; o_law; k_head; (case hw => w_witness2)
  k_fill
  refine KG.walkG (l := PySem.Challenge.rw_kindsgathered_k10_means_until_all) (n := 63) (k := 6) (x := "_law_script") (sp := KGX.sp_law) rfl (by decide) rfl ⟨rfl, by decide, by decide⟩ (fun w h Y => PySem.W.kIn_of Y) ?F KGX.start_law
  case F =>
    intro w mg fa h KX G hmg
    refine' KGX.all_mk KX G hmg ?a0 ?l0 ?c0 ?k0 ?a1 ?l1 ?c1 ?k1 ?a2 ?l2 ?c2 ?k2 ?a3 ?l3 ?c3 ?k3 ?a4 ?l4 ?c4 ?k4 ?a5 ?l5 ?c5 ?k5 ?a6 ?l6 ?c6 ?k6 ?a7 ?l7 ?c7 ?k7 ?a8 ?l8 ?c8 ?k8 ?a9 ?l9 ?c9 ?k9 ?a10 ?l10 ?c10 ?k10 ?a11 ?l11 ?c11 ?k11 ?a12 ?l12 ?c12 ?k12 ?a13 ?l13 ?c13 ?k13 ?a14 ?l14 ?c14 ?k14 ?a15 ?l15 ?c15 ?k15 ?a16 ?l16 ?c16 ?k16 ?a17 ?l17 ?c17 ?k17 ?a18 ?l18 ?c18 ?k18 ?a19 ?l19 ?c19 ?k19 ?a20 ?l20 ?c20 ?k20 ?a21 ?l21 ?c21 ?k21 ?a22 ?l22 ?c22 ?k22 ?a23 ?l23 ?c23 ?k23 ?a24 ?l24 ?c24 ?k24 ?z_isinstance ?z_int ?z_bool ?z_abs ?z_tuple ?z_len ?z_all ?z_range ?z_sum ?z_divmod ?z_max ?z_min ?z_repr ?y_MOST_KINDS ?y_MOST_SHARE
    (case a0 => k_is)
    (case l0 => k_is)
    (case c0 => k_is)
    (case k0 => k_is)
    (case a1 => k_is)
    (case l1 => k_is)
    (case c1 => k_is)
    (case k1 => k_is)
    (case a2 => k_is)
    (case l2 => k_is)
    (case c2 => k_is)
    (case k2 => k_is)
    (case a3 => k_is)
    (case l3 => k_is)
    (case c3 => k_is)
    (case k3 => k_is)
    (case a4 => k_is)
    (case l4 => k_is)
    (case c4 => k_is)
    (case k4 => k_is)
    (case a5 => k_is)
    (case l5 => k_is)
    (case c5 => k_is)
    (case k5 => k_is)
    (case a6 => k_is)
    (case l6 => k_is)
    (case c6 => k_is)
    (case k6 => k_is)
    (case a7 => k_is)
    (case l7 => k_is)
    (case c7 => k_is)
    (case k7 => k_is)
    (case a8 => k_is)
    (case l8 => k_is)
    (case c8 => k_is)
    (case k8 => k_is)
    (case a9 => k_is)
    (case l9 => k_is)
    (case c9 => k_is)
    (case k9 => k_is)
    (case a10 => k_is)
    (case l10 => k_is)
    (case c10 => k_is)
    (case k10 => k_is)
    (case a11 => k_is)
    (case l11 => k_is)
    (case c11 => k_is)
    (case k11 => k_is)
    (case a12 => k_is)
    (case l12 => k_is)
    (case c12 => k_is)
    (case k12 => k_is)
    (case a13 => k_is)
    (case l13 => k_is)
    (case c13 => k_is)
    (case k13 => k_is)
    (case a14 => k_is)
    (case l14 => k_is)
    (case c14 => k_is)
    (case k14 => k_is)
    (case a15 => k_is)
    (case l15 => k_is)
    (case c15 => k_is)
    (case k15 => k_is)
    (case a16 => k_is)
    (case l16 => k_is)
    (case c16 => k_is)
    (case k16 => k_is)
    (case a17 => k_is)
    (case l17 => k_is)
    (case c17 => k_is)
    (case k17 => k_is)
    (case a18 => k_is)
    (case l18 => k_is)
    (case c18 => k_is)
    (case k18 => k_is)
    (case a19 => k_is)
    (case l19 => k_is)
    (case c19 => k_is)
    (case k19 => k_is)
    (case a20 => k_is)
    (case l20 => k_is)
    (case c20 => k_is)
    (case k20 => k_is)
    (case a21 => k_is)
    (case l21 => k_is)
    (case c21 => k_is)
    (case k21 => k_is)
    (case a22 => k_is)
    (case l22 => k_is)
    (case c22 => k_is)
    (case k22 => k_is)
    (case a23 => k_is)
    (case l23 => k_is)
    (case c23 => k_is)
    (case k23 => k_is)
    (case a24 => k_is)
    (case l24 => k_is)
    (case c24 => k_is)
    (case k24 => k_is)
    (case z_isinstance => k_is)
    (case z_int => k_is)
    (case z_bool => k_is)
    (case z_abs => k_is)
    (case z_tuple => k_is)
    (case z_len => k_is)
    (case z_all => k_is)
    (case z_range => k_is)
    (case z_sum => k_is)
    (case z_divmod => k_is)
    (case z_max => k_is)
    (case z_min => k_is)
    (case z_repr => k_is)
    (case y_MOST_KINDS => k_is)
    (case y_MOST_SHARE => k_is)
