import PyProof.Rows.All
import Wide.All
import OpenK.AllK
import Wide.FinOn
import HandS.ForMost
import HandS.Wide
import HandS.WideBits
import HandS.IsInst
import HandS.TupMul
import HandS.TupAny
import HandS.Conv
import HandS.Zip
import HandS.Walk
import HandS.Evl
import KE.KTupSum
import PyProof.ReprRoads
import PyProof.ReprLen
import KE.KDictDisplayH
import HandS.DictTup
import HandS.NoneIn
import HandS.Style
import PySem.Challenge.RW_kindsgathered_k02_fractions_reckoned
set_option Elab.async false
set_option linter.all false
set_option maxRecDepth 100000
set_option maxHeartbeats 4000000
namespace KG
open PySem PySem.Spec PyProof.Rows L2

/-! ### defs that run where nothing is being shown -/
structure FnG (P : Program) (w : World) (K : PySem.W.Frag) (mg : Str → Option Value) (base : Heap) (k : Nat) (f : Addr) (fd : FuncData) (ps : List Str) (sp : Sp) : Prop where
  len : ∀ vs H Q E, sp vs H Q E → vs.length = ps.length
  run : ∀ (A : Around) (outer : List Env) (s : Shared) (H : Hp) (args : Args) (us : List Value) (vs : List V) (Q : VK) (E : XK), A.guards = some [] →
    Room k A → Env0 P w K mg base A outer s H → BindsTo s fd args (ps.zip us) → Vals vs us → sp vs H Q E → codeAny (model P w) A (.call (.ref f) args) (CR CX0 outer P w H s Q E) s

section
variable {P : Program} {w : World} {K : PySem.W.Frag} {mg : Str → Option Value} {base : Heap}
theorem okG {x qual : Str} {st : Stmt} {f : Addr} {fd : FuncData} {N ps : List Str} {k : Nat} {sp : Sp} (F : Fun K x qual st f fd) (S : FnScope N ps (defScope st))
    (len : ∀ vs H Q E, sp vs H Q E → vs.length = ps.length)
    (hb : ∀ (cdv : Value) (A : Around) (outer : List Env) (s : Shared) (H : Hp) (vs : List V) (Q : VK) (E : XK), A.guards = some [] →
      Room k (A.deeper (envOfC qual (defScope st) s.heap.objs.size f cdv)) → sp vs H Q E →
      ∃ t, PSs (cxOf CX0 P w K mg base N qual (defScope st) f cdv A outer s H E).nox (defBody st) t ∧ t { nx := fun _ H' => Q .non H', rt := Q } (start N vs) H) :
    FnG P w K mg base (k + 1) f fd ps sp := by
  obtain ⟨oc, od, kV, doc, pm, an, cdv, ct, osl, rfl, lk, hcd⟩ := F.ex
  refine ⟨len, ?_⟩
  intro A outer s H args us vs Q E hg hr e0 hbi r hsp
  -- the same as the layer's own rule, at this around alone
  have T : FnOk P w K mg base CX0 (k + 1) f (PySem.W.fnOf x qual (defArgs st) (defBody st) (defScope st) .none kV doc pm an cdv ct) ps sp ∨ True := .inr trivial
  clear T
  have hl := len _ _ _ _ hsp
  have keep : ∀ b o, base.get? b = some o → s.heap.get? b = some o := fun b o e => (e0.bs b o e).1
  have KX := e0.mod.kin.keeps keep
  have lim := e0.mod.nolimit.keeps keep
  obtain ⟨t, ht, hq⟩ := hb cdv A outer s H vs Q E hg (hr.deeper _) hsp
  have hkind : ∀ y ∈ ps.zip us, (defScope st).names.lookup y.1 = some .local ∨
      ((defScope st).names.lookup y.1 = some .cell ∧ ((cellsFrom (s.heap.objs.size + 1) (defScope st).names []).lookup y.1).isSome = true) := by
    rintro ⟨n, v⟩ hy
    cases S.par n (List.of_mem_zip hy).1 with
    | inl q => exact .inl q
    | inr q => exact .inr ⟨q, PySem.W.cellsFrom_some _ _ _ (.inl q)⟩
  refine codeAny_call_function hr.depth (KX _ _ lk) rfl S.co S.gen rfl (PySem.W.codeRec_of KX hcd) (hbi _ _ _ _ (wpAny_newFunctionEnv_cells S.kind hkind ?_))
  rintro env rfl s1 x1
  refine ⟨lim.keeps x1.toInCall.keep, codeAny_func ?_⟩
  have I : Inv (cxOf CX0 P w K mg base N qual (defScope st) f cdv A outer s H E) [] (start N vs) H s1 := inv_start S hr.hd e0 hl r x1
  refine wpAny_mono (ht.nox.run [] s1 (start N vs) H _ I hq) ?_ fun _ _ z => z
  intro fl s' hs
  match fl, hs with
  | .ret u, ⟨v, σ', H', J, rv, q⟩ => exact ⟨v, H', J.os, J.bare, J.base, J.hok, rv, q⟩
  | .next, ⟨σ', H', J, q⟩ => exact ⟨V.non, H', J.os, J.bare, J.base, J.hok, (show Value.none = Value.none from rfl), q⟩
  | .brk, ⟨_, _, _, q⟩ => exact q.elim
  | .cont, ⟨_, _, _, q⟩ => exact q.elim
/-- a def that asks for nothing of the kind -/
theorem FnG.of {f : Addr} {fd : FuncData} {ps : List Str} {k : Nat} {sp : Sp} (F : FnOk P w K mg base CX0 k f fd ps sp) : FnG P w K mg base k f fd ps sp :=
  ⟨F.len, fun A outer s H args us vs Q E _ hr e hb r h => F.run A outer s H args us vs Q E hr e hb r h⟩
end
section
variable {X : Cx} {f : Addr} {fd : FuncData} {ps : List Str} {k : Nat} {sp : Sp} {x : Str} {p pos : Pos} {e : Expr} {es : List Expr} {t : TA} {ds : List Value} {dvs : List V} {E : XK}
theorem pe_callG (F : FnG X.prog X.w X.K X.mg X.base k f fd ps sp) (gd : X.A.guards = some []) (hr : Room k X.A) (hg : Gl X x) (hm : X.mg x = some (.ref f)) (hk : PySem.W.keepIn X.K (.ref f) = true) (hb : Binds X.K fd ps ds)
    (hd : Vals dvs ds) (ha : PA X (e :: es) t) (hdb : (x == ("__debug__" : Str)) = false := by decide) (he : starEach (e :: es) X.env = (false, eval e X.env) :: starEach es X.env := by rfl)
    (hpl : (backTo pos (starEach es X.env)).any (·.1) = false := by rfl) : PE X (.Call (.Name x p) (e :: es) [] pos) (tCall sp dvs E0 t) := by
  constructor
  intro pins s σ H Q I h
  refine wpAny_Call_Name_kw (ld_glob I hg hm (PySem.W.callWith_K (h₀ := X.base) I.ok.mod.kin hk (thn (ha.run pos pins s σ H _ I h) ?_) he hpl) hdb)
  rintro us s1 ⟨vs, H1, I1, r, q⟩
  refine ⟨I1.kIn, ?_⟩
  have r2 : Vals (vs ++ dvs) (us ++ ds) := r.append hd
  have hl : (us ++ ds).length = ps.length := r2.length ▸ F.len _ _ _ _ q
  refine wpAny_call (codeAny_mono (F.run X.A X.stack s1 H1 ⟨us, []⟩ (us ++ ds) (vs ++ dvs) Q E0 gd hr I1.env0 (hb s1 us I1.kIn hl) r2 q) ?_)
  intro r s' hq
  match r, hq with
  | .ok (.ret u), hq => exact I1.after hq
/-- data that can be shown -/
def ShowOk (d : PyData) : Prop := d.showable = true ∧ d.hasDict = false ∧ d.depth ≤ 20 ∧ d.shown.length ≤ sizeLine
/-- repr of data: its text -/
def rRepr (K : PySem.W.Frag) : List V → Hp → VK → Prop := fun xs H Q => ∃ x d, xs = [x] ∧ Dp K H x d ∧ ShowOk d ∧ Q (.str d.shown) H
theorem call_repr {k : Nat} (gd : X.A.guards = some []) (hr : Room k X.A) : CallR X (.builtin "repr") (rRepr X.K) := by
  intro pins s σ H xs us Q I r h
  obtain ⟨x, d, rfl, hd, ⟨hs, hn, hz, hl⟩, q⟩ := h
  obtain ⟨u, rfl, ru⟩ := vals1 r
  have un := hr.un
  cases hd with
  | non => cases (show u = Value.none from ru); exact PySem.P.repr_of_none ⟨.str _, H, I.tok _, ⟨_, rfl⟩, q⟩
  | bl b => cases (show u = Value.bool b from ru); exact PySem.P.repr_of_bool ⟨.str _, H, I.tok _, ⟨_, rfl⟩, q⟩
  | int i => obtain ⟨t, rfl⟩ := (show ∃ t, u = Value.int i t from ru); exact PySem.P.repr_of_int (of_decide_eq_true hs) ⟨.str _, H, I.tok _, ⟨_, rfl⟩, q⟩
  | str y => obtain ⟨t, rfl⟩ := (show ∃ t, u = Value.str y t from ru); exact PySem.P.repr_of_str ⟨.str _, H, I.tok _, ⟨_, rfl⟩, q⟩ hl
  | @lst a ys ds h1 h2 =>
    cases (show u = Value.ref a from ru)
    obtain ⟨as, rd⟩ := Dp.reads I _ (.ref a) (.ref a) (.lst h1 h2) rfl
    exact repr_of_reads' rd hs (PyData.noDict_hsm hn) gd (by omega) (fun _ _ z => z) (fun h' u tk hk => ⟨.str _, H, I.kept hk, ⟨_, rfl⟩, q⟩) hl
  | @tup a ys ds h1 h2 =>
    cases (show u = Value.ref a from ru)
    obtain ⟨as, rd⟩ := Dp.reads I _ (.ref a) (.ref a) (.tup h1 h2) rfl
    exact repr_of_reads' rd hs (PyData.noDict_hsm hn) gd (by omega) (fun _ _ z => z) (fun h' u tk hk => ⟨.str _, H, I.kept hk, ⟨_, rfl⟩, q⟩) hl
/-- sum of a list or a tuple of ints -/
def rSum2 (K : PySem.W.Frag) : List V → Hp → VK → Prop := fun vs H Q => ∃ (a : Addr) (ns : List Int), vs = [V.ref a] ∧ (SqL K H a (ns.map V.int) ∨ SqT K H a (ns.map V.int)) ∧ Q (.int ns.sum) H
theorem call_sum (hc : X.calm = true) : CallR X (.builtin "sum") (rSum2 X.K) := by
  intro pins s σ H vs us Q I r h
  obtain ⟨a, ns, rfl, hs | hs, q⟩ := h
  · exact cr_sum hc pins s σ H _ us Q I r ⟨a, ns, rfl, hs, q⟩
  · obtain ⟨its, rv, ht, _⟩ := I.tuple hs
    rw [Vals.ref1 r]
    obtain ⟨ys, e⟩ := rv.ints.allInts.items
    have hn : numsOf (intItems ys).toList = ns := by rw [← e]; exact rv.ints.numsOf
    rw [nums_intItems] at hn
    rw [e] at ht
    refine PySem.W.ktm_sumG (I.ok.hd hc) ht fun h' tk t' hk => ?_
    rw [preSum_eq, List.take_of_length_le (by simp), hn]
    exact ⟨.int _, H, I.kept hk, ⟨_, rfl⟩, q⟩
end
end KG

namespace KG
open PySem PySem.Spec PyProof.Rows L2
/-! ### the end of a law whose defs run where nothing is being shown -/
section
variable {P : Program} {w : World} {K : PySem.W.Frag} {mg mb : Str → Option Value} {k : Nat} {fa a : Addr} {fd : FuncData} {x : Str} {sp : Sp} {s₁ : Shared} {vs : List Value} {ns : List Int}
/-- what is asked of the call's end -/
def EndT (s₁ : Shared) : Result → Shared → Prop := fun r s' => r = .ok (.ret (.bool true)) ∧ OldK s₁.heap s'.heap ∧ s'.os = s₁.os ∧ AllBare s'.gens
/-- from an abstract heap that tracks nothing but the script, locked -/
theorem endG_from {H : Hp} (KX : K.In s₁.heap) (hns : s₁.heap.Ns mainGlobals mg) (hb : s₁.heap.Ns builtinsNs mb) (hbb : ∀ y : Str, y ≠ "__name__" → mb y = bootBuiltins y) (hlim : s₁.heap.NoLimit) (hg : s₁.gens = #[])
    (ha : ∃ its n, s₁.heap.get? a = some { cls := .type "list", data := .seq its n }) (hr : Room k callerA)
    (F : ∀ base : Heap, K.In base → base.Ns mainGlobals mg → FnG P w K mg base k fa fd [x] sp) (hbind : ∀ (s : Shared) (u : Value), BindsTo s fd ⟨[u], []⟩ [(x, u)])
    (hO : Only H) (hok : HOk P w H s₁.heap) (hA : ∀ b, H b ≠ none → b = a) (hK : H a ≠ none → K.lookup a = none)
    (hsp : sp [.ref a] H (fun v _ => v = .bl true) fun _ _ _ => False) : codeAny (model P w) callerA (.call (.ref fa) ⟨[.ref a], []⟩) (EndT s₁) s₁ := by
  obtain ⟨its, n, ha⟩ := ha
  have cases2 : ∀ b, H b = none ∨ (b = a ∧ K.lookup a = none) := fun b => by
    by_cases z : H b = none
    · exact .inl z
    · have e := hA b z
      exact .inr ⟨e, hK (e ▸ z)⟩
  have nsK : ∀ {b : Addr} {m : Str → Option Value}, s₁.heap.Ns b m → (hidT s₁.heap H).Ns b m := by
    rintro b m ⟨o, es, ep, e, d, r⟩
    refine ⟨o, es, ep, hidT_get e ?_, d, r⟩
    rcases cases2 b with z | ⟨rfl, _⟩
    · exact z
    · rw [ha] at e
      cases e
      exact nomatch d
  have hKb : K.In (hidT s₁.heap H) := fun b o e => by
    refine hidT_get (KX b o e) ?_
    rcases cases2 b with z | ⟨rfl, z⟩
    · exact z
    · rw [z] at e
      exact nomatch e
  obtain ⟨mc, l1, l2⟩ := hlim
  have hM : Mod K mg (hidT s₁.heap H) := ⟨hKb, nsK hns, ⟨mb, nsK hb, hbb⟩, ⟨mc, nsK l1, l2⟩⟩
  have e0 : Env0 P w K mg (hidT s₁.heap H) callerA [] s₁ H :=
    { frames := rfl, mod := hM, bs := fun b o e => of_hidT e, bsz := Nat.le_of_eq (hidT_size _ _), funs := trivial, frf := (fun b z => nomatch (show b ∈ ([] : List Addr) from z)), hok := hok, bare := .of_eq hg }
  have run := (F _ hKb (nsK hns)).run callerA [] s₁ H ⟨[.ref a], []⟩ [.ref a] [.ref a] (fun v _ => v = .bl true) (fun _ _ _ => False) rfl hr e0 (hbind s₁ (.ref a)) (.cons rfl .nil) hsp
  refine codeAny_mono run ?_
  intro r s' h
  match r, h with
  | .ok (.ret u), ⟨v, H', os, bare, un, hok', r', q⟩ =>
    have q' : v = .bl true := q
    subst q'
    have eu : u = Value.bool true := r'
    subst eu
    refine ⟨rfl, OldK.of_keep ?_, os, bare⟩
    intro b o e
    rcases hO b with z | ⟨ob, xs, z⟩
    · exact un.keep b o e z (fun y => nomatch (show b ∈ ([] : List Addr) from y)) (fun y => nomatch y)
    · have e1 := (hok b _ z).1
      have e2 := (hok' b _ (un.frzs b ob _ z)).1
      rw [e] at e1
      cases e1
      exact e2
theorem endG (KX : K.In s₁.heap) (hns : s₁.heap.Ns mainGlobals mg) (hb : s₁.heap.Ns builtinsNs mb) (hbb : ∀ y : Str, y ≠ "__name__" → mb y = bootBuiltins y) (hlim : s₁.heap.NoLimit) (hg : s₁.gens = #[])
    (ha : s₁.heap.get? a = some { cls := .type "list", data := .seq vs.toArray }) (hi : IntsAre vs ns) (hl : ns.length ≤ sizeLine) (hr : Room k callerA)
    (F : ∀ base : Heap, K.In base → base.Ns mainGlobals mg → FnG P w K mg base k fa fd [x] sp) (hbind : ∀ (s : Shared) (u : Value), BindsTo s fd ⟨[u], []⟩ [(x, u)])
    (hsp : ∀ H : Hp, Only H → SqL K H a (ns.map V.int) → sp [.ref a] H (fun v _ => v = .bl true) fun _ _ _ => False) :
    codeAny (model P w) callerA (.call (.ref fa) ⟨[.ref a], []⟩) (EndT s₁) s₁ := by
  have rv := vals_ints hi
  cases hk : K.lookup a with
  | some o =>
    have e := KX a o hk
    rw [ha] at e
    cases e
    have sq : SqL K (fun _ => none) a (ns.map V.int) := .inr ⟨_, vs.toArray, _, hk, rfl, rfl, rfl, by rw [List.size_toArray, hi.length]; exact hl, by simpa using rv⟩
    have only : Only (fun _ => none) := fun _ => .inl rfl
    exact endG_from KX hns hb hbb hlim hg ⟨_, _, ha⟩ hr F hbind only (fun b u z => nomatch (show (none : Option HO) = some u from z)) (fun b z => (z rfl).elim) (fun z => (z rfl).elim) (hsp _ only sq)
  | none =>
    let H0 : Hp := upd (fun _ => none) a (.frz { cls := .type "list", data := .seq vs.toArray } (.lst (ns.map V.int)))
    have at0 : H0 a = some (.frz { cls := .type "list", data := .seq vs.toArray } (.lst (ns.map V.int))) := upd_same
    have off0 : ∀ b, b ≠ a → H0 b = none := fun b z => upd_ne z
    have only : Only H0 := fun b => by
      by_cases z : b = a
      · exact .inr ⟨_, _, z ▸ at0⟩
      · exact .inl (off0 b z)
    refine endG_from KX hns hb hbb hlim hg ⟨_, _, ha⟩ hr F hbind only ?_ ?_ (fun _ => hk) (hsp _ only (.inl (.inr ⟨_, at0⟩)))
    · intro b u z
      by_cases y : b = a
      · subst y
        rw [at0] at z
        cases z
        exact ⟨ha, by rw [List.length_map]; exact hl, vs, _, rv, ha⟩
      · rw [off0 b y] at z
        exact nomatch z
    · intro b z
      by_cases y : b = a
      · exact y
      · exact (z (off0 b y)).elim
end
theorem walkG {l : PySem.W.OpenLaw} {n k : Nat} {q : Program} {loose : List Str} {XP : (Str → Option Value) → Heap → Prop} {YP : World → Heap → Prop} {d : DefRec} {K : Params → PySem.W.Frag} {sp : PySem.W.Frag → Sp} {x : Str}
    (hn : l.most = some n) (hn2 : n ≤ sizeLine) (hdf : d.params.defaults = []) (hr : Room k callerA) (hY : ∀ (w : World) (h : Heap), YP w h → (K w.params).In h)
    (F : ∀ (w : World) (mg : Str → Option Value) (fa : Addr) (h : Heap), (K w.params).In h → h.Ns mainGlobals mg → mg d.name = some (.ref fa) →
      ∃ fd : FuncData, (∀ (s : Shared) (u : Value), BindsTo s fd ⟨[u], []⟩ [(x, u)]) ∧ ∀ base : Heap, (K w.params).In base → base.Ns mainGlobals mg → FnG l.prog w (K w.params) mg base k fa fd [x] (sp (K w.params)))
    (hsp : ∀ (K : PySem.W.Frag) (H : Hp) (a : Addr) (ns : List Int), ns.length ≤ n → Only H → SqL K H a (ns.map V.int) → sp K [.ref a] H (fun v _ => v = .bl true) fun _ _ _ => False) :
    PySem.W.WalkO q loose XP YP l.row.toRowW d [] (fun f vs => PySem.call f vs) := by
  refine Att.attach_call hn hdf ?_
  intro w s₀ s₁ mg mb fa o pm cd doc a vs ns G Y ho hd hcd hmg hobj hints hlen hg
  obtain ⟨fd, hb, hF⟩ := F w mg fa _ (hY w _ Y) G.T.g hmg
  exact endG (hY w _ Y) G.T.g G.T.b G.T.builtins G.T.nolimit hg hobj hints (Nat.le_trans hlen hn2) hr hF hb fun H hO hS => hsp _ H a ns hlen hO hS

/-! ### tuple * int, once too -/
section
variable {X : Cx}
theorem tuple_mul1 (l : Addr) (items : Array Value) (n : Nat) (dd : Option Addr) (sl : Array (Option Value)) (u : Tok) :
    Meets (Builtin.«tuple.__mul__» ⟨[.ref l, .int 1 u], []⟩) (fun _ R s => s.heap.get? l = some { cls := .type "tuple", dict := dd, data := .seq items n, slots := sl } ∧ R (.ok (.ret (Value.ref l))) s) :=
  .of_wp fun prog w A R s h => by
    obtain ⟨hp, g, d, tk, os⟩ := s
    obtain ⟨hl, h⟩ := h
    have f1 := AutoSeq1.idx_int
    have c1 : (items.isEmpty || (1 : Int) == 1) = true := by simp
    wp_walk using wpAny_loadPart' hl
    exact ⟨_, rfl, h⟩
/-- t * k, k from 1 on -/
def rTimes (K : PySem.W.Frag) : R2 := fun x y H Q => ∃ l k xs, x = .ref l ∧ y = .int k ∧ SqT K H l xs ∧ xs ≠ [] ∧ 1 ≤ k ∧ k ≤ 1000 ∧ xs.length ≤ 1000 ∧
  (k = 1 → Q (.ref l) H) ∧ (2 ≤ k → ∀ p, H p = none → Q (.ref p) (upd H p (.tup (List.replicate k.toNat xs).flatten)))
theorem op_times : OpR X (binaryOp .Mult) (rTimes X.K) := by
  intro pins s σ H x y v u Q I rx ry h
  obtain ⟨l, k, xs, rfl, rfl, hT, hne, h1, h2, hz, q1, q2⟩ := h
  by_cases hk : 2 ≤ k
  · exact op_repT pins s σ H _ _ v u Q I rx ry ⟨l, k, xs, rfl, rfl, hT, hne, hk, h2, hz, q2 hk⟩
  · have e1 : k = 1 := by omega
    subst e1
    cases rx
    obtain ⟨t, rfl⟩ := ry
    obtain ⟨its, r, ⟨⟨cls, dd, data, sl⟩, ho, hc, n, hd⟩, hs⟩ := I.tuple hT
    simp only at hc hd
    subst hc hd
    refine wpAny_binaryOp_repeat_ref (T := "tuple") (U := "int") (by decide) ⟨_, ho, rfl⟩ (fun s' => typeIs_int s' 1 t) noFill_tuple_mul F.fills_int_mul F.slot_int_rmul repeat_tuple F.slot_int_index.lookup ?_
    refine call_meets F.slot_int_rmul (typeIs_int s 1 t) F.entry_int_rmul (F.args_int_rmul_2 _ _) (int_rmul_tuple 1 t l its.toArray n dd sl) ?_
    exact ⟨ho, rfl, ⟨_, ho, rfl⟩, call_meets F.slot_tuple_mul ⟨_, ho, rfl⟩ F.entry_tuple_mul (F.args_tuple_mul_2 _ _) (tuple_mul1 l its.toArray n dd sl t) ⟨ho, ⟨.ref l, H, I, rfl, q1 rfl⟩⟩⟩
end
end KG

namespace KGX
open PySem PySem.Spec PyProof.Rows L2
/-! ### words of one's own -/
/-- the type of a value is known -/
def Kn (K : PySem.W.Frag) (H : Hp) : V → Prop
  | .non | .bl _ | .int _ | .str _ => True
  | .ref a => (∃ xs, H a = some (.lst xs)) ∨ (∃ xs, H a = some (.tup xs)) ∨ ∃ kv, H a = some (.dK kv)
  | _ => False
theorem Kn.mono {K : PySem.W.Frag} {H H' : Hp} (e : Same H H') : ∀ {x : V}, Kn K H x → Kn K H' x
  | .non, _ | .bl _, _ | .int _, _ | .str _, _ => trivial
  | .ref a, h => by
    rcases h with ⟨y, z⟩ | ⟨y, z⟩ | ⟨y, z⟩
    · exact .inl ⟨y, e _ _ z⟩
    · exact .inr (.inl ⟨y, e _ _ z⟩)
    · exact .inr (.inr ⟨y, e _ _ z⟩)
def whole : V → Bool
  | .int _ => true
  | _ => false
def within (lo hi : Int) : V → Bool
  | .int i => decide (lo ≤ i) && decide (i ≤ hi)
  | _ => false
/-- the box alone may change -/
def Kp (b : Addr) (H H' : Hp) : Prop := ∀ a o, a ≠ b → H a = some o → H' a = some o
theorem Kp.of {b : Addr} {H H' : Hp} (h : Same H H') : Kp b H H' := fun a o _ e => h a o e
theorem Kp.trans {b : Addr} {H H1 H2 : Hp} (x : Kp b H H1) (y : Kp b H1 H2) : Kp b H H2 := fun a o n e => y a o n (x a o n e)
theorem same_new {H : Hp} {p : Addr} {o : HO} (h : H p = none) : Same H (upd H p o) := fun b x e => by
  rw [upd_ne (ne_of_none e h)]
  exact e
def low (t b : Int) : List V := [.int (t / (Int.gcd t b : Int)), .int (b / (Int.gcd t b : Int))]
/-! ### whole numbers -/
def sp_is_whole (K : PySem.W.Frag) : Sp := fun vs H Q _ => ∃ x, vs = [x] ∧ Kn K H x ∧ Q (.bl (whole x)) H
def sp_is_whole_within (K : PySem.W.Frag) : Sp := fun vs H Q _ => ∃ x lo hi, vs = [x, .int lo, .int hi] ∧ Kn K H x ∧ Q (.bl (within lo hi x)) H
/-! ### the greatest that divides both -/
theorem gcd_step (a b : Int) (ha : 0 ≤ a) (hb : 0 < b) : Int.gcd b (a % b) = Int.gcd a b := by
  obtain ⟨m, rfl⟩ := Int.eq_ofNat_of_zero_le ha
  obtain ⟨n, rfl⟩ := Int.eq_ofNat_of_zero_le (Int.le_of_lt hb)
  show Nat.gcd n (m % n) = Nat.gcd m n
  rw [Nat.gcd_comm n, ← Nat.gcd_rec, Nat.gcd_comm]
def spGcd : Sp := fun vs H Q _ => ∃ a b : Int, vs = [.int a, .int b] ∧ 0 ≤ a ∧ 0 ≤ b ∧ Q (.int (Int.gcd a b : Int)) H
def sp_greatest_divisor : Sp := fun vs H Q _ => ∃ a b : Int, vs = [.int a, .int b] ∧ 0 ≤ b ∧ Q (.int (Int.gcd a b : Int)) H
theorem abs_eq (i : Int) : (if i < 0 then -i else i) = (i.natAbs : Int) := by
  split <;> omega
theorem sz1 : 1 ≤ sizeLine := by decide
theorem sz2 : 2 ≤ sizeLine := by decide
theorem sz3 : 3 ≤ sizeLine := by decide
theorem sz4 : 4 ≤ sizeLine := by decide
/-! ### in lowest terms -/
def spLow : Sp := fun vs H Q _ => ∃ t b : Int, vs = [.int t, .int b] ∧ 0 < b ∧ b.natAbs.log2 < 9000 ∧ ∀ H' p, Same H H' → H p = none → H' p = some (.tup (low t b)) → Q (.ref p) H'
theorem gcd_pos {t b : Int} (h : 0 < b) : (0 : Int) < (Int.gcd t b : Int) := by
  have : 0 < Int.gcd t b := Int.gcd_pos_of_ne_zero_right t (by omega)
  omega
theorem gcd_le {t b : Int} (h : 0 < b) : (Int.gcd t b : Int) ≤ b := by
  have : Int.gcd t b ∣ b.natAbs := Nat.gcd_dvd_right _ _
  have := Nat.le_of_dvd (by omega) this
  omega
theorem log2_mono {a b : Nat} (h : a ≤ b) : a.log2 ≤ b.log2 := by
  by_cases h0 : a = 0
  · subst h0
    exact Nat.le_trans (by decide) (Nat.zero_le _)
  · exact (Nat.le_log2 (by omega)).mpr (Nat.le_trans (Nat.log2_self_le h0) h)
theorem gcd_div {t b : Int} (h : 0 < b) (hl : b.natAbs.log2 < 9000) {i : Int} : CDivW i (Int.gcd t b : Int) := by
  refine ⟨gcd_pos h, Nat.lt_of_le_of_lt (log2_mono ?_) hl⟩
  have := gcd_le (t := t) h
  omega
/-! ### the law's cells -/
def sp__law_cell (K : PySem.W.Frag) : Sp := fun vs H Q _ => ∃ (a : Addr) (ns : List Int) (k : Nat), vs = [.ref a, .int k] ∧ SqL K H a (ns.map V.int) ∧ ∀ v : Int, Q (.int v) H
def sp__law_mix : Sp := fun vs H Q _ => ∃ (c : Int) (k : Nat), vs = [.int c, .int k] ∧ k ≤ 1000 ∧ ∀ H' v, Same H H' → Q (.int v) H'
def spBox (K : PySem.W.Frag) : Sp := fun vs H Q _ => ∃ (a : Addr) (ns : List Int) (k : Nat), vs = [.ref a, .int k] ∧ SqL K H a (ns.map V.int) ∧ ∀ H' b n, Same H H' → H b = none → H' b = some (.lst [.int n]) → Q (.ref b) H'
/-- a digit of the box -/
def spTake : Sp := fun vs H Q _ => ∃ (b : Addr) (n m : Int), vs = [.ref b, .int m] ∧ H b = some (.lst [.int n]) ∧ 0 < m ∧ m.natAbs.log2 < 9000 ∧
  ∀ H' n' d, Kp b H H' → H' b = some (.lst [.int n']) → 0 ≤ d → d < m → Q (.int d) H'
theorem noPy {i m : Int} (h0 : 0 < m) (h : m.natAbs.log2 < 9000) : CDivP i m := by
  refine ⟨h0, ?_⟩
  exact PyProof.noPylong_of_log2 h
theorem yesT {σ : L2.St} {H : Hp} {F G : Hp → Prop} (h : F H) : tYes σ H (fun b H3 => if b = true then F H3 else G H3) := iteT (A := F H) (B := G H) h
theorem Kp.free {b p : Addr} {H H' : Hp} {o : HO} (k : Kp b H H') (e : H' b = some o) (hp : H' p = none) : H p = none := by
  cases q : H p with
  | none => rfl
  | some u =>
    by_cases z : p = b
    · subst z
      rw [hp] at e
      exact nomatch e
    · rw [k p u z q] at hp
      exact nomatch hp
theorem small_log {m : Int} (h : m.natAbs < 2 ^ 60) : m.natAbs.log2 < 9000 := Nat.lt_of_lt_of_le (PySem.Flt.log2_lt_of (by decide) h) (by decide)
theorem small_log' {m : Int} (h0 : 0 ≤ m) (h : m ≤ 100000) : m.natAbs.log2 < 9000 := small_log (Nat.lt_of_le_of_lt (show m.natAbs ≤ 100000 by omega) (by decide))
theorem rep_map (k : Nat) (x : Int) : (List.replicate k [V.int x]).flatten = (List.replicate k x).map V.int := by
  induction k with
  | zero => rfl
  | succ k ih =>
    rw [List.replicate_succ, List.replicate_succ, List.flatten_cons, ih]
    rfl
def spDrawn : Sp := fun vs H Q _ => ∃ (b : Addr) (n most top : Int), vs = [.ref b, .int most, .int top] ∧ H b = some (.lst [.int n]) ∧ 1 ≤ most ∧ most ≤ 100 ∧ 2 ≤ top ∧ top ≤ 1000 ∧
  ∀ H' p n' (ns : List Int), Kp b H H' → H' b = some (.lst [.int n']) → H p = none → H' p = some (.tup (ns.map V.int)) → 1 ≤ ns.length → (ns.length : Int) ≤ most → (∀ x ∈ ns, 1 ≤ x ∧ x ≤ top) → Q (.ref p) H'
theorem menu {top kind : Int} (h1 : 1 ≤ kind) (h2 : kind < 4) (h3 : 2 ≤ top) : ∃ m, atI [V.int top, .int 2, .int top] (kind - 1) = some (.int m) ∧ 0 < m ∧ m ≤ top := by
  rcases (show kind = 1 ∨ kind = 2 ∨ kind = 3 by omega) with rfl | rfl | rfl
  · exact ⟨top, at_of (j := 0) rfl rfl, by omega, by omega⟩
  · exact ⟨2, at_of (j := 1) rfl rfl, by omega, by omega⟩
  · exact ⟨top, at_of (j := 2) rfl rfl, by omega, by omega⟩
/-! ### some kinds, drawn -/
def Rise (ks : List Int) : Prop := ks.Pairwise (· < ·)
theorem rise_add {ks : List Int} {k : Int} (h : Rise ks) (hk : ∀ x ∈ ks, x < k) : Rise (ks ++ [k]) := by
  refine List.pairwise_append.mpr ⟨h, List.pairwise_singleton _ _, fun a ha b hb => ?_⟩
  rw [List.mem_singleton] at hb
  subst hb
  exact hk a ha
def spSome : Sp := fun vs H Q _ => ∃ (b : Addr) (n many : Int), vs = [.ref b, .int many] ∧ H b = some (.lst [.int n]) ∧ 0 ≤ many ∧ many ≤ 100 ∧
  ∀ H' p n' (ks : List Int), Kp b H H' → H' b = some (.lst [.int n']) → H p = none → H' p = some (.tup (ks.map V.int)) → (ks.length : Int) ≤ many → Rise ks → (∀ x ∈ ks, 0 ≤ x ∧ x < many) → Q (.ref p) H'
/-! ### shares -/
def shs (xs : List V) : Bool := decide (1 ≤ xs.length) && decide (xs.length ≤ 5) && xs.all (within 1 9)
def NotTup (H : Hp) : V → Prop
  | .non | .bl _ | .int _ | .str _ => True
  | .ref a => (∃ xs, H a = some (.lst xs)) ∨ ∃ kv, H a = some (.dK kv)
  | _ => False
/-- a thing: a tuple of things whose types are known, or no tuple -/
def Thing (K : PySem.W.Frag) (H : Hp) (x : V) : Prop := (∃ a xs, x = .ref a ∧ H a = some (.tup xs) ∧ (∀ y ∈ xs, Kn K H y)) ∨ NotTup H x
def isShs (H : Hp) : V → Bool
  | .ref a => match H a with
    | some (.tup xs) => shs xs
    | _ => false
  | _ => false
theorem isi_not {K : PySem.W.Frag} {H : Hp} {x : V} (h : NotTup H x) : ∃ t u, ClsV (.ty "tuple") u ∧ TyX K H x t ∧ PySem.W.kitOne K t u = some false := by
  cases x with
  | non => exact ⟨_, _, .ty "tuple", .base .non, kit_ty (by decide +kernel)⟩
  | bl y => exact ⟨_, _, .ty "tuple", .base (.bl y), kit_ty (by decide +kernel)⟩
  | int i => exact ⟨_, _, .ty "tuple", .base (.int i), kit_ty (by decide +kernel)⟩
  | str y => exact ⟨_, _, .ty "tuple", .base (.str y), kit_ty (by decide +kernel)⟩
  | ref a =>
    rcases h with ⟨y, z⟩ | ⟨y, z⟩
    · exact ⟨_, _, .ty "tuple", .base (.lst z), kit_ty (by decide +kernel)⟩
    · exact ⟨_, _, .ty "tuple", .base (.dK z), kit_ty (by decide +kernel)⟩
  | byt y => exact h.elim
  | flt y => exact h.elim
  | ty y => exact h.elim
theorem isShs_not {H : Hp} {x : V} (h : NotTup H x) : isShs H x = false := by
  cases x with
  | ref a => rcases h with ⟨y, z⟩ | ⟨y, z⟩ <;> simp only [isShs, z]
  | _ => rfl
theorem isi_tup {K : PySem.W.Frag} {H : Hp} {a : Addr} {xs : List V} (h : H a = some (.tup xs)) : ∃ t u, ClsV (.ty "tuple") u ∧ TyX K H (.ref a) t ∧ PySem.W.kitOne K t u = some true := ⟨_, _, .ty "tuple", .base (.tup h), kit_ty (by decide +kernel)⟩
def spShares (K : PySem.W.Frag) : Sp := fun vs H Q _ => ∃ x, vs = [x] ∧ Thing K H x ∧ ∀ H', Same H H' → Q (.bl (isShs H x)) H'
theorem walk_zipT {K : PySem.W.Frag} {a b : Addr} {xs ys : List V} : Walk (RZ.ItzT K a b) (min xs.length ys.length) (fun H => SqT K H a xs ∧ SqT K H b ys) (YPair (fun i => xs[i]?) (fun i => ys[i]?)) :=
  ⟨fun i _ hi q => ⟨xs, ys, xs[i]'(by omega), ys[i]'(by omega), q.1, q.2, by simp [show i < xs.length by omega], by simp [show i < ys.length by omega]⟩,
    fun _ q => ⟨xs, ys, q.1, q.2, by omega⟩, fun i H v H' _ q y => by
      obtain ⟨T, x, y, e1, e2, e3, e4, e5⟩ := y
      exact ⟨T, x, y, e1, e2, e3, e4 xs q.1, e5 ys q.2⟩⟩
def ltB : V → V → Bool
  | .int a, .int b => decide (a < b)
  | _, _ => false
def ups (xs : List V) : Bool := (List.zipWith ltB xs (xs.drop 1)).all id
def someK (n : Nat) (xs : List V) : Bool := xs.all (within 0 ((n : Int) - 1)) && ups xs
theorem all_ints {lo hi : Int} : ∀ {xs : List V}, xs.all (within lo hi) = true → ∃ ks : List Int, xs = ks.map V.int ∧ ∀ k ∈ ks, lo ≤ k ∧ k ≤ hi
  | [], _ => ⟨[], rfl, fun _ h => nomatch h⟩
  | x :: xs, h => by
    rw [List.all_cons, Bool.and_eq_true] at h
    obtain ⟨ks, e, hk⟩ := all_ints h.2
    cases x with
    | int i =>
      have h1 : (decide (lo ≤ i) && decide (i ≤ hi)) = true := h.1
      rw [Bool.and_eq_true, decide_eq_true_eq, decide_eq_true_eq] at h1
      refine ⟨i :: ks, by rw [e]; rfl, fun k hk' => ?_⟩
      rcases List.mem_cons.mp hk' with rfl | hk'
      · exact h1
      · exact hk k hk'
    | _ => exact nomatch h.1
theorem ups_rise : ∀ {ks : List Int}, Rise ks → ups (ks.map V.int) = true
  | [], _ => rfl
  | [_], _ => rfl
  | a :: b :: r, h => by
    have h2 := List.pairwise_cons.mp h
    have ih := ups_rise h2.2
    show (ltB (.int a) (.int b) && (List.zipWith ltB ((b :: r).map V.int) (((b :: r).map V.int).drop 1)).all id) = true
    rw [Bool.and_eq_true]
    exact ⟨decide_eq_true (h2.1 b List.mem_cons_self), ih⟩
theorem within_all {ks : List Int} {lo hi : Int} (h : ∀ k ∈ ks, lo ≤ k ∧ k ≤ hi) : (ks.map V.int).all (within lo hi) = true := by
  rw [List.all_map, List.all_eq_true]
  intro k hk
  show (decide (lo ≤ k) && decide (k ≤ hi)) = true
  rw [decide_eq_true (h k hk).1, decide_eq_true (h k hk).2]; rfl
theorem someK_of {n : Nat} {ks : List Int} (h : Rise ks) (hk : ∀ k ∈ ks, 0 ≤ k ∧ k < n) : someK n (ks.map V.int) = true := by
  unfold someK
  rw [ups_rise h, within_all (fun k hk' => ⟨(hk k hk').1, by have := (hk k hk').2; omega⟩)]; rfl
def isSm (H : Hp) (n : Nat) : V → Bool
  | .ref a => match H a with
    | some (.tup xs) => someK n xs
    | _ => false
  | _ => false
theorem isSm_not {H : Hp} {x : V} {n : Nat} (h : NotTup H x) : isSm H n x = false := by
  cases x with
  | ref a => rcases h with ⟨y, z⟩ | ⟨y, z⟩ <;> simp only [isSm, z]
  | _ => rfl
theorem cut_tail (xs : List V) (h : ¬ (HT.sIx xs.length 0 (some 1) = 0 ∧ HT.sIx xs.length xs.length none = xs.length)) : cutV xs (some 1) none = xs.drop 1 ∧ xs ≠ [] := by
  have e1 : HT.sIx xs.length 0 (some 1) = min 1 xs.length := HT.sIx_nat xs.length 0 1
  have e2 : HT.sIx xs.length xs.length none = xs.length := HT.sIx_none _ _
  rw [e1, e2] at h
  unfold cutV
  rw [e1, e2]
  cases xs with
  | nil => exact absurd ⟨rfl, rfl⟩ h
  | cons x r =>
    refine ⟨?_, fun z => nomatch z⟩
    rw [List.length_cons, show min 1 (r.length + 1) = 1 by omega, Nat.add_sub_cancel]
    exact List.take_length
theorem cut_whole (xs : List V) (h : HT.sIx xs.length 0 (some 1) = 0) : xs.length = 0 := by
  have e1 : HT.sIx xs.length 0 (some 1) = min 1 xs.length := HT.sIx_nat xs.length 0 1
  omega
def spChk (K : PySem.W.Frag) : Sp := fun vs H Q _ => ∃ x, vs = [x] ∧ Thing K H x ∧ isShs H x = true ∧ ∀ H', Same H H' → Q .non H'
def spIsSome (K : PySem.W.Frag) : Sp := fun vs H Q _ => ∃ x a ss, vs = [x, .ref a] ∧ H a = some (.tup ss) ∧ ss.length ≤ 1000 ∧ Thing K H x ∧ (∀ c xs, x = .ref c → H c = some (.tup xs) → xs.length ≤ 1000) ∧ ∀ H', Same H H' → Q (.bl (isSm H ss.length x)) H'
def spChkSome (K : PySem.W.Frag) : Sp := fun vs H Q _ => ∃ x a ss, vs = [x, .ref a] ∧ H a = some (.tup ss) ∧ ss.length ≤ 1000 ∧ Thing K H x ∧ (∀ c xs, x = .ref c → H c = some (.tup xs) → xs.length ≤ 1000) ∧ isSm H ss.length x = true ∧ ∀ H', Same H H' → Q .non H'
/-! ### totals and parts of shares -/
/-- shares, as numbers -/
def Good (ns : List Int) : Prop := 1 ≤ ns.length ∧ ns.length ≤ 5 ∧ ∀ x ∈ ns, 1 ≤ x ∧ x ≤ 9
theorem Good.shs {ns : List Int} (h : Good ns) : shs (ns.map V.int) = true := by
  unfold KGX.shs
  rw [List.length_map, decide_eq_true h.1, decide_eq_true h.2.1, within_all h.2.2]; rfl
theorem kn_ints {K : PySem.W.Frag} {H : Hp} {ns : List Int} : ∀ y ∈ ns.map V.int, Kn K H y := fun y hy => by
  obtain ⟨x, _, rfl⟩ := List.mem_map.mp hy
  trivial
theorem thing_ints {K : PySem.W.Frag} {H : Hp} {a : Addr} {ns : List Int} (h : H a = some (.tup (ns.map V.int))) : Thing K H (.ref a) := .inl ⟨a, _, rfl, h, kn_ints⟩
theorem isShs_of {H : Hp} {a : Addr} {ns : List Int} (h : H a = some (.tup (ns.map V.int))) (g : Good ns) : isShs H (.ref a) = true := by
  simp only [isShs, h]; exact g.shs
theorem sum_bounds : ∀ {ns : List Int}, (∀ x ∈ ns, 0 ≤ x ∧ x ≤ 9) → 0 ≤ ns.sum ∧ ns.sum ≤ 9 * ns.length
  | [], _ => by decide
  | x :: r, h => by
    have h1 := h x List.mem_cons_self
    have h2 := sum_bounds (ns := r) fun y hy => h y (List.mem_cons_of_mem _ hy)
    rw [List.sum_cons, List.length_cons]
    omega
theorem Good.sum_pos {ns : List Int} (g : Good ns) : 0 < ns.sum ∧ ns.sum ≤ 45 := by
  obtain ⟨h1, h5, hx⟩ := g
  cases ns with
  | nil => exact absurd h1 (by decide)
  | cons x r =>
    have a1 := hx x List.mem_cons_self
    have a2 := sum_bounds (ns := r) fun y hy => ⟨by have := (hx y (List.mem_cons_of_mem _ hy)).1; omega, (hx y (List.mem_cons_of_mem _ hy)).2⟩
    rw [List.sum_cons]
    rw [List.length_cons] at h5
    omega
def pick (ns ks : List Int) : List Int := ks.map fun k => ns.getD k.toNat 0
def spTotal : Sp := fun vs H Q _ => ∃ (a : Addr) (ns : List Int), vs = [.ref a] ∧ H a = some (.tup (ns.map V.int)) ∧ Good ns ∧ ∀ H', Same H H' → Q (.int ns.sum) H'
/-- [shares[kind] for kind in some] -/
theorem at_kind {ns : List Int} {k : Int} (h0 : 0 ≤ k) (h1 : k < ns.length) : atI (ns.map V.int) k = some (.int (ns.getD k.toNat 0)) := by
  refine at_of (j := k.toNat) (by omega) ?_
  have hk : k.toNat < ns.length := by omega
  rw [List.getElem?_map, List.getElem?_eq_getElem hk, List.getD_eq_getElem?_getD, List.getElem?_eq_getElem hk]
  rfl
def spPart : Sp := fun vs H Q _ => ∃ (a c : Addr) (ns ks : List Int), vs = [.ref a, .ref c] ∧ H a = some (.tup (ns.map V.int)) ∧ Good ns ∧ H c = some (.tup (ks.map V.int)) ∧ ks.length ≤ 1000 ∧ Rise ks ∧ (∀ k ∈ ks, 0 ≤ k ∧ k < ns.length) ∧
  ∀ H' p, Same H H' → H p = none → H' p = some (.tup (low (pick ns ks).sum ns.sum)) → Q (.ref p) H'
/-! ### what is shown -/
theorem shown_int {i : Int} (h : i.natAbs.log2 < 1920) : (PyData.shown (.int i)).length ≤ 1921 := by
  have e := int_text_length_le (k := 1920) (by decide) h
  show (Str.ofString (toString i)).length ≤ _
  rw [PySem.ofString_length]
  exact e
theorem sh_int {i : Int} (h : i.natAbs.log2 < 1920) : KG.ShowOk (.int i) := ⟨decide_eq_true h, rfl, (by show (0 : Nat) ≤ 20; decide), Nat.le_trans (shown_int h) (by decide)⟩
theorem sh_two {i j : Int} (hi : i.natAbs.log2 < 1920) (hj : j.natAbs.log2 < 1920) : KG.ShowOk (.tuple [.int i, .int j]) := by
  refine ⟨?_, rfl, by show 0 + 1 ≤ 20; decide, ?_⟩
  · show (decide (i.natAbs.log2 < 1920) && (decide (j.natAbs.log2 < 1920) && true)) = true
    rw [decide_eq_true hi, decide_eq_true hj]; rfl
  · have e := tupleText_len_le [PyData.shown (.int i), PyData.shown (.int j)]
    have e1 := shown_int hi
    have e2 := shown_int hj
    show (tupleText [PyData.shown (.int i), PyData.shown (.int j)]).length ≤ _
    refine Nat.le_trans e (Nat.le_trans ?_ (show 4000 ≤ sizeLine by decide))
    simp only [List.map_cons, List.map_nil, List.sum_cons, List.sum_nil, List.length_cons, List.length_nil]
    omega
theorem log_of {i : Int} {n : Nat} (h : i.natAbs < 2 ^ n) (h0 : 0 < n) (hn : n ≤ 1920) : i.natAbs.log2 < 1920 := Nat.lt_of_lt_of_le (PySem.Flt.log2_lt_of h0 h) hn
theorem log_small {i : Int} (h : i.natAbs ≤ 1000000) : i.natAbs.log2 < 1920 := log_of (n := 20) (Nat.lt_of_le_of_lt h (by decide)) (by decide) (by decide)
/-- some kinds, written as a tuple -/
def KindsAt (m : Nat) (H : Hp) (q : Addr) : Prop := ∃ ks : List Int, H q = some (.tup (ks.map V.int)) ∧ ks.length ≤ 1000 ∧ Rise ks ∧ ∀ k ∈ ks, 0 ≤ k ∧ k < m
theorem KindsAt.mono {m : Nat} {H H' : Hp} {q : Addr} (h : KindsAt m H q) (s : Same H H') : KindsAt m H' q := by
  obtain ⟨ks, e, r⟩ := h
  exact ⟨ks, s _ _ e, r⟩
theorem KindsAt.kp {m : Nat} {b : Addr} {o : List V} {H H' : Hp} {q : Addr} (h : KindsAt m H q) (eb : H b = some (.lst o)) (s : Kp b H H') : KindsAt m H' q := by
  obtain ⟨ks, e, r⟩ := h
  exact ⟨ks, s _ _ (ne_of e eb (by intro z; cases z)) e, r⟩
theorem rise_range (n : Nat) : Rise ((List.range n).map fun i : Nat => (i : Int)) := by
  refine List.pairwise_map.mpr (List.Pairwise.imp ?_ List.pairwise_lt_range)
  intro a b h
  exact Int.ofNat_lt.mpr h
theorem rg_kinds {H : Hp} {q : Addr} {n : Nat} (hn : n ≤ 1000) (e : H q = some (.tup (rgV 0 n))) : KindsAt n H q := by
  refine ⟨(List.range n).map fun i : Nat => (i : Int), ?_, ?_, rise_range n, ?_⟩
  · rw [e]
    unfold rgV
    rw [List.map_map, show ((n : Int) - 0).toNat = n by omega]
    congr 2
    refine List.map_congr_left fun i _ => ?_
    show V.int (0 + (i : Int)) = V.int (i : Int)
    rw [Int.zero_add]
  · rw [List.length_map, List.length_range]; exact hn
  · intro k hk
    obtain ⟨i, hi, rfl⟩ := List.mem_map.mp hk
    have := List.mem_range.mp hi
    omega
theorem low_small {t b : Int} (ht : t.natAbs ≤ 1000000) (h0 : 0 < b) (hb : b ≤ 1000000) : (t / (Int.gcd t b : Int)).natAbs.log2 < 1920 ∧ (b / (Int.gcd t b : Int)).natAbs.log2 < 1920 := by
  have g := gcd_pos (t := t) h0
  have d : ∀ x : Int, x.natAbs ≤ 1000000 → (x / (Int.gcd t b : Int)).natAbs ≤ 1000000 := fun x hx => by
    have h1 : (x / (Int.gcd t b : Int)).natAbs ≤ x.natAbs := Int.natAbs_ediv_le_natAbs _ _
    omega
  exact ⟨log_small (d t ht), log_small (d b (by omega))⟩
def sp_law (K : PySem.W.Frag) : Sp := fun vs H Q _ => ∃ (a : Addr) (ns : List Int), vs = [.ref a] ∧ SqL K H a (ns.map V.int) ∧ ns.length ≤ 63 ∧ ∀ H', Q (.bl true) H'
theorem start_law (K : PySem.W.Frag) (H : Hp) (a : Addr) (ns : List Int) (hl : ns.length ≤ 63) (_ : Only H) (hS : SqL K H a (ns.map V.int)) : sp_law K [.ref a] H (fun v _ => v = .bl true) fun _ _ _ => False := ⟨a, ns, rfl, hS, hl, fun _ => rfl⟩
theorem pick_bounds {ss ks : List Int} (g : Good ss) (hk : ∀ k ∈ ks, 0 ≤ k ∧ k < ss.length) : ∀ x ∈ pick ss ks, 0 ≤ x ∧ x ≤ 9 := fun x hx => by
  obtain ⟨k, hk', rfl⟩ := List.mem_map.mp hx
  have h := hk k hk'
  have hl : k.toNat < ss.length := by omega
  rw [List.getD_eq_getElem?_getD, List.getElem?_eq_getElem hl]
  have := g.2.2 ss[k.toNat] (List.getElem_mem hl)
  show 0 ≤ ss[k.toNat] ∧ ss[k.toNat] ≤ 9
  omega
end KGX

namespace KGX
open PySem PySem.Spec PyProof.Rows L2
/-! ### fractions -/
def frB : List V → Bool
  | [.int t, .int b] => decide (1 ≤ b) && decide (Int.gcd t b = 1)
  | _ => false
def isFr (H : Hp) : V → Bool
  | .ref a => match H a with
    | some (.tup xs) => frB xs
    | _ => false
  | _ => false
theorem isFr_not {H : Hp} {x : V} (h : NotTup H x) : isFr H x = false := by
  cases x with
  | ref a => rcases h with ⟨y, z⟩ | ⟨y, z⟩ <;> simp only [isFr, z]
  | _ => rfl
theorem isFr_tup {H : Hp} {a : Addr} {xs : List V} (h : H a = some (.tup xs)) : isFr H (.ref a) = frB xs := by simp only [isFr, h]
theorem frB_len {xs : List V} (h : xs.length ≠ 2) : frB xs = false := by
  match xs, h with
  | [], _ => rfl
  | [x], _ => cases x <;> rfl
  | [_, _], h => exact absurd rfl h
  | x :: y :: z :: r, _ => cases x <;> first | rfl | (cases y <;> rfl)
theorem frB_not {x y : V} (h : whole x = false ∨ whole y = false) : frB [x, y] = false := by
  cases x with
  | int i =>
    cases y with
    | int j => rcases h with h | h <;> exact nomatch h
    | _ => rfl
  | _ => rfl
def spIsFr (K : PySem.W.Frag) : Sp := fun vs H Q _ => ∃ x, vs = [x] ∧ Thing K H x ∧ Q (.bl (isFr H x)) H
/-- a fraction of a size that can be reckoned with -/
def Fr (a b : Int) : Prop := 1 ≤ b ∧ Int.gcd a b = 1 ∧ a.natAbs < 2 ^ 4000 ∧ b.natAbs < 2 ^ 4000
theorem Fr.is {H : Hp} {p : Addr} {a b : Int} (h : Fr a b) (e : H p = some (.tup [.int a, .int b])) : isFr H (.ref p) = true := by
  rw [isFr_tup e]
  show (decide (1 ≤ b) && decide (Int.gcd a b = 1)) = true
  rw [decide_eq_true h.1, decide_eq_true h.2.1]; rfl
theorem thing_two {K : PySem.W.Frag} {H : Hp} {p : Addr} {a b : Int} (e : H p = some (.tup [.int a, .int b])) : Thing K H (.ref p) := thing_ints (ns := [a, b]) e
/-- two fractions handed in -/
def sp2 (g : Int → Int → Int → Int → VK → Hp → Prop) : Sp := fun vs H Q _ => ∃ p q a b c d, vs = [.ref p, .ref q] ∧ H p = some (.tup [.int a, .int b]) ∧ H q = some (.tup [.int c, .int d]) ∧ Fr a b ∧ Fr c d ∧ g a b c d Q H
/-- a new fraction -/
def newFr (t b : Int) : VK → Hp → Prop := fun Q H => ∀ H' r, Same H H' → H r = none → H' r = some (.tup (low t b)) → Q (.ref r) H'
def spChkFr : Sp := sp2 fun _ _ _ _ Q H => Q .non H
def spAdded : Sp := sp2 fun a b c d => newFr (a * d + c * b) (b * d)
def spLessened : Sp := sp2 fun a b c d => newFr (a * d - c * b) (b * d)
def spMultiplied : Sp := sp2 fun a b c d => newFr (a * c) (b * d)
def spIsLess : Sp := sp2 fun a b c d Q H => Q (.bl (decide (a * d < c * b))) H
theorem mulW {i j : Int} (hi : i.natAbs < 2 ^ 4000) (hj : j.natAbs < 2 ^ 4000) : CMulW i j := wide_mul hi hj (by decide) (by decide) (by decide)
theorem log_prod {b d : Int} (hb : b.natAbs < 2 ^ 4000) (hd : d.natAbs < 2 ^ 4000) : (b * d).natAbs.log2 < 9000 := by
  have h := wide_lt hb hd
  exact Nat.lt_of_lt_of_le (PySem.Flt.log2_lt_of (by decide) h) (by decide)
theorem pos_prod {b d : Int} (hb : 1 ≤ b) (hd : 1 ≤ d) : 0 < b * d := Int.mul_pos (by omega) (by omega)
/-! ### lowest terms -/
theorem low_mul {t b y : Int} (hb : 0 < b) (hy : 0 < y) : low (t * y) (b * y) = low t b := by
  have e : (Int.gcd (t * y) (b * y) : Int) = (Int.gcd t b : Int) * y := by
    rw [Int.gcd_mul_right]
    have : (y.natAbs : Int) = y := by omega
    rw [Int.natCast_mul, this]
  have g := gcd_pos (t := t) hb
  unfold low
  rw [e, Int.mul_ediv_mul_of_pos_left _ _ hy, Int.mul_ediv_mul_of_pos_left _ _ hy]
theorem low_fr {t b : Int} (hb : 0 < b) : 1 ≤ b / (Int.gcd t b : Int) ∧ Int.gcd (t / (Int.gcd t b : Int)) (b / (Int.gcd t b : Int)) = 1 := by
  have g := gcd_pos (t := t) hb
  have gl := gcd_le (t := t) hb
  refine ⟨?_, ?_⟩
  · exact (Int.le_ediv_iff_mul_le g).mpr (by omega)
  · exact Int.gcd_ediv_gcd_ediv_gcd (by omega)
theorem natAbs_div_le {x g : Int} : (x / g).natAbs ≤ x.natAbs := Int.natAbs_ediv_le_natAbs _ _
/-! ### numbers drawn -/
def spNum : Sp := fun vs H Q _ => ∃ (b : Addr) (n : Int), vs = [.ref b] ∧ H b = some (.lst [.int n]) ∧ ∀ H' n' v, Kp b H H' → H' b = some (.lst [.int n']) → v.natAbs ≤ 10 ^ 19 → Q (.int v) H'
def spTruth : Sp := fun vs H Q _ => ∃ x y, vs = [.bl x, .bl y] ∧ Q (.bl (decide (x = y))) H
/-- two pairs handed in, whatever they are -/
def spPlus : Sp := fun vs H Q _ => ∃ p q a b c d, vs = [.ref p, .ref q] ∧ H p = some (.tup [.int a, .int b]) ∧ H q = some (.tup [.int c, .int d]) ∧ 1 ≤ b ∧ 1 ≤ d ∧
  a.natAbs < 2 ^ 4000 ∧ b.natAbs < 2 ^ 4000 ∧ c.natAbs < 2 ^ 4000 ∧ d.natAbs < 2 ^ 4000 ∧ newFr (a * d + c * b) (b * d) Q H
/-- a size, kept below -/
theorem sz_mul {i j : Int} {m n : Nat} (hi : i.natAbs < 2 ^ m) (hj : j.natAbs < 2 ^ n) : (i * j).natAbs < 2 ^ (m + n) := wide_lt hi hj
theorem sz_add {i j : Int} {n : Nat} (hi : i.natAbs < 2 ^ n) (hj : j.natAbs < 2 ^ n) : (i + j).natAbs < 2 ^ (n + 1) := by
  rw [Nat.pow_succ]; omega
theorem sz_sub {i j : Int} {n : Nat} (hi : i.natAbs < 2 ^ n) (hj : j.natAbs < 2 ^ n) : (i - j).natAbs < 2 ^ (n + 1) := by
  rw [Nat.pow_succ]; omega
theorem sz_le {i : Int} {m n : Nat} (hi : i.natAbs < 2 ^ m) (h : m ≤ n) : i.natAbs < 2 ^ n := Nat.lt_of_lt_of_le hi (Nat.pow_le_pow_right (by decide) h)
theorem low_show {t b : Int} {n : Nat} (ht : t.natAbs < 2 ^ n) (hb : b.natAbs < 2 ^ n) (h0 : 0 < n) (hn : n ≤ 1920) : KG.ShowOk (.tuple [.int (t / (Int.gcd t b : Int)), .int (b / (Int.gcd t b : Int))]) :=
  sh_two (log_of (Nat.lt_of_le_of_lt natAbs_div_le ht) h0 hn) (log_of (Nat.lt_of_le_of_lt natAbs_div_le hb) h0 hn)
end KGX

namespace KGX
open PySem PySem.Spec PyProof.Rows L2
/-! ### things of whatever kind, off the box at b; l: lists, else dicts may be in them -/
def keyD : Key → PyData
  | .inl i => .int i
  | .inr x => .str x
mutual
inductive Dq (l : Bool) (b : Addr) (H : Hp) : V → PyData → Prop
  | non : Dq l b H .non .none
  | bl (x : Bool) : Dq l b H (.bl x) (.bool x)
  | int (i : Int) : Dq l b H (.int i) (.int i)
  | str (x : Str) : Dq l b H (.str x) (.str x)
  | lst {a : Addr} {xs : List V} {ds : List PyData} : l = true → a ≠ b → H a = some (.lst xs) → DqAll l b H xs ds → Dq l b H (.ref a) (.list ds)
  | tup {a : Addr} {xs : List V} {ds : List PyData} : H a = some (.tup xs) → DqAll l b H xs ds → Dq l b H (.ref a) (.tuple ds)
  | dct {a : Addr} {kvs : List (Key × Int)} : l = false → H a = some (.dK (kvs.map fun p => (p.1, V.int p.2))) → Dq l b H (.ref a) (.dict (kvs.map fun p => (keyD p.1, PyData.int p.2)))
inductive DqAll (l : Bool) (b : Addr) (H : Hp) : List V → List PyData → Prop
  | nil : DqAll l b H [] []
  | cons {v : V} {vs : List V} {d : PyData} {ds : List PyData} : Dq l b H v d → DqAll l b H vs ds → DqAll l b H (v :: vs) (d :: ds)
end
section
variable {l : Bool} {b : Addr} {H H' : Hp} {o : List V}
mutual
theorem Dq.kp (eb : H b = some (.lst o)) (k : Kp b H H') : ∀ {v : V} {d : PyData}, Dq l b H v d → Dq l b H' v d
  | _, _, .non => .non
  | _, _, .bl x => .bl x
  | _, _, .int x => .int x
  | _, _, .str x => .str x
  | _, _, .lst h1 h2 h3 h4 => .lst h1 h2 (k _ _ h2 h3) (DqAll.kp eb k h4)
  | _, _, .tup h1 h2 => .tup (k _ _ (ne_of h1 eb (by intro z; cases z)) h1) (DqAll.kp eb k h2)
  | _, _, .dct h1 h2 => .dct h1 (k _ _ (ne_of h2 eb (by intro z; cases z)) h2)
theorem DqAll.kp (eb : H b = some (.lst o)) (k : Kp b H H') : ∀ {vs : List V} {ds : List PyData}, DqAll l b H vs ds → DqAll l b H' vs ds
  | _, _, .nil => .nil
  | _, _, .cons h1 h2 => .cons (Dq.kp eb k h1) (DqAll.kp eb k h2)
end
mutual
theorem Dq.mono (k : Same H H') : ∀ {v : V} {d : PyData}, Dq l b H v d → Dq l b H' v d
  | _, _, .non => .non
  | _, _, .bl x => .bl x
  | _, _, .int x => .int x
  | _, _, .str x => .str x
  | _, _, .lst h1 h2 h3 h4 => .lst h1 h2 (k _ _ h3) (DqAll.mono k h4)
  | _, _, .tup h1 h2 => .tup (k _ _ h1) (DqAll.mono k h2)
  | _, _, .dct h1 h2 => .dct h1 (k _ _ h2)
theorem DqAll.mono (k : Same H H') : ∀ {vs : List V} {ds : List PyData}, DqAll l b H vs ds → DqAll l b H' vs ds
  | _, _, .nil => .nil
  | _, _, .cons h1 h2 => .cons (Dq.mono k h1) (DqAll.mono k h2)
end
theorem Dq.kn {K : PySem.W.Frag} {v : V} {d : PyData} (h : Dq l b H v d) : Kn K H v := by
  cases h with
  | non => trivial
  | bl x => trivial
  | int x => trivial
  | str x => trivial
  | lst h1 h2 h3 h4 => exact .inl ⟨_, h3⟩
  | tup h1 h2 => exact .inr (.inl ⟨_, h1⟩)
  | dct h1 h2 => exact .inr (.inr ⟨_, h2⟩)
theorem DqAll.kn {K : PySem.W.Frag} : ∀ {vs : List V} {ds : List PyData}, DqAll l b H vs ds → ∀ y ∈ vs, Kn K H y
  | _, _, .nil, _, hy => nomatch hy
  | _, _, .cons h1 h2, y, hy => by
    rcases List.mem_cons.mp hy with rfl | hy
    · exact h1.kn
    · exact DqAll.kn h2 y hy
theorem Dq.thing {K : PySem.W.Frag} {v : V} {d : PyData} (h : Dq l b H v d) : Thing K H v := by
  cases h with
  | non => exact .inr trivial
  | bl x => exact .inr trivial
  | int x => exact .inr trivial
  | str x => exact .inr trivial
  | lst h1 h2 h3 h4 => exact .inr (.inl ⟨_, h3⟩)
  | tup h1 h2 => exact .inl ⟨_, _, rfl, h1, h2.kn⟩
  | dct h1 h2 => exact .inr (.inr ⟨_, h2⟩)
theorem DqAll.append : ∀ {vs ws : List V} {ds es : List PyData}, DqAll l b H vs ds → DqAll l b H ws es → DqAll l b H (vs ++ ws) (ds ++ es)
  | _, _, _, _, .nil, h => h
  | _, _, _, _, .cons h1 h2, h => .cons h1 (DqAll.append h2 h)
theorem DqAll.ints : ∀ (ns : List Int), DqAll l b H (ns.map V.int) (ns.map PyData.int)
  | [] => .nil
  | i :: r => .cons (.int i) (DqAll.ints r)
mutual
theorem Dq.noDict : ∀ {v : V} {d : PyData}, Dq true b H v d → d.hasDict = false
  | _, _, .non => rfl
  | _, _, .bl x => rfl
  | _, _, .int x => rfl
  | _, _, .str x => rfl
  | _, _, .lst h1 h2 h3 h4 => by show PyData.hasDictAll _ = false; exact DqAll.noDict h4
  | _, _, .tup h1 h2 => by show PyData.hasDictAll _ = false; exact DqAll.noDict h2
theorem DqAll.noDict : ∀ {vs : List V} {ds : List PyData}, DqAll true b H vs ds → PyData.hasDictAll ds = false
  | _, _, .nil => rfl
  | _, _, .cons h1 h2 => by
    show (PyData.hasDict _ || PyData.hasDictAll _) = false
    rw [Dq.noDict h1, DqAll.noDict h2]; rfl
end
end
section
variable {X : Cx} {pins : List (Addr × Obj)} {σ : L2.St} {H : Hp} {s : Shared} {l : Bool} {b : Addr}
theorem pairs_read {h : Heap} : ∀ {es : List DictEntry} {vs : List (Key × Value)} {kvs : List (Key × Int)}, PySem.Pairs (mixKind X.prog X.w) es vs → KV (kvs.map fun p => (p.1, V.int p.2)) vs →
    ReadsAll h (es.map (·.key)) ((kvs.map fun p => (keyD p.1, PyData.int p.2)).map (·.1)) [] ∧ ReadsAll h (es.map (·.val)) ((kvs.map fun p => (keyD p.1, PyData.int p.2)).map (·.2)) []
  | _, _, [], hp, hk => by
    cases hk
    cases hp
    exact ⟨.nil, .nil⟩
  | _, _, (k, i) :: r, hp, hk => by
    cases hk with
    | cons h1 h2 =>
      cases hp with
      | @cons ent _ _ _ k1 k2 k3 =>
        obtain ⟨r1, r2⟩ := pairs_read (h := h) k3 h2
        obtain ⟨e1, e2⟩ := h1
        obtain ⟨t, e2⟩ := e2
        rw [← e1] at k1
        refine ⟨?_, ?_⟩
        · have hk2 : Reads h ent.key (keyD k) [] := by
            rcases keyIs_shape (show keyIs k _ = true from k1) with ⟨i', t', rfl, e⟩ | ⟨x', t', rfl, e⟩
            · rw [e]; exact .int _ _
            · rw [e]; exact .str _ _
          exact ReadsAll.cons (as := []) hk2 r1
        · rw [List.map_cons, k2, e2]
          exact ReadsAll.cons (as := []) (.int _ _) r2
mutual
theorem Dq.reads (I : Inv X pins σ H s) : ∀ {d : PyData} {v : V} {u : Value}, Dq l b H v d → RelV v u → ∃ as, Reads s.heap u d as ∧ (l = false → sysModules ∉ as)
  | _, _, u, .non, r => by
    cases (show u = Value.none from r)
    exact ⟨_, .none, fun _ z => nomatch z⟩
  | _, _, u, .bl x, r => by
    cases (show u = Value.bool x from r)
    exact ⟨_, .bool x, fun _ z => nomatch z⟩
  | _, _, u, .int i, r => by
    obtain ⟨t, rfl⟩ := (show ∃ t, u = Value.int i t from r)
    exact ⟨_, .int i t, fun _ z => nomatch z⟩
  | _, _, u, .str x, r => by
    obtain ⟨t, rfl⟩ := (show ∃ t, u = Value.str x t from r)
    exact ⟨_, .str x t, fun _ z => nomatch z⟩
  | _, _, u, .lst (a := a) h1 h2 h3 h4, r => by
    cases (show u = Value.ref a from r)
    obtain ⟨its, rv, ⟨o, n, ho, hc, _, hd⟩, _⟩ := I.list (.inl (.inl h3))
    obtain ⟨as, hr, _⟩ := DqAll.reads I h4 rv
    exact ⟨_, .list ho hc hd hr, fun z => by rw [h1] at z; exact nomatch z⟩
  | _, _, u, .tup (a := a) h1 h2, r => by
    cases (show u = Value.ref a from r)
    obtain ⟨its, rv, ⟨o, ho, hc, n, hd⟩, _⟩ := I.tuple (.inl (.inl h1))
    obtain ⟨as, hr, hn⟩ := DqAll.reads I h2 rv
    exact ⟨_, .tuple ho hc hd hr, hn⟩
  | _, _, u, .dct (a := a) (kvs := kvs) h1 h2, r => by
    cases (show u = Value.ref a from r)
    obtain ⟨_, hsys, vs, hk, o, es, ep, e1, e2, e3, _, hp, _⟩ := I.hok a _ h2
    obtain ⟨r1, r2⟩ := pairs_read (X := X) (h := s.heap) hp hk
    refine ⟨_, .dict e1 e2.1 e3 r1 r2, fun _ z => ?_⟩
    have z' : sysModules = a := by simpa using z
    rw [← z'] at hsys
    simp at hsys
theorem DqAll.reads (I : Inv X pins σ H s) : ∀ {ds : List PyData} {vs : List V} {us : List Value}, DqAll l b H vs ds → Vals vs us → ∃ as, ReadsAll s.heap us ds as ∧ (l = false → sysModules ∉ as)
  | _, _, _, .nil, r => by
    cases r
    exact ⟨_, .nil, fun _ z => nomatch z⟩
  | _, _, _, .cons h1 h2, r => by
    cases r with
    | cons r1 r2 =>
      obtain ⟨as, q1, n1⟩ := Dq.reads I h1 r1
      obtain ⟨bs, q2, n2⟩ := DqAll.reads I h2 r2
      refine ⟨_, .cons q1 q2, fun z y => ?_⟩
      rcases List.mem_append.mp y with y | y
      · exact n1 z y
      · exact n2 z y
end
/-- it can be shown in so many signs, at such a depth -/
def Small (m k : Nat) (d : PyData) : Prop := d.showable = true ∧ d.shown.length ≤ m ∧ d.depth ≤ k
/-- repr of a thing -/
def rReprQ : List V → Hp → VK → Prop := fun xs H Q => ∃ x l b d, xs = [x] ∧ Dq l b H x d ∧ Small 100000 20 d ∧ Q (.str d.shown) H
theorem call_reprQ {k : Nat} (gd : X.A.guards = some []) (hr : Room k X.A) : CallR X (.builtin "repr") rReprQ := by
  intro pins s σ H xs us Q I r h
  obtain ⟨x, l, b, d, rfl, hd, ⟨hs, hl, hz⟩, q⟩ := h
  obtain ⟨u, rfl, ru⟩ := vals1 r
  have un := hr.un
  have hl' : d.shown.length ≤ sizeLine := Nat.le_trans hl (by decide)
  obtain ⟨as, rd, hn⟩ := Dq.reads I hd ru
  have hsm : d.hasDict = true → sysModules ∉ as := fun z => by
    cases l with
    | false => exact hn rfl
    | true => rw [Dq.noDict hd] at z; exact nomatch z
  cases hd with
  | non => cases (show u = Value.none from ru); exact PySem.P.repr_of_none ⟨.str _, H, I.tok _, ⟨_, rfl⟩, q⟩
  | bl b => cases (show u = Value.bool b from ru); exact PySem.P.repr_of_bool ⟨.str _, H, I.tok _, ⟨_, rfl⟩, q⟩
  | int i => obtain ⟨t, rfl⟩ := (show ∃ t, u = Value.int i t from ru); exact PySem.P.repr_of_int (of_decide_eq_true hs) ⟨.str _, H, I.tok _, ⟨_, rfl⟩, q⟩
  | str y => obtain ⟨t, rfl⟩ := (show ∃ t, u = Value.str y t from ru); exact PySem.P.repr_of_str ⟨.str _, H, I.tok _, ⟨_, rfl⟩, q⟩ hl'
  | @lst a ys ds h1 h2 h3 h4 =>
    cases (show u = Value.ref a from ru)
    exact repr_of_reads' rd hs hsm gd (by omega) (fun _ _ z => z) (fun h' u tk hk => ⟨.str _, H, I.kept hk, ⟨_, rfl⟩, q⟩) hl'
  | @tup a ys ds h1 h2 =>
    cases (show u = Value.ref a from ru)
    exact repr_of_reads' rd hs hsm gd (by omega) (fun _ _ z => z) (fun h' u tk hk => ⟨.str _, H, I.kept hk, ⟨_, rfl⟩, q⟩) hl'
  | @dct a kvs h1 h2 =>
    cases (show u = Value.ref a from ru)
    exact repr_of_reads' rd hs hsm gd (by omega) (fun _ _ z => z) (fun h' u tk hk => ⟨.str _, H, I.kept hk, ⟨_, rfl⟩, q⟩) hl'
/-- xs == [] -/
def rEqNil (K : PySem.W.Frag) : R2 := fun x y H Q => ∃ l m xs, x = .ref l ∧ y = .ref m ∧ SqL K H l xs ∧ SqL K H m [] ∧ Q (.bl xs.isEmpty) H
theorem op_eqNil {k : Nat} (hr : Room k X.A) : OpR X (compareOp .Eq) (rEqNil X.K) := by
  intro pins s σ H x y v u Q I rx ry h
  obtain ⟨l, m, xs, rfl, rfl, h1, h2, q⟩ := h
  cases rx
  cases ry
  have un := hr.un
  obtain ⟨its, r1, p1, _⟩ := I.list h1
  obtain ⟨its2, r2, p2, _⟩ := I.list h2
  cases r2
  cases xs with
  | nil =>
    cases r1
    exact SeqAt.eq_listAt (e := fun _ => true) p1.isList p2.isList rfl (by omega) (fun j h1 h2 => absurd h1 (by simp)) ⟨.bl true, H, I, rfl, q⟩
  | cons x r =>
    cases r1
    exact SeqAt.eq_list_lengthsAt p1.isList p2.isList (by simp) (by omega) ⟨.bl false, H, I, rfl, q⟩
end
end KGX

namespace KGX
open PySem PySem.Spec PyProof.Rows L2
theorem Small.mono {m k m' k' : Nat} {d : PyData} (h : Small m k d) (hm : m ≤ m') (hk : k ≤ k') : Small m' k' d := ⟨h.1, Nat.le_trans h.2.1 hm, Nat.le_trans h.2.2 hk⟩
theorem small_int {i : Int} {n : Nat} (h : i.natAbs < 2 ^ n) (h0 : 0 < n) (hn : n ≤ 1920) : Small (n + 1) 0 (.int i) := by
  have e0 := PySem.Flt.log2_lt_of h0 h
  have e := int_text_length_le (k := n) h0 e0
  refine ⟨decide_eq_true (Nat.lt_of_lt_of_le e0 hn), ?_, Nat.le_refl _⟩
  show (Str.ofString (toString i)).length ≤ _
  rw [PySem.ofString_length]
  exact e
theorem all_show {m k : Nat} : ∀ {ds : List PyData}, (∀ d ∈ ds, Small m k d) → PyData.showableAll ds = true ∧ ((PyData.shownAll ds).map (·.length)).sum ≤ m * ds.length ∧ PyData.depthAll ds ≤ k ∧ (PyData.shownAll ds).length = ds.length
  | [], _ => ⟨rfl, Nat.le_refl _, Nat.zero_le _, rfl⟩
  | d :: r, h => by
    obtain ⟨a1, a2, a3⟩ := h d List.mem_cons_self
    obtain ⟨b1, b2, b3, b4⟩ := all_show (ds := r) fun x hx => h x (List.mem_cons_of_mem _ hx)
    refine ⟨?_, ?_, ?_, ?_⟩
    · show (PyData.showable d && PyData.showableAll r) = true
      rw [a1, b1]; rfl
    · show (PyData.shown d).length + ((PyData.shownAll r).map (·.length)).sum ≤ m * (r.length + 1)
      rw [Nat.mul_add, Nat.mul_one]
      omega
    · exact Nat.max_le.mpr ⟨a3, b3⟩
    · show (PyData.shownAll r).length + 1 = r.length + 1
      rw [b4]
theorem mul_le_n {m a n : Nat} (h : a ≤ n) : m * a + 2 * a + 3 ≤ (m + 2) * n + 3 := by
  have h1 : m * a ≤ m * n := Nat.mul_le_mul_left m h
  rw [Nat.add_mul]
  omega
theorem small_tup {m k n : Nat} {ds : List PyData} (hn : ds.length ≤ n) (h : ∀ d ∈ ds, Small m k d) : Small ((m + 2) * n + 3) (k + 1) (.tuple ds) := by
  obtain ⟨a1, a2, a3, a4⟩ := all_show h
  refine ⟨a1, ?_, ?_⟩
  · have e := tupleText_len_le (PyData.shownAll ds)
    show (tupleText (PyData.shownAll ds)).length ≤ _
    rw [a4] at e
    exact Nat.le_trans e (Nat.le_trans (by omega) (mul_le_n (m := m) hn))
  · show PyData.depthAll ds + 1 ≤ k + 1
    omega
theorem small_lst {m k n : Nat} {ds : List PyData} (hn : ds.length ≤ n) (h : ∀ d ∈ ds, Small m k d) : Small ((m + 2) * n + 3) (k + 1) (.list ds) := by
  obtain ⟨a1, a2, a3, a4⟩ := all_show h
  refine ⟨a1, ?_, ?_⟩
  · have e := listText_len_le (PyData.shownAll ds)
    show (listText (PyData.shownAll ds)).length ≤ _
    rw [a4] at e
    exact Nat.le_trans e (Nat.le_trans (by omega) (mul_le_n (m := m) hn))
  · show PyData.depthAll ds + 1 ≤ k + 1
    omega
/-- a part of a thing; a thing -/
def ItAt (l : Bool) (b : Addr) (H : Hp) (x : V) : Prop := ∃ d, Dq l b H x d ∧ Small 2000 6 d
def ThAt (b : Addr) (H : Hp) (x : V) : Prop := ∃ l d, Dq l b H x d ∧ Small 100000 20 d
section
variable {l : Bool} {b : Addr} {H H' : Hp} {o : List V} {x : V}
theorem ItAt.mono (h : ItAt l b H x) (s : Same H H') : ItAt l b H' x := by
  obtain ⟨d, h1, h2⟩ := h
  exact ⟨d, h1.mono s, h2⟩
theorem ItAt.kp (h : ItAt l b H x) (eb : H b = some (.lst o)) (k : Kp b H H') : ItAt l b H' x := by
  obtain ⟨d, h1, h2⟩ := h
  exact ⟨d, h1.kp eb k, h2⟩
theorem ThAt.mono (h : ThAt b H x) (s : Same H H') : ThAt b H' x := by
  obtain ⟨l, d, h1, h2⟩ := h
  exact ⟨l, d, h1.mono s, h2⟩
theorem ThAt.kp (h : ThAt b H x) (eb : H b = some (.lst o)) (k : Kp b H H') : ThAt b H' x := by
  obtain ⟨l, d, h1, h2⟩ := h
  exact ⟨l, d, h1.kp eb k, h2⟩
theorem ItAt.th (h : ItAt l b H x) : ThAt b H x := by
  obtain ⟨d, h1, h2⟩ := h
  exact ⟨l, d, h1, h2.mono (by decide) (by decide)⟩
theorem its_all : ∀ {xs : List V}, (∀ x ∈ xs, ItAt l b H x) → ∃ ds, DqAll l b H xs ds ∧ ds.length = xs.length ∧ ∀ d ∈ ds, Small 2000 6 d
  | [], _ => ⟨[], .nil, rfl, fun _ h => nomatch h⟩
  | x :: r, h => by
    obtain ⟨d, h1, h2⟩ := h x List.mem_cons_self
    obtain ⟨ds, g1, g2, g3⟩ := its_all (xs := r) fun y hy => h y (List.mem_cons_of_mem _ hy)
    refine ⟨d :: ds, .cons h1 g1, by rw [List.length_cons, List.length_cons, g2], fun e he => ?_⟩
    rcases List.mem_cons.mp he with rfl | he
    · exact h2
    · exact g3 e he
theorem th_tup {a : Addr} {xs : List V} (e : H a = some (.tup xs)) (hl : xs.length ≤ 40) (h : ∀ x ∈ xs, ItAt l b H x) : ThAt b H (.ref a) := by
  obtain ⟨ds, g1, g2, g3⟩ := its_all h
  exact ⟨l, _, .tup e g1, (small_tup (n := 40) (by omega) g3).mono (by decide) (by decide)⟩
theorem th_lst {a : Addr} {xs : List V} (hb : a ≠ b) (e : H a = some (.lst xs)) (hl : xs.length ≤ 40) (h : ∀ x ∈ xs, ItAt true b H x) : ThAt b H (.ref a) := by
  obtain ⟨ds, g1, g2, g3⟩ := its_all h
  exact ⟨true, _, .lst rfl hb e g1, (small_lst (n := 40) (by omega) g3).mono (by decide) (by decide)⟩
theorem it_int {i : Int} (h : i.natAbs < 2 ^ 200) : ItAt l b H (.int i) := ⟨_, .int i, (small_int (n := 200) h (by decide) (by decide)).mono (by decide) (by decide)⟩
theorem it_ints {ns : List Int} (h : ∀ i ∈ ns, i.natAbs < 2 ^ 200) : ∀ x ∈ ns.map V.int, ItAt l b H x := fun x hx => by
  obtain ⟨i, hi, rfl⟩ := List.mem_map.mp hx
  exact it_int (h i hi)
theorem it_bl (x : Bool) : ItAt l b H (.bl x) := ⟨_, .bl x, by cases x <;> exact ⟨rfl, by decide, by decide⟩⟩
theorem it_non : ItAt l b H .non := ⟨_, .non, ⟨rfl, by decide, by decide⟩⟩
/-- a short row of ints, as a tuple, as a list -/
theorem it_tup {a : Addr} {ns : List Int} (e : H a = some (.tup (ns.map V.int))) (hl : ns.length ≤ 4) (h : ∀ i ∈ ns, i.natAbs < 2 ^ 200) : ItAt l b H (.ref a) := by
  refine ⟨_, .tup e (DqAll.ints ns), (small_tup (m := 201) (k := 0) (n := 4) (by rw [List.length_map]; exact hl) fun d hd => ?_).mono (by decide) (by decide)⟩
  obtain ⟨i, hi, rfl⟩ := List.mem_map.mp hd
  exact small_int (h i hi) (by decide) (by decide)
theorem it_lst {a : Addr} {ns : List Int} (hb : a ≠ b) (e : H a = some (.lst (ns.map V.int))) (hl : ns.length ≤ 4) (h : ∀ i ∈ ns, i.natAbs < 2 ^ 200) : ItAt true b H (.ref a) := by
  refine ⟨_, .lst rfl hb e (DqAll.ints ns), (small_lst (m := 201) (k := 0) (n := 4) (by rw [List.length_map]; exact hl) fun d hd => ?_).mono (by decide) (by decide)⟩
  obtain ⟨i, hi, rfl⟩ := List.mem_map.mp hd
  exact small_int (h i hi) (by decide) (by decide)
/-- a tuple of what is known -/
theorem it_of {a : Addr} {xs : List V} {ds : List PyData} (e : H a = some (.tup xs)) (h : DqAll l b H xs ds) (s : Small 2000 6 (.tuple ds)) : ItAt l b H (.ref a) := ⟨_, .tup e h, s⟩
end
theorem it_str {l : Bool} {b : Addr} {H : Hp} {i : Int} (h : i.natAbs < 2 ^ 110) : ItAt l b H (.str (toString i)) := by
  have e0 := PySem.Flt.log2_lt_of (by decide) h
  have e := int_text_length_le (k := 110) (by decide) e0
  refine ⟨_, .str _, rfl, ?_, Nat.zero_le _⟩
  have h1 : (Str.ofString (toString i)).length ≤ 111 := by rw [PySem.ofString_length]; exact e
  have h2 := StrLaws.reprText_len (Str.ofString (toString i)) (fun c hc => by
    rw [show (Str.ofString (toString i)).cps.toList = (toString i).toList.map Char.toNat from PyProof.Rows.signs_ofString _] at hc
    obtain ⟨ch, _, rfl⟩ := List.mem_map.mp hc
    exact Nat.lt_of_lt_of_le (UInt32.toNat_lt ch.val) (by decide))
  show (reprText (Str.ofString (toString i))).length ≤ 2000
  omega
theorem at_in {xs : List V} {i : Int} (h0 : 0 ≤ i) (h1 : i < xs.length) : ∃ x, atI xs i = some x ∧ x ∈ xs := by
  have hk : i.toNat < xs.length := by omega
  exact ⟨xs[i.toNat], at_of (j := i.toNat) (by omega) (List.getElem?_eq_getElem hk), List.getElem_mem hk⟩
def spOdd : Sp := fun vs H Q _ => ∃ (b : Addr) (n : Int), vs = [.ref b] ∧ H b = some (.lst [.int n]) ∧ ∀ H' x n' l, Kp b H H' → H' b = some (.lst [.int n']) → ItAt l b H' x → Q x H'
def spBent : Sp := fun vs H Q _ => ∃ (b r : Addr) (n : Int) (ns : List Int) (x : V) (l : Bool), vs = [.ref b, .ref r, x] ∧ H b = some (.lst [.int n]) ∧ H r = some (.tup (ns.map V.int)) ∧ 1 ≤ ns.length ∧ ns.length ≤ 5 ∧
  (∀ i ∈ ns, i.natAbs < 2 ^ 110) ∧ ItAt l b H x ∧ ∀ H' y n', Kp b H H' → H' b = some (.lst [.int n']) → ThAt b H' y → Q y H'
theorem rTimes_by {K : PySem.W.Frag} {H : Hp} {Q : VK} {l : Addr} {k : Int} {xs : List V} (h : SqT K H l xs) (hx : H l = some (.tup xs)) (hne : xs ≠ []) (h1 : 1 ≤ k) (h2 : k ≤ 1000) (h3 : xs.length ≤ 1000)
    (q : ∀ p H', Same H H' → H' p = some (.tup (List.replicate k.toNat xs).flatten) → Q (.ref p) H') : KG.rTimes K (.ref l) (.int k) H Q := by
  refine ⟨l, k, xs, rfl, rfl, h, hne, h1, h2, h3, fun e => ?_, fun _ p hp => q p _ (same_new hp) upd_same⟩
  refine q l H (Same.refl _) ?_
  subst e
  rw [hx]
  show _ = some (HO.tup (xs ++ []))
  rw [List.append_nil]
end KGX

namespace KGX
theorem rat_num {t b : Int} (h : 0 < b) : ((t : Rat) / (b : Rat)).num = t / (Int.gcd t b : Int) := by
  rw [← Rat.divInt_eq_div, Rat.num_divInt, Int.sign_eq_one_of_pos h, Int.one_mul, Int.gcd_comm]
theorem rat_den {t b : Int} (h : 0 < b) : (((t : Rat) / (b : Rat)).den : Int) = b / (Int.gcd t b : Int) := by
  rw [← Rat.divInt_eq_div, Rat.den_divInt]
  rw [if_neg (by omega), Int.gcd_comm]
  rw [Int.natCast_ediv]
  congr 1
  omega
theorem rat_self (x : Rat) : x = (x.num : Rat) / ((x.den : Int) : Rat) := by
  rw [← Rat.divInt_eq_div]; exact (Rat.num_divInt_den x).symm
theorem den_pos (x : Rat) : 0 < (x.den : Int) := by have := x.den_pos; omega
theorem den_ne (x : Rat) : ((x.den : Int) : Rat) ≠ 0 := by
  have := den_pos x
  exact_mod_cast (show (x.den : Int) ≠ 0 by omega)
theorem cast_ne {b : Int} (h : 0 < b) : (b : Rat) ≠ 0 := by
  intro z
  have : b = 0 := by exact_mod_cast z
  omega
theorem rat_add (x y : Rat) : ((x.num * y.den + y.num * x.den : Int) : Rat) / ((x.den * y.den : Int) : Rat) = x + y := by
  have h1 := den_ne x
  have h2 := den_ne y
  have e1 := rat_self x
  have e2 := rat_self y
  rw [Rat.intCast_add, Rat.intCast_mul, Rat.intCast_mul, Rat.intCast_mul]
  generalize (x.num : Rat) = a at *
  generalize ((x.den : Int) : Rat) = b at *
  generalize (y.num : Rat) = c at *
  generalize ((y.den : Int) : Rat) = d at *
  subst e1 e2
  grind
theorem rat_sub (x y : Rat) : ((x.num * y.den - y.num * x.den : Int) : Rat) / ((x.den * y.den : Int) : Rat) = x - y := by
  have h1 := den_ne x
  have h2 := den_ne y
  have e1 := rat_self x
  have e2 := rat_self y
  rw [Rat.intCast_sub, Rat.intCast_mul, Rat.intCast_mul, Rat.intCast_mul]
  generalize (x.num : Rat) = a at *
  generalize ((x.den : Int) : Rat) = b at *
  generalize (y.num : Rat) = c at *
  generalize ((y.den : Int) : Rat) = d at *
  subst e1 e2
  grind
theorem rat_mul (x y : Rat) : ((x.num * y.num : Int) : Rat) / ((x.den * y.den : Int) : Rat) = x * y := by
  have h1 := den_ne x
  have h2 := den_ne y
  have e1 := rat_self x
  have e2 := rat_self y
  rw [Rat.intCast_mul, Rat.intCast_mul]
  generalize (x.num : Rat) = a at *
  generalize ((x.den : Int) : Rat) = b at *
  generalize (y.num : Rat) = c at *
  generalize ((y.den : Int) : Rat) = d at *
  subst e1 e2
  grind
theorem rat_lt (x y : Rat) : decide (x.num * y.den < y.num * x.den) = decide (x < y) := by
  rw [decide_eq_decide]; exact (Rat.lt_iff x y).symm
/-! ### sizes -/
def Sz (n : Nat) (x : Rat) : Prop := x.num.natAbs < 2 ^ n ∧ x.den < 2 ^ n
theorem Sz.mono {m n : Nat} {x : Rat} (h : Sz m x) (l : m ≤ n) : Sz n x :=
  ⟨Nat.lt_of_lt_of_le h.1 (Nat.pow_le_pow_right (by decide) l), Nat.lt_of_lt_of_le h.2 (Nat.pow_le_pow_right (by decide) l)⟩
theorem sz_div {t b : Int} {n : Nat} (h : 0 < b) (ht : t.natAbs < 2 ^ n) (hb : b.natAbs < 2 ^ n) : Sz n ((t : Rat) / (b : Rat)) := by
  refine ⟨?_, ?_⟩
  · rw [rat_num h]; exact Nat.lt_of_le_of_lt (Int.natAbs_ediv_le_natAbs _ _) ht
  · have e := rat_den (t := t) h
    have l : (b / (Int.gcd t b : Int)).natAbs ≤ b.natAbs := Int.natAbs_ediv_le_natAbs _ _
    omega
theorem nat_mul_lt {a b m n : Nat} (ha : a < 2 ^ m) (hb : b < 2 ^ n) : a * b < 2 ^ (m + n) := by
  rw [Nat.pow_add]
  exact Nat.mul_lt_mul'' ha hb
theorem Sz.add {m n : Nat} {x y : Rat} (hx : Sz m x) (hy : Sz n y) : Sz (m + n + 1) (x + y) := by
  rw [← rat_add]
  have a1 := nat_mul_lt hx.1 hy.2
  have a2 := nat_mul_lt hy.1 hx.2
  have a3 := nat_mul_lt hx.2 hy.2
  refine sz_div (Int.mul_pos (den_pos x) (den_pos y)) ?_ ?_
  · rw [Nat.add_comm n m] at a2
    have := Int.natAbs_add_le (x.num * y.den) (y.num * x.den)
    rw [Int.natAbs_mul, Int.natAbs_mul] at this
    simp only [Int.natAbs_natCast] at this
    rw [Nat.pow_succ]; omega
  · rw [Int.natAbs_mul]; simp only [Int.natAbs_natCast]; rw [Nat.pow_succ]; omega
theorem Sz.neg {m : Nat} {x : Rat} (hx : Sz m x) : Sz m (-x) := ⟨by rw [Rat.neg_num, Int.natAbs_neg]; exact hx.1, by rw [Rat.neg_den]; exact hx.2⟩
theorem Sz.sub {m n : Nat} {x y : Rat} (hx : Sz m x) (hy : Sz n y) : Sz (m + n + 1) (x - y) := by
  rw [Rat.sub_eq_add_neg]; exact hx.add hy.neg
theorem Sz.mul {m n : Nat} {x y : Rat} (hx : Sz m x) (hy : Sz n y) : Sz (m + n) (x * y) := by
  rw [← rat_mul]
  have a1 := nat_mul_lt hx.1 hy.1
  have a3 := nat_mul_lt hx.2 hy.2
  refine sz_div (Int.mul_pos (den_pos x) (den_pos y)) ?_ ?_
  · rw [Int.natAbs_mul]; exact a1
  · rw [Int.natAbs_mul]; simp only [Int.natAbs_natCast]; exact a3
theorem sz_int {t : Int} {n : Nat} (ht : t.natAbs < 2 ^ n) (h0 : 0 < n) : Sz n (t : Rat) := by
  refine ⟨by rw [Rat.num_intCast]; exact ht, ?_⟩
  rw [Rat.den_intCast]
  exact Nat.one_lt_two_pow (by omega)
/-! ### until all have come -/
section
variable (g : Rat → Rat)
/-- over all parts T of ws: g of c and T together, of an odd number less of an even one -/
def altS : List Rat → Rat → Rat
  | [], c => - g c
  | x :: ws, c => altS ws c - altS ws (c + x)
end
/-- each weight times that of the others -/
def dsum (g : Rat → Rat) : List Rat → List Rat → Rat → Rat
  | _, [], _ => 0
  | pre, x :: ws, c => x * altS g (pre ++ ws) c + dsum g (pre ++ [x]) ws c
theorem altS_app (g : Rat → Rat) (y : Rat) : ∀ (ws : List Rat) (c : Rat), altS g (ws ++ [y]) c = altS g ws c - altS g ws (c + y)
  | [], c => rfl
  | x :: ws, c => by
    show altS g (ws ++ [y]) c - altS g (ws ++ [y]) (c + x) = (altS g ws c - altS g ws (c + x)) - (altS g ws (c + y) - altS g ws (c + y + x))
    rw [altS_app g y ws c, altS_app g y ws (c + x), show c + x + y = c + y + x by grind]
    grind
theorem dsum_pre (g : Rat → Rat) (y : Rat) : ∀ (ws pre : List Rat) (c : Rat), dsum g (y :: pre) ws c = dsum g pre ws c - dsum g pre ws (c + y)
  | [], _, c => by show (0 : Rat) = 0 - 0; grind
  | x :: ws, pre, c => by
    show x * altS g (y :: (pre ++ ws)) c + dsum g (y :: (pre ++ [x])) ws c = x * altS g (pre ++ ws) c + dsum g (pre ++ [x]) ws c - (x * altS g (pre ++ ws) (c + y) + dsum g (pre ++ [x]) ws (c + y))
    rw [dsum_pre g y ws (pre ++ [x]) c]
    show x * (altS g (pre ++ ws) c - altS g (pre ++ ws) (c + y)) + _ = _
    grind
def per (t : Rat) (y : Rat) : Rat := t / y
theorem dsum_pos (t : Rat) : ∀ (ws : List Rat) (c : Rat), 0 < c → (∀ x ∈ ws, 0 < x) → dsum (per t) [] ws c = (ws.sum + c) * altS (per t) ws c + if ws = [] then t else 0
  | [], c, h, _ => by
    have h0 : c ≠ 0 := by grind
    show (0 : Rat) = (0 + c) * (-(t / c)) + t
    grind
  | x :: ws, c, h, hw => by
    have hx := hw x List.mem_cons_self
    have i1 := dsum_pos t ws c h (fun y hy => hw y (List.mem_cons_of_mem _ hy))
    have i2 := dsum_pos t ws (c + x) (by grind) (fun y hy => hw y (List.mem_cons_of_mem _ hy))
    show x * altS (per t) ws c + dsum (per t) [x] ws c = _
    rw [dsum_pre, i1, i2]
    rw [if_neg (show ¬ (x :: ws = []) by simp), List.sum_cons]
    show _ = (x + ws.sum + c) * (altS (per t) ws c - altS (per t) ws (c + x)) + 0
    grind
theorem dsum_zero (t : Rat) : ∀ (ws : List Rat), (∀ x ∈ ws, 0 < x) → dsum (per t) [] ws 0 = ws.sum * altS (per t) ws 0 - if ws = [] then 0 else t
  | [], _ => by show (0 : Rat) = 0 * _ - 0; grind
  | x :: ws, hw => by
    have hx := hw x List.mem_cons_self
    have i1 := dsum_zero t ws (fun y hy => hw y (List.mem_cons_of_mem _ hy))
    have i2 := dsum_pos t ws (0 + x) (by grind) (fun y hy => hw y (List.mem_cons_of_mem _ hy))
    show x * altS (per t) ws 0 + dsum (per t) [x] ws 0 = _
    rw [dsum_pre, i1, i2]
    rw [if_neg (show ¬ (x :: ws = []) by simp), List.sum_cons]
    show _ = (x + ws.sum) * (altS (per t) ws 0 - altS (per t) ws (0 + x)) - t
    by_cases e : ws = []
    · rw [if_pos e, if_pos e]; grind
    · rw [if_neg e, if_neg e]; grind
open PySem PySem.Spec PyProof.Rows L2
/-! ### fractions as numbers -/
def frV (x : Rat) : List V := [.int x.num, .int (x.den : Int)]
theorem low_eq {t b : Int} (h : 0 < b) : low t b = frV ((t : Rat) / (b : Rat)) := by
  unfold low frV
  rw [rat_num h, rat_den h]
def newR (x : Rat) : VK → Hp → Prop := fun Q H => ∀ H' r, Same H H' → H r = none → H' r = some (.tup (frV x)) → Q (.ref r) H'
theorem frV_gcd (x : Rat) : Int.gcd x.num (x.den : Int) = 1 := x.reduced
theorem Sz.fr {x : Rat} (h : Sz 4000 x) : Fr x.num (x.den : Int) := ⟨den_pos x, frV_gcd x, h.1, by rw [Int.natAbs_natCast]; exact h.2⟩
section
variable {H : Hp} {Q : VK} {E : XK} {p q : Addr} {x y : Rat}
theorem less_by (ep : H p = some (.tup (frV x))) (eq : H q = some (.tup (frV y))) (sx : Sz 4000 x) (sy : Sz 4000 y) (k : Q (.bl (decide (x < y))) H) : spIsLess [.ref p, .ref q] H Q E :=
  ⟨p, q, _, _, _, _, rfl, ep, eq, sx.fr, sy.fr, by show Q (.bl (decide (x.num * y.den < y.num * x.den))) H; rw [rat_lt]; exact k⟩
end
theorem low_add (x y : Rat) : low (x.num * (y.den : Int) + y.num * (x.den : Int)) ((x.den : Int) * (y.den : Int)) = frV (x + y) := by rw [low_eq (Int.mul_pos (den_pos x) (den_pos y)), rat_add]
theorem low_sub (x y : Rat) : low (x.num * (y.den : Int) - y.num * (x.den : Int)) ((x.den : Int) * (y.den : Int)) = frV (x - y) := by rw [low_eq (Int.mul_pos (den_pos x) (den_pos y)), rat_sub]
theorem low_times (x y : Rat) : low (x.num * y.num) ((x.den : Int) * (y.den : Int)) = frV (x * y) := by rw [low_eq (Int.mul_pos (den_pos x) (den_pos y)), rat_mul]
theorem low_plus (x : Rat) {c d : Int} (hd : 0 < d) : low (x.num * d + c * (x.den : Int)) ((x.den : Int) * d) = frV (x + (c : Rat) / (d : Rat)) := by
  rw [low_eq (Int.mul_pos (den_pos x) hd)]
  congr 1
  have e1 := rat_self x
  have h1 := den_ne x
  have h2 := cast_ne hd
  rw [Rat.intCast_add, Rat.intCast_mul, Rat.intCast_mul, Rat.intCast_mul]
  generalize (x.num : Rat) = a at *
  generalize ((x.den : Int) : Rat) = b at *
  generalize (c : Rat) = c at *
  generalize (d : Rat) = d at *
  subst e1
  grind
theorem log_den {x : Rat} {n : Nat} (h : Sz n x) (h0 : 0 < n) (hn : n ≤ 1920) : KG.ShowOk (.tuple [.int x.num, .int (x.den : Int)]) :=
  sh_two (log_of h.1 h0 hn) (log_of (by rw [Int.natAbs_natCast]; exact h.2) h0 hn)
theorem dp_fr {K : PySem.W.Frag} {H : Hp} {p : Addr} {x : Rat} (h : H p = some (.tup (frV x))) : Dp K H (.ref p) (.tuple [.int x.num, .int (x.den : Int)]) :=
  .tup (.inl (.inl h)) (.cons (.int _) (.cons (.int _) .nil))
/-! ### a display with one key, a tuple -/
def tDispT1 (tk tv : TE) : TE := fun σ H Q => ∀ p, H p = none → tk σ (upd H p (.dT [])) fun x H1 => tv σ H1 fun y H2 => H2 p = some (.dT []) ∧ ∃ (k : List Key) (b : Addr), x = .ref b ∧ H2 b = some (.tup (k.map kV)) ∧ Q (.ref p) (upd H2 p (.dT [(k, y)]))
theorem pe_dispT1 {X : Cx} {pos : Pos} {k v : Expr} {tk tv : TE} (hu : X.A.units + 1 < cLine) (hk : PE X k tk) (hv : PE X v tv) : PE X (.Dict [some k] [v] pos) (tDispT1 tk tv) := by
  refine ⟨fun pins s σ H Q I q => ?_⟩
  have hn := I.hok.fresh (Nat.le_refl s.heap.objs.size)
  have I1 := I.laid (a := s.heap.objs.size) (o := .dT []) (h' := s.heap.push { cls := .type "dict", data := .dict #[] }) (t' := s.toks) (fun _ _ q => Heap.get?_push_of_some _ q) (Nat.le_refl _) (dt_empty s.heap I.big)
  have hsh := zip_pairTrees [some k] [v] X.env pos rfl rfl
  have hne : pairTrees [some k] [v] X.env pos ≠ [] := fun z => by
    have := pairTrees_length [some k] [v] X.env pos rfl rfl
    rw [z] at this
    exact nomatch this
  have hl : (pairTrees [some k] [v] X.env pos).length ≤ 15 := by rw [pairTrees_length [some k] [v] X.env pos rfl rfl]; show 1 ≤ 15; decide
  rw [arm_eval_Dict, hsh, dictDisplay_pairs _ hne (by omega)]
  refine wpAny_bind (wpAny_standAt (wpAny_bind (wpAny_subDictH (knd := tupleKind (mixKind X.prog X.w)) (by show X.A.units < cLine; omega) hl ?_)))
  refine thn ((pps_cons hk hv pps_nil : PPs X pos [some k] [v] [(tk, tv)]).run pins _ σ _ (fun ps H2 => match ps with
    | [(x, y)] => H2 s.heap.objs.size = some (.dT []) ∧ ∃ (k : List Key) (b : Addr), x = .ref b ∧ H2 b = some (.tup (k.map kV)) ∧ Q (.ref s.heap.objs.size) (upd H2 s.heap.objs.size (.dT [(k, y)]))
    | _ => False) I1 (q _ hn)) ?_
  rintro ws s2 ⟨ps, H2, I2, rel, hq⟩
  match ps, ws, rel, hq with
  | [(x, y)], _, .cons (b := (u1, u2)) ⟨r1, r2⟩ .nil, ⟨e, kk, b, ex, eb, q2⟩ =>
    subst ex
    cases (show u1 = Value.ref b from r1)
    obtain ⟨z, hd, xs, r0, dd⟩ := dt_of I2.hok e
    cases r0
    refine ⟨[(kk, b, u2)], ⟨rfl, rfl, key_of I2.hok eb, trivial⟩, dd, fun h' tk dd' hs => wpAny_pure ⟨.ref s.heap.objs.size, _, ?_, rfl, q2⟩⟩
    obtain ⟨o, es, ep, ho, h2, h3, h4, _, h5⟩ := dd'
    refine d_write I2 (by rw [e]; exact True.intro) hs ⟨o, ho⟩ ⟨by show 1 ≤ sizeLine; decide, hd, _, .cons ⟨rfl, ?_, r2⟩ .nil, o, es, ep, ho, h2, h3, h4, h5⟩
    rw [upd_ne (ne_of eb e (fun z => nomatch z))]
    exact eb
end KGX

namespace KGX
open PySem PySem.Spec PyProof.Rows L2
/-! ### all some kinds -/
def rg (n : Nat) : List Int := (List.range n).map fun i : Nat => (i : Int)
theorem rgV_rg (n : Nat) : rgV 0 (n : Int) = (rg n).map V.int := by
  unfold rgV rg
  rw [List.map_map, show ((n : Int) - 0).toNat = n by omega]
  refine List.map_congr_left fun i _ => ?_
  show V.int (0 + (i : Int)) = V.int (i : Int)
  rw [Int.zero_add]
def allSub (ks : List Int) : List (List Int) := ks.foldl (fun f k => f ++ f.map (· ++ [k])) [[]]
theorem allSub_app (ks : List Int) (k : Int) : allSub (ks ++ [k]) = allSub ks ++ (allSub ks).map (· ++ [k]) := by
  unfold allSub
  rw [List.foldl_append]
  rfl
theorem allSub_len : ∀ (m : Nat) (ks : List Int), ks.length = m → (allSub ks).length = 2 ^ m
  | 0, ks, h => by rw [List.eq_nil_of_length_eq_zero h]; rfl
  | m + 1, ks, h => by
    rcases List.eq_nil_or_concat ks with rfl | ⟨r, k, rfl⟩
    · exact nomatch h
    · rw [List.concat_eq_append] at h ⊢
      rw [List.length_append] at h
      rw [allSub_app, List.length_append, List.length_map, allSub_len m r (by simpa using h), Nat.pow_succ]
      omega
theorem allSub_le : ∀ (m : Nat) (ks : List Int), ks.length = m → ∀ S ∈ allSub ks, S.length ≤ m
  | 0, ks, h => by
    rw [List.eq_nil_of_length_eq_zero h]
    intro S hS
    rw [List.mem_singleton.mp hS]
    exact Nat.le_refl _
  | m + 1, ks, h => by
    rcases List.eq_nil_or_concat ks with rfl | ⟨r, k, rfl⟩
    · exact nomatch h
    · rw [List.concat_eq_append] at h ⊢
      have hr : r.length = m := by rw [List.length_append] at h; simpa using h
      rw [allSub_app]
      intro S hS
      rcases List.mem_append.mp hS with hS | hS
      · have := allSub_le m r hr S hS; omega
      · obtain ⟨T, hT, rfl⟩ := List.mem_map.mp hS
        have := allSub_le m r hr T hT
        rw [List.length_append, List.length_singleton]; omega
/-- what is to be known of the somes of up to five kinds -/
def okSub (n : Nat) : Bool :=
  (List.range (2 ^ n)).all fun i =>
    let S := (allSub (rg n)).getD i []
    decide (S.length ≤ 5) && S.all (fun k => decide (0 ≤ k) && decide (k < n)) && decide (S.Pairwise (· < ·)) && S.all (fun k => ((allSub (rg n)).take i).contains (S.filter (fun j => decide (j ≠ k)))) && !((allSub (rg n)).take i).contains S && (i == 0 || !S.isEmpty)
theorem okSub_all : ∀ n, n ≤ 5 → okSub n = true
  | 0, _ | 1, _ | 2, _ | 3, _ | 4, _ | 5, _ => by decide +kernel
  | n + 6, h => by omega
theorem rg_succ (n : Nat) : rg (n + 1) = rg n ++ [(n : Int)] := by unfold rg; rw [List.range_succ, List.map_append]; rfl
theorem rg_len (n : Nat) : (rg n).length = n := by unfold rg; rw [List.length_map, List.length_range]
structure SubAt (n i : Nat) (S : List Int) : Prop where
  len : S.length ≤ 5
  mem : ∀ k ∈ S, 0 ≤ k ∧ k < n
  rise : Rise S
  fewer : ∀ k ∈ S, S.filter (fun j => decide (j ≠ k)) ∈ (allSub (rg n)).take i
  new : S ∉ (allSub (rg n)).take i
  one : i ≠ 0 → S ≠ []
theorem sub_at {n i : Nat} {S : List Int} (h : n ≤ 5) (e : (allSub (rg n))[i]? = some S) : SubAt n i S := by
  have o := okSub_all n h
  have hi := (List.getElem?_eq_some_iff.mp e).1
  rw [allSub_len n _ (rg_len n)] at hi
  have o1 := List.all_eq_true.mp o i (List.mem_range.mpr hi)
  have eS : (allSub (rg n)).getD i [] = S := by rw [List.getD_eq_getElem?_getD, e]; rfl
  simp only [eS, Bool.and_eq_true, decide_eq_true_eq, List.all_eq_true, Bool.or_eq_true, Bool.not_eq_true', List.contains_eq_mem, List.isEmpty_eq_false_iff, beq_iff_eq, decide_eq_false_iff_not] at o1
  obtain ⟨⟨⟨⟨⟨o1, o2⟩, o3⟩, o4⟩, o5⟩, o6⟩ := o1
  exact ⟨o1, o2, o3, o4, o5, fun z => o6.resolve_left z⟩
theorem sub_all {n : Nat} {S : List Int} (h : n ≤ 5) (e : S ∈ allSub (rg n)) : ∃ i, i < 2 ^ n ∧ (allSub (rg n))[i]? = some S ∧ SubAt n i S := by
  obtain ⟨i, hi, e⟩ := List.mem_iff_getElem.mp e
  have e' : (allSub (rg n))[i]? = some S := by rw [List.getElem?_eq_getElem hi, e]
  refine ⟨i, ?_, e', sub_at h e'⟩
  rw [allSub_len n _ (rg_len n)] at hi
  exact hi
theorem sub_nil {n : Nat} : (allSub (rg n))[0]? = some [] := by
  induction n with
  | zero => rfl
  | succ n ih =>
    have : rg (n + 1) = rg n ++ [(n : Int)] := by unfold rg; rw [List.range_succ, List.map_append]; rfl
    rw [this, allSub_app, List.getElem?_append_left, ih]
    rw [allSub_len n _ (rg_len n)]
    exact Nat.two_pow_pos n
theorem sub_last {n : Nat} : (allSub (rg n))[2 ^ n - 1]? = some (rg n) := by
  induction n with
  | zero => rfl
  | succ n ih =>
    have : rg (n + 1) = rg n ++ [(n : Int)] := by unfold rg; rw [List.range_succ, List.map_append]; rfl
    have hp := Nat.two_pow_pos n
    rw [this, allSub_app, List.getElem?_append_right (by rw [allSub_len n _ (rg_len n), Nat.pow_succ]; omega), allSub_len n _ (rg_len n), List.getElem?_map, show 2 ^ (n + 1) - 1 - 2 ^ n = 2 ^ n - 1 by rw [Nat.pow_succ]; omega, ih]
    rfl
theorem rg_mem {n : Nat} : rg n ∈ allSub (rg n) := List.mem_of_getElem? sub_last
/-! ### means by who is left -/
theorem sumR_app : ∀ (xs ys : List Rat), (xs ++ ys).sum = xs.sum + ys.sum
  | [], ys => by show ys.sum = 0 + ys.sum; grind
  | x :: xs, ys => by
    have ih := sumR_app xs ys
    show x + (xs ++ ys).sum = (x + xs.sum) + ys.sum
    rw [ih]; grind
theorem sumZ_app : ∀ (xs ys : List Int), (xs ++ ys).sum = xs.sum + ys.sum
  | [], ys => by show ys.sum = 0 + ys.sum; omega
  | x :: xs, ys => by
    have ih := sumZ_app xs ys
    show x + (xs ++ ys).sum = (x + xs.sum) + ys.sum
    rw [ih]; omega
theorem cast_sum : ∀ (xs : List Int), ((xs.sum : Int) : Rat) = (xs.map fun x : Int => (x : Rat)).sum
  | [] => rfl
  | x :: xs => by
    have ih := cast_sum xs
    show ((x + xs.sum : Int) : Rat) = (x : Rat) + (xs.map fun x : Int => (x : Rat)).sum
    rw [Rat.intCast_add, ih]
/-- the share of a kind -/
def sh (ns : List Int) (k : Int) : Int := ns.getD k.toNat 0
def wts (ns S : List Int) : List Rat := S.map fun k => (sh ns k : Rat)
theorem wts_pick (ns S : List Int) : wts ns S = (pick ns S).map fun x : Int => (x : Rat) := by unfold wts pick sh; rw [List.map_map]; rfl
theorem wts_sum (ns S : List Int) : (wts ns S).sum = (((pick ns S).sum : Int) : Rat) := by rw [wts_pick, cast_sum]
/-- over all somes of S: of an odd number less of an even one -/
def sgn (g : Rat → Rat) (ns : List Int) (c : Rat) (T : List Int) : Rat := if T.length % 2 = 1 then g (c + (wts ns T).sum) else - g (c + (wts ns T).sum)
theorem sgn_app (g : Rat → Rat) (ns : List Int) (c : Rat) (T : List Int) (k : Int) : sgn g ns c (T ++ [k]) = - sgn g ns (c + (sh ns k : Rat)) T := by
  unfold sgn
  have e : c + (wts ns (T ++ [k])).sum = c + (sh ns k : Rat) + (wts ns T).sum := by
    unfold wts
    rw [List.map_append, sumR_app]
    show c + ((T.map fun k => (sh ns k : Rat)).sum + ((sh ns k : Rat) + 0)) = _
    grind
  rw [e, List.length_append, List.length_singleton]
  by_cases h : T.length % 2 = 1
  · rw [if_neg (by omega), if_pos h]
  · rw [if_pos (by omega), if_neg h]; grind
theorem neg_sum (f : List Int → Rat) : ∀ (l : List (List Int)), (l.map fun T => - f T).sum = - (l.map f).sum
  | [] => by show (0 : Rat) = -0; grind
  | T :: l => by
    have ih := neg_sum f l
    show - f T + (l.map fun T => - f T).sum = - (f T + (l.map f).sum)
    rw [ih]; grind
theorem sgn_sum (g : Rat → Rat) (ns : List Int) : ∀ (m : Nat) (S : List Int) (c : Rat), S.length = m → ((allSub S).map (sgn g ns c)).sum = altS g (wts ns S) c
  | 0, S, c, h => by
    rw [List.eq_nil_of_length_eq_zero h]
    show (if (0 % 2 = 1) then g (c + 0) else - g (c + 0)) + 0 = - g c
    rw [if_neg (by decide), show c + 0 = c by grind]; grind
  | m + 1, S, c, h => by
    rcases List.eq_nil_or_concat S with rfl | ⟨r, k, rfl⟩
    · exact nomatch h
    · rw [List.concat_eq_append] at h ⊢
      have hr : r.length = m := by rw [List.length_append] at h; simpa using h
      have e1 : wts ns (r ++ [k]) = wts ns r ++ [(sh ns k : Rat)] := by unfold wts; rw [List.map_append]; rfl
      rw [allSub_app, List.map_append, sumR_app, List.map_map, e1, altS_app, sgn_sum g ns m r c hr, ← sgn_sum g ns m r (c + (sh ns k : Rat)) hr]
      have e2 : (sgn g ns c ∘ fun x => x ++ [k]) = fun T => - sgn g ns (c + (sh ns k : Rat)) T := by
        funext T; exact sgn_app g ns c T k
      rw [e2, neg_sum]; grind
/-- the mean until all of S have come -/
def fV (ns S : List Int) : Rat := altS (per (ns.sum : Rat)) (wts ns S) 0
theorem per_zero (t : Rat) : per t 0 = 0 := by
  show t / 0 = 0
  rw [Rat.div_def, Rat.inv_zero, Rat.mul_zero]
theorem fV_nil (ns : List Int) : fV ns [] = 0 := by
  show - per _ 0 = 0
  rw [per_zero]; grind
theorem dsum_filter (g : Rat → Rat) (ns : List Int) : ∀ (post pre : List Int), (pre ++ post).Nodup → dsum g (wts ns pre) (wts ns post) 0 = (post.map fun k => (sh ns k : Rat) * altS g (wts ns ((pre ++ post).filter (fun j => decide (j ≠ k)))) 0).sum
  | [], pre, _ => rfl
  | k :: r, pre, h => by
    have hk : ∀ x ∈ pre, x ≠ k := fun x hx z => by
      subst z
      exact (List.nodup_append.mp h).2.2 x hx x List.mem_cons_self rfl
    have hk2 : ∀ x ∈ r, x ≠ k := fun x hx z => by
      subst z
      exact (List.nodup_cons.mp (List.nodup_append.mp h).2.1).1 hx
    have e : (pre ++ k :: r).filter (fun j => decide (j ≠ k)) = pre ++ r := by
      rw [List.filter_append, List.filter_cons_of_neg (by simp), List.filter_eq_self.mpr (fun x hx => decide_eq_true (hk x hx)), List.filter_eq_self.mpr (fun x hx => decide_eq_true (hk2 x hx))]
    have e2 : pre ++ k :: r = (pre ++ [k]) ++ r := by simp
    have ih := dsum_filter g ns r (pre ++ [k]) (by rw [← e2]; exact h)
    rw [← e2] at ih
    show (sh ns k : Rat) * altS g (wts ns pre ++ wts ns r) 0 + dsum g (wts ns pre ++ [(sh ns k : Rat)]) (wts ns r) 0 = (sh ns k : Rat) * altS g (wts ns ((pre ++ k :: r).filter (fun j => decide (j ≠ k)))) 0 + _
    rw [e]
    have e3 : wts ns pre ++ [(sh ns k : Rat)] = wts ns (pre ++ [k]) := by unfold wts; rw [List.map_append]; rfl
    have e4 : wts ns pre ++ wts ns r = wts ns (pre ++ r) := by unfold wts; rw [List.map_append]
    rw [e3, e4, ih]
    rfl
theorem rise_nodup {S : List Int} (h : Rise S) : S.Nodup := h.imp fun z => by omega
/-- what is due -/
theorem fV_rec {ns S : List Int} (hS : Rise S) (h0 : S ≠ []) (hw : ∀ k ∈ S, 0 < sh ns k) :
    (ns.sum : Rat) + (S.map fun k => (sh ns k : Rat) * fV ns (S.filter (fun j => decide (j ≠ k)))).sum = (((pick ns S).sum : Int) : Rat) * fV ns S := by
  have h1 := dsum_filter (per (ns.sum : Rat)) ns S [] (rise_nodup hS)
  have h2 := dsum_zero (ns.sum : Rat) (wts ns S) (fun x hx => by
    obtain ⟨k, hk, rfl⟩ := List.mem_map.mp hx
    exact_mod_cast hw k hk)
  have h3 : wts ns S ≠ [] := fun z => h0 (List.map_eq_nil_iff.mp z)
  rw [if_neg h3, wts_sum] at h2
  have h4 : wts ns [] = [] := rfl
  rw [h4, h2] at h1
  show (ns.sum : Rat) + (S.map fun k => (sh ns k : Rat) * altS (per (ns.sum : Rat)) (wts ns (S.filter (fun j => decide (j ≠ k)))) 0).sum = _ * altS (per (ns.sum : Rat)) (wts ns S) 0
  have h5 : (S.map fun k => (sh ns k : Rat) * altS (per (ns.sum : Rat)) (wts ns (([] ++ S).filter (fun j => decide (j ≠ k)))) 0).sum = (S.map fun k => (sh ns k : Rat) * altS (per (ns.sum : Rat)) (wts ns (S.filter (fun j => decide (j ≠ k)))) 0).sum := rfl
  rw [h5] at h1
  rw [← h1]; grind
theorem altS_sz {t : Int} (ht : 0 ≤ t) (ht2 : t ≤ 63) : ∀ (zs : List Int) (c : Int), (∀ x ∈ zs, 0 ≤ x) → 0 ≤ c → c + zs.sum ≤ 63 → Sz (7 * 2 ^ zs.length - 1) (altS (per (t : Rat)) (zs.map fun x : Int => (x : Rat)) (c : Rat))
  | [], c, _, h0, h1 => by
    have h1 : c + 0 ≤ 63 := h1
    show Sz 6 (-(per (t : Rat) (c : Rat)))
    refine Sz.neg ?_
    by_cases hc : c = 0
    · subst hc
      rw [show ((0 : Int) : Rat) = 0 from rfl, per_zero]
      exact ⟨by decide, by decide⟩
    · refine sz_div (t := t) (b := c) (by omega) ?_ ?_ <;> omega
  | x :: zs, c, hx, h0, h1 => by
    have x0 := hx x List.mem_cons_self
    rw [List.sum_cons] at h1
    have s0 : ∀ zs : List Int, (∀ x ∈ zs, 0 ≤ x) → 0 ≤ zs.sum := by
      intro zs
      induction zs with
      | nil => intro _; decide
      | cons y r ih =>
        intro h
        have a := h y List.mem_cons_self
        have b := ih fun z hz => h z (List.mem_cons_of_mem _ hz)
        rw [List.sum_cons]; omega
    have z0 := s0 zs fun z hz => hx z (List.mem_cons_of_mem _ hz)
    have a := altS_sz ht ht2 zs c (fun z hz => hx z (List.mem_cons_of_mem _ hz)) h0 (by omega)
    have b := altS_sz ht ht2 zs (c + x) (fun z hz => hx z (List.mem_cons_of_mem _ hz)) (by omega) (by omega)
    rw [Rat.intCast_add] at b
    have r := a.sub b
    show Sz _ (altS (per (t : Rat)) (zs.map fun x : Int => (x : Rat)) (c : Rat) - altS (per (t : Rat)) (zs.map fun x : Int => (x : Rat)) ((c : Rat) + (x : Rat)))
    refine r.mono ?_
    rw [List.length_cons, Nat.pow_succ]
    have := Nat.two_pow_pos zs.length
    omega
theorem fV_sz {ns S : List Int} (g : Good ns) (hS : S.length ≤ 5) (hm : ∀ k ∈ S, 0 ≤ k ∧ k < ns.length) : Sz 223 (fV ns S) := by
  have b := sum_bounds (pick_bounds g hm)
  have s := g.sum_pos
  have pl : (pick ns S).length = S.length := by rw [pick, List.length_map]
  have r := altS_sz (t := ns.sum) (by omega) (by omega) (pick ns S) 0 (fun x hx => (pick_bounds g hm x hx).1) (by omega) (by omega)
  unfold fV
  rw [wts_pick]
  refine r.mono ?_
  rw [pl]
  have : 2 ^ S.length ≤ 2 ^ 5 := Nat.pow_le_pow_right (by decide) hS
  omega
theorem sh_good {ns : List Int} (g : Good ns) {k : Int} (h : 0 ≤ k ∧ k < ns.length) : 1 ≤ sh ns k ∧ sh ns k ≤ 9 := by
  have hl : k.toNat < ns.length := by omega
  unfold sh
  rw [List.getD_eq_getElem?_getD, List.getElem?_eq_getElem hl]
  exact g.2.2 ns[k.toNat] (List.getElem_mem hl)
theorem pick_pos {ns S : List Int} (g : Good ns) (h0 : S ≠ []) (hm : ∀ k ∈ S, 0 ≤ k ∧ k < ns.length) (hl : S.length ≤ 5) : 0 < (pick ns S).sum ∧ (pick ns S).sum ≤ 45 := by
  have b := sum_bounds (pick_bounds g hm)
  have pl : (pick ns S).length = S.length := by rw [pick, List.length_map]
  refine ⟨?_, by omega⟩
  cases S with
  | nil => exact absurd rfl h0
  | cons k r =>
    have b2 := sum_bounds (pick_bounds (ks := r) g fun k hk => hm k (List.mem_cons_of_mem _ hk))
    have := sh_good g (hm k List.mem_cons_self)
    show 0 < sh ns k + (pick ns r).sum
    omega
end KGX

namespace KGX
open PySem PySem.Spec PyProof.Rows L2
/-! ### comprehensions -/
/-- what was made so far -/
def LcI (H1 : Hp) (D : Addr) (ys : List V) : Hp → Prop := fun H => Same H1 H ∧ H D = some (.lst ys)
theorem LcI.put {H1 H H4 : Hp} {D : Addr} {ys : List V} {y : V} (h : LcI H1 D ys H) (hD : H1 D = none) (hl : ys.length ≤ 1000) (s : Same H H4) :
    ∃ acc, H4 D = some (.lst acc) ∧ acc.length < sizeLine ∧ LcI H1 D (ys ++ [y]) (upd H4 D (.lst (acc ++ [y]))) := by
  refine ⟨ys, s _ _ h.2, small1000 hl, ?_, upd_same⟩
  intro b o e
  rw [upd_ne (ne_of_none e hD)]
  exact s _ _ (h.1 _ _ e)
theorem LcI.stay {H1 H H3 : Hp} {D : Addr} {ys : List V} (h : LcI H1 D ys H) (s : Same H H3) : LcI H1 D ys H3 := ⟨h.1.trans s, s _ _ h.2⟩
theorem take_step {α : Type} {xs : List α} {i : Nat} {x : α} (h : xs[i]? = some x) : xs.take (i + 1) = xs.take i ++ [x] := by rw [List.take_add_one, h]; rfl
theorem map_at {xs : List Int} {i : Nat} {y : V} (h : (xs.map V.int)[i]? = some y) : ∃ k, xs[i]? = some k ∧ y = .int k ∧ k ∈ xs := by
  rw [List.getElem?_map] at h
  cases hz : xs[i]? with
  | none => rw [hz] at h; exact nomatch h
  | some k => rw [hz] at h; exact ⟨k, rfl, (Option.some.inj h).symm, List.mem_of_getElem? hz⟩
theorem ref_at {xs : List Addr} {i : Nat} {y : V} (h : (xs.map V.ref)[i]? = some y) : ∃ q, xs[i]? = some q ∧ y = .ref q ∧ q ∈ xs := by
  rw [List.getElem?_map] at h
  cases hz : xs[i]? with
  | none => rw [hz] at h; exact nomatch h
  | some k => rw [hz] at h; exact ⟨k, rfl, (Option.some.inj h).symm, List.mem_of_getElem? hz⟩
/-! ### rows of tuples -/
def Tups (H : Hp) (qs : List Addr) (Ss : List (List Int)) : Prop := Paired (fun q S => H q = some (.tup (S.map V.int))) qs Ss
theorem Tups.mono {H H' : Hp} {qs : List Addr} {Ss : List (List Int)} (h : Tups H qs Ss) (s : Same H H') : Tups H' qs Ss := Paired.mapP h fun _ _ z => s _ _ z
theorem Tups.upd {H : Hp} {D : Addr} {o o' : List V} {qs : List Addr} {Ss : List (List Int)} (h : Tups H qs Ss) (e : H D = some (.lst o)) : Tups (upd H D (.lst o')) qs Ss := Paired.mapP h fun _ _ z => by
  rw [upd_ne (ne_of z e (by intro w; cases w))]; exact z
theorem paired_at {α β : Type} {F : α → β → Prop} : ∀ {l₁ : List α} {l₂ : List β} {i : Nat} {a : α}, Paired F l₁ l₂ → l₁[i]? = some a → ∃ b, l₂[i]? = some b ∧ F a b
  | _, _, 0, _, .cons h _, e => by cases e; exact ⟨_, rfl, h⟩
  | _, _, i + 1, _, .cons _ t, e => paired_at (i := i) t e
  | _, _, _, _, .nil, e => by simp at e
theorem paired_app {α β : Type} {F : α → β → Prop} : ∀ {l₁ m₁ : List α} {l₂ m₂ : List β}, Paired F l₁ l₂ → Paired F m₁ m₂ → Paired F (l₁ ++ m₁) (l₂ ++ m₂)
  | _, _, _, _, .nil, q => q
  | _, _, _, _, .cons h t, q => .cons h (paired_app t q)
/-! ### papers: a dict by somes -/
def kOf (S : List Int) : List Key := S.map Sum.inl
theorem kOf_kV (S : List Int) : (kOf S).map kV = S.map V.int := by unfold kOf; rw [List.map_map]; rfl
theorem kOf_inj {S T : List Int} (h : kOf S = kOf T) : S = T := by
  unfold kOf at h
  exact List.map_inj_right (fun a b z => Sum.inl.inj z) |>.mp h
def kvOf : List (List Int) → List Addr → List (List Key × V) := List.zipWith fun S p => (kOf S, .ref p)
def PapAt (H : Hp) (d : Addr) (Ss : List (List Int)) (f : List Int → Rat) : Prop := ∃ ps : List Addr, H d = some (.dT (kvOf Ss ps)) ∧ Paired (fun S p => H p = some (.tup (frV (f S)))) Ss ps
theorem PapAt.mono {H H' : Hp} {d : Addr} {Ss : List (List Int)} {f : List Int → Rat} (h : PapAt H d Ss f) (s : Same H H') : PapAt H' d Ss f := by
  obtain ⟨ps, e, r⟩ := h
  exact ⟨ps, s _ _ e, Paired.mapP r fun _ _ z => s _ _ z⟩
theorem kv_get {H : Hp} {f : List Int → Rat} : ∀ {Ss : List (List Int)} {ps : List Addr} {S : List Int}, Paired (fun S p => H p = some (.tup (frV (f S)))) Ss ps → S ∈ Ss → ∃ p, valV (kvOf Ss ps) (kOf S) = some (.ref p) ∧ H p = some (.tup (frV (f S)))
  | _, _, S, .cons (a := T) (b := p) h t, hm => by
    by_cases e : T = S
    · subst e
      exact ⟨p, valV_pos (p := (kOf T, V.ref p)) rfl, h⟩
    · obtain ⟨p', e1, e2⟩ := kv_get t ((List.mem_cons.mp hm).resolve_left fun z => e z.symm)
      exact ⟨p', by rw [← e1]; exact valV_neg (p := (kOf T, V.ref p)) fun z => e (kOf_inj z), e2⟩
  | _, _, _, .nil, hm => nomatch hm
theorem kv_none {H : Hp} {f : List Int → Rat} : ∀ {Ss : List (List Int)} {ps : List Addr} {S : List Int}, Paired (fun S p => H p = some (.tup (frV (f S)))) Ss ps → S ∉ Ss → valV (kvOf Ss ps) (kOf S) = none
  | _, _, S, .cons (a := T) (b := p) h t, hm => by
    have e : T ≠ S := fun z => hm (z ▸ List.mem_cons_self)
    rw [← kv_none t fun z => hm (List.mem_cons_of_mem _ z)]
    exact valV_neg (p := (kOf T, V.ref p)) fun z => e (kOf_inj z)
  | _, _, _, .nil, _ => rfl
theorem kvOf_app {F : List Int → Addr → Prop} {S : List Int} {p : Addr} : ∀ {Ss : List (List Int)} {ps : List Addr}, Paired F Ss ps → kvOf (Ss ++ [S]) (ps ++ [p]) = kvOf Ss ps ++ [(kOf S, .ref p)]
  | _, _, .nil => rfl
  | _, _, .cons (l₁ := l) (l₂ := m) _ t => by
    show _ :: kvOf (l ++ [S]) (m ++ [p]) = _
    rw [kvOf_app t]
    rfl
theorem kvOf_len {F : List Int → Addr → Prop} : ∀ {Ss : List (List Int)} {ps : List Addr}, Paired F Ss ps → (kvOf Ss ps).length = Ss.length
  | _, _, .nil => rfl
  | _, _, .cons _ t => by
    show (kvOf _ _).length + 1 = _ + 1
    rw [kvOf_len t]
/-- d[S] -/
theorem PapAt.get {H : Hp} {d b : Addr} {Ss : List (List Int)} {f : List Int → Rat} {S : List Int} (h : PapAt H d Ss f) (hm : S ∈ Ss) (eb : H b = some (.tup (S.map V.int))) : ∃ p, DGet H d (.ref b) (some (.ref p)) ∧ H p = some (.tup (frV (f S))) := by
  obtain ⟨ps, e, r⟩ := h
  obtain ⟨p, e1, e2⟩ := kv_get r hm
  refine ⟨p, ?_, e2⟩
  rw [← e1]
  exact DGet.t e (by rw [kOf_kV]; exact eb)
/-- d[S] = x, S not yet there -/
theorem PapAt.put {H : Hp} {d b p : Addr} {Ss : List (List Int)} {f : List Int → Rat} {S : List Int} (h : PapAt H d Ss f) (hm : S ∉ Ss) (hl : Ss.length ≤ 1000) (eb : H b = some (.tup (S.map V.int))) (ep : H p = some (.tup (frV (f S)))) :
    ∃ H', DPut H d (.ref b) (.ref p) H' ∧ PapAt H' d (Ss ++ [S]) f ∧ Kp d H H' := by
  obtain ⟨ps, e, r⟩ := h
  refine ⟨_, DPut.t e (k := kOf S) (by rw [kOf_kV]; exact eb) (by rw [kvOf_len r]; exact small1000 hl), ⟨ps ++ [p], ?_, ?_⟩, fun a o n z => by rw [upd_ne n]; exact z⟩
  · rw [upd_same, putK_new _ (kv_none r hm), kvOf_app r]
  · have ne : ∀ q : Addr, ∀ xs, H q = some (.tup xs) → q ≠ d := fun q xs z => ne_of z e (by intro w; cases w)
    refine Paired.snoc (Paired.mapP r fun S p z => ?_) ?_
    · rw [upd_ne (ne p _ z)]; exact z
    · rw [upd_ne (ne p _ ep)]; exact ep
/-! ### promises -/
def spAllKinds : Sp := fun vs H Q _ => ∃ (a : Addr) (ns : List V), vs = [.ref a] ∧ H a = some (.tup ns) ∧ ns.length ≤ 1000 ∧ ∀ H' p, Same H H' → H p = none → H' p = some (.tup ((rg ns.length).map V.int)) → Q (.ref p) H'
/-- a list of new tuples -/
def newTups (Ss : List (List Int)) : VK → Hp → Prop := fun Q H => ∀ H' L qs, Same H H' → H L = none → H' L = some (.lst (qs.map V.ref)) → Tups H' qs Ss → Q (.ref L) H'
def spAllSome : Sp := fun vs H Q _ => ∃ (c : Addr) (ks : List Int), vs = [.ref c] ∧ H c = some (.tup (ks.map V.int)) ∧ ks.length ≤ 5 ∧ newTups (allSub ks) Q H
def spLawAllSome : Sp := fun vs H Q _ => ∃ (n : Nat), vs = [.int n] ∧ n ≤ 5 ∧ newTups (allSub (rg n)) Q H
def spShareOf (K : PySem.W.Frag) : Sp := fun vs H Q _ => ∃ (a c : Addr) (ns ks : List Int), vs = [.ref a, .ref c] ∧ H a = some (.tup (ns.map V.int)) ∧ H c = some (.tup (ks.map V.int)) ∧ ks.length ≤ 1000 ∧ (∀ k ∈ ks, 0 ≤ k ∧ k < ns.length) ∧
  ∀ H', Same H H' → Q (.int (pick ns ks).sum) H'
def spMeanAll : Sp := fun vs H Q _ => ∃ (a : Addr) (ns : List Int), vs = [.ref a] ∧ H a = some (.tup (ns.map V.int)) ∧ Good ns ∧ newR (fV ns (rg ns.length)) Q H
def spLawPaper : Sp := fun vs H Q _ => ∃ (a : Addr) (ns : List Int), vs = [.ref a] ∧ H a = some (.tup (ns.map V.int)) ∧ Good ns ∧ ∀ H' d, Same H H' → H d = none → PapAt H' d (allSub (rg ns.length)) (fV ns) → Q (.ref d) H'
end KGX
namespace KGX
open PySem PySem.Spec PyProof.Rows L2
/-! ### rows of ints, compared -/
theorem dp_ints {K : PySem.W.Frag} {H : Hp} : ∀ (S : List Int), DpAll K H (S.map V.int) (S.map PyData.int)
  | [] => .nil
  | k :: r => .cons (.int k) (dp_ints r)
theorem lay_ints : ∀ (S : List Int), PyData.canLayAll0 (S.map PyData.int) = true
  | [] => rfl
  | k :: r => by
    show (PyData.canLay0 (.int k) && PyData.canLayAll0 (r.map PyData.int)) = true
    rw [lay_ints r]; rfl
theorem depth_ints : ∀ (S : List Int), PyData.depthAll (S.map PyData.int) = 0
  | [] => rfl
  | k :: r => by
    show max 0 (PyData.depthAll (r.map PyData.int)) = 0
    rw [depth_ints r]; rfl
theorem shaped_ints (S : List Int) : SeqAt.shaped (.tuple (S.map PyData.int)) = true := by
  show (PyData.canLayAll0 (S.map PyData.int) && decide (PyData.depthAll (S.map PyData.int) + 1 ≤ 64)) = true
  rw [lay_ints, depth_ints]; rfl
theorem eqvAll_ints : ∀ (S T : List Int), PyData.eqvAll (S.map PyData.int) (T.map PyData.int) = decide (S = T)
  | [], [] => rfl
  | [], _ :: _ => rfl
  | _ :: _, [] => rfl
  | k :: r, j :: t => by
    show (PyData.eqv (.int k) (.int j) && PyData.eqvAll (r.map PyData.int) (t.map PyData.int)) = _
    rw [eqvAll_ints r t]
    show ((k == j) && decide (r = t)) = _
    by_cases h : k = j
    · subst h; simp
    · simp [h]
theorem eqv_ints (S T : List Int) : PyData.eqv (.tuple (S.map PyData.int)) (.tuple (T.map PyData.int)) = decide (S = T) := eqvAll_ints S T
theorem dp_tup {K : PySem.W.Frag} {H : Hp} {a : Addr} {S : List Int} (h : H a = some (.tup (S.map V.int))) : Dp K H (.ref a) (.tuple (S.map PyData.int)) := .tup (.inl (.inl h)) (dp_ints S)
end KGX
namespace KGX
open PySem PySem.Spec PyProof.Rows L2
theorem rat_over (x : Rat) {A : Int} (h : 0 < A) : ((x.num : Int) : Rat) / (((x.den : Int) * A : Int) : Rat) = x / (A : Rat) := by
  have e1 := rat_self x
  have h1 := den_ne x
  have h2 := cast_ne h
  rw [Rat.intCast_mul]
  generalize (x.num : Rat) = a at *
  generalize ((x.den : Int) : Rat) = b at *
  generalize (A : Rat) = c at *
  subst e1
  grind
theorem low_over (x : Rat) {A : Int} (h : 0 < A) : low x.num ((x.den : Int) * A) = frV (x / (A : Rat)) := by rw [low_eq (Int.mul_pos (den_pos x) h), rat_over x h]
theorem div_of {x y A : Rat} (h : A ≠ 0) (e : x = A * y) : x / A = y := by subst e; grind
theorem rat_scaled (x : Rat) (k : Int) : ((x.num * k : Int) : Rat) / ((x.den : Int) : Rat) = (k : Rat) * x := by
  have e1 := rat_self x
  have h1 := den_ne x
  rw [Rat.intCast_mul]
  generalize (x.num : Rat) = a at *
  generalize ((x.den : Int) : Rat) = b at *
  generalize (k : Rat) = c at *
  subst e1
  grind
/-- what has been put together of the due number -/
def psum (ns S : List Int) (f : List Int → Rat) (j : Nat) : Rat := (ns.sum : Rat) + ((S.take j).map fun k => (sh ns k : Rat) * f (S.filter (fun i => decide (i ≠ k)))).sum
theorem psum_zero (ns S : List Int) (f : List Int → Rat) : psum ns S f 0 = (ns.sum : Rat) := by unfold psum; rw [List.take_zero]; show _ + (0 : Rat) = _; grind
theorem psum_succ {ns S : List Int} {f : List Int → Rat} {j : Nat} {k : Int} (h : S[j]? = some k) : psum ns S f (j + 1) = psum ns S f j + (sh ns k : Rat) * f (S.filter (fun i => decide (i ≠ k))) := by
  unfold psum
  rw [take_step h, List.map_append, sumR_app]
  show _ + (_ + ((sh ns k : Rat) * f (S.filter (fun i => decide (i ≠ k))) + 0)) = _
  grind
theorem filter_step {S : List Int} {i : Nat} {x : Int} (k : Int) (h : S[i]? = some x) : (S.take (i + 1)).filter (fun j => decide (j ≠ k)) = (S.take i).filter (fun j => decide (j ≠ k)) ++ if x = k then [] else [x] := by
  rw [take_step h, List.filter_append]
  congr 1
  by_cases e : x = k
  · rw [if_pos e, List.filter_cons_of_neg (by simp [e])]; rfl
  · rw [if_neg e, List.filter_cons_of_pos (by simp [e])]; rfl
theorem frV_zero : frV 0 = [.int 0, .int 1] := rfl
theorem frV_int (t : Int) : frV (t : Rat) = [.int t, .int 1] := by unfold frV; rw [Rat.num_intCast, Rat.den_intCast]; rfl
end KGX

namespace KGX
open PySem PySem.Spec PyProof.Rows L2
/-! ### rows of ints: which are in -/
theorem inV_ints (k : Int) : ∀ ks : List Int, inV (.int k) (ks.map V.int) = decide (k ∈ ks)
  | [] => rfl
  | j :: r => by
    show ((j == k) || inV (.int k) (r.map V.int)) = _
    rw [inV_ints k r]
    by_cases h : j = k
    · subst h; simp
    · have h' : k ≠ j := fun z => h z.symm
      simp [h, h']
theorem flat_ints (ks : List Int) : (ks.map V.int).all flatV = true := by
  rw [List.all_map, List.all_eq_true]; intro x _; rfl
theorem sumZ_one {f : Int → Int} {x : Int} : ∀ {L : List Int}, L.Nodup → (L.map fun k => if k = x then f k else 0).sum = if x ∈ L then f x else 0
  | [], _ => rfl
  | j :: r, h => by
    have h2 := List.nodup_cons.mp h
    have ih := sumZ_one (f := f) (x := x) h2.2
    show (if j = x then f j else 0) + (r.map fun k => if k = x then f k else 0).sum = _
    rw [ih]
    by_cases e : j = x
    · subst e
      rw [if_pos rfl, if_neg h2.1, if_pos List.mem_cons_self]; omega
    · rw [if_neg e]
      by_cases m : x ∈ r
      · rw [if_pos m, if_pos (List.mem_cons_of_mem _ m)]; omega
      · rw [if_neg m, if_neg (fun z => (List.mem_cons.mp z).elim (fun w => e w.symm) m)]; rfl
theorem sumZ_add (f g : Int → Int) : ∀ (L : List Int), (L.map fun k => f k + g k).sum = (L.map f).sum + (L.map g).sum
  | [] => rfl
  | j :: r => by
    have ih := sumZ_add f g r
    show (f j + g j) + (r.map fun k => f k + g k).sum = (f j + (r.map f).sum) + (g j + (r.map g).sum)
    rw [ih]; omega
theorem sumZ_mem {f : Int → Int} {L : List Int} (hL : L.Nodup) : ∀ {ks : List Int}, ks.Nodup → (∀ k ∈ ks, k ∈ L) → (L.map fun k => if k ∈ ks then f k else 0).sum = (ks.map f).sum
  | [], _, _ => by
    have : ∀ L : List Int, (L.map fun k => if k ∈ ([] : List Int) then f k else 0).sum = 0 := by
      intro L
      induction L with
      | nil => rfl
      | cons j r ih =>
        show (if j ∈ ([] : List Int) then f j else 0) + (r.map fun k => if k ∈ ([] : List Int) then f k else 0).sum = 0
        rw [ih, if_neg (by simp)]; rfl
    exact this L
  | x :: r, h, hm => by
    have h2 := List.nodup_cons.mp h
    have ih := sumZ_mem (f := f) hL h2.2 fun k hk => hm k (List.mem_cons_of_mem _ hk)
    have e : (L.map fun k => if k ∈ x :: r then f k else 0) = L.map fun k => (if k = x then f k else 0) + (if k ∈ r then f k else 0) := by
      refine List.map_congr_left fun k _ => ?_
      by_cases e : k = x
      · subst e
        rw [if_pos List.mem_cons_self, if_pos rfl, if_neg h2.1]; omega
      · rw [if_neg e]
        by_cases m : k ∈ r
        · rw [if_pos m, if_pos (List.mem_cons_of_mem _ m)]; omega
        · rw [if_neg m, if_neg (fun z => (List.mem_cons.mp z).elim e m)]; rfl
    rw [e, sumZ_add, sumZ_one hL, if_pos (hm x List.mem_cons_self), ih]; rfl
theorem sumZ_filter (f : Int → Int) (p : Int → Bool) : ∀ (L : List Int), ((L.filter p).map f).sum + (L.map fun k => if p k = true then 0 else f k).sum = (L.map f).sum
  | [] => rfl
  | j :: r => by
    have ih := sumZ_filter f p r
    by_cases e : p j = true
    · rw [List.filter_cons_of_pos e]
      show (f j + ((r.filter p).map f).sum) + ((if p j = true then 0 else f j) + (r.map fun k => if p k = true then 0 else f k).sum) = f j + (r.map f).sum
      rw [if_pos e]; omega
    · rw [List.filter_cons_of_neg e]
      show ((r.filter p).map f).sum + ((if p j = true then 0 else f j) + (r.map fun k => if p k = true then 0 else f k).sum) = f j + (r.map f).sum
      rw [if_neg e]; omega
theorem rg_at {n i : Nat} (h : i < n) : (rg n)[i]? = some (i : Int) := by
  unfold rg
  rw [List.getElem?_map, List.getElem?_range h]; rfl
theorem rg_nodup (n : Nat) : (rg n).Nodup := rise_nodup (rise_range n)
theorem mem_rg {n : Nat} {k : Int} : k ∈ rg n ↔ 0 ≤ k ∧ k < n := by
  unfold rg
  rw [List.mem_map]
  constructor
  · rintro ⟨i, hi, rfl⟩
    have := List.mem_range.mp hi
    omega
  · rintro ⟨h0, h1⟩
    exact ⟨k.toNat, List.mem_range.mpr (by omega), by omega⟩
theorem pick_all (ns : List Int) : pick ns (rg ns.length) = ns := by
  refine List.ext_getElem? fun i => ?_
  unfold pick
  rw [List.getElem?_map]
  by_cases h : i < ns.length
  · rw [rg_at h]
    show some (ns.getD (i : Int).toNat 0) = _
    rw [Int.toNat_natCast, List.getD_eq_getElem?_getD, List.getElem?_eq_getElem h]; rfl
  · rw [List.getElem?_eq_none (by rw [rg_len]; omega), List.getElem?_eq_none (by omega)]; rfl
/-- some kinds and the others -/
theorem pick_both {ns ks : List Int} (hR : Rise ks) (hK : ∀ k ∈ ks, 0 ≤ k ∧ k < ns.length) : (pick ns ks).sum + (pick ns ((rg ns.length).filter fun k => !decide (k ∈ ks))).sum = ns.sum := by
  have e1 := sumZ_filter (fun k => ns.getD k.toNat 0) (fun k => !decide (k ∈ ks)) (rg ns.length)
  have e2 : ((rg ns.length).map fun k => if (!decide (k ∈ ks)) = true then 0 else ns.getD k.toNat 0) = (rg ns.length).map fun k => if k ∈ ks then ns.getD k.toNat 0 else 0 := by
    refine List.map_congr_left fun k _ => ?_
    by_cases m : k ∈ ks
    · rw [decide_eq_true m, if_pos m]; rfl
    · rw [decide_eq_false m, if_neg m]; rfl
  have e3 := sumZ_mem (f := fun k => ns.getD k.toNat 0) (rg_nodup ns.length) (rise_nodup hR) (fun k hk => mem_rg.mpr (hK k hk))
  have e4 := pick_all ns
  unfold pick at e4 ⊢
  rw [e2, e3, e4] at e1
  omega
/-! ### shares as texts -/
/-- how a share is written -/
def dg (n : Int) : Str := toString n
def txt (ns : List Int) : Str := Txt.join " " (ns.map dg)
def digs : List Str := [1, 2, 3, 4, 5, 6, 7, 8, 9].map dg
theorem dig {p : Int → Prop} (h : p 1 ∧ p 2 ∧ p 3 ∧ p 4 ∧ p 5 ∧ p 6 ∧ p 7 ∧ p 8 ∧ p 9) {n : Int} (h1 : 1 ≤ n) (h2 : n ≤ 9) : p n := by
  obtain ⟨a1, a2, a3, a4, a5, a6, a7, a8, a9⟩ := h
  rcases (show n = 1 ∨ n = 2 ∨ n = 3 ∨ n = 4 ∨ n = 5 ∨ n = 6 ∨ n = 7 ∨ n = 8 ∨ n = 9 by omega) with rfl | rfl | rfl | rfl | rfl | rfl | rfl | rfl | rfl <;> assumption
theorem dig_in {n : Int} (h1 : 1 ≤ n) (h2 : n ≤ 9) : inV (.str (dg n)) (digs.map V.str) = true := dig (p := fun n => inV (.str (dg n)) (digs.map V.str) = true) (by decide +kernel) h1 h2
theorem dig_int {n : Int} (h1 : 1 ≤ n) (h2 : n ≤ 9) : PySem.intText? (dg n) = some n := dig (p := fun n => PySem.intText? (dg n) = some n) (by decide +kernel) h1 h2
theorem dig_one {n : Int} (h1 : 1 ≤ n) (h2 : n ≤ 9) : (dg n).length = 1 := dig (p := fun n => (dg n).length = 1) (by decide +kernel) h1 h2
theorem dig_blank {n : Int} (h1 : 1 ≤ n) (h2 : n ≤ 9) : 32 ∉ TL.tl (dg n) := dig (p := fun n => 32 ∉ TL.tl (dg n)) (by decide +kernel) h1 h2
theorem split_txt {ns : List Int} (g : Good ns) : Txt.split (txt ns) " " = ns.map dg := by
  refine TL.split_join (s := 32) (S := []) (by decide +kernel) (by decide +kernel) (fun z => ?_) (fun p hp => ?_)
  · have := g.1
    rw [List.map_eq_nil_iff.mp z] at this
    exact absurd this (by decide)
  · obtain ⟨n, hn, rfl⟩ := List.mem_map.mp hp
    exact dig_blank (g.2.2 n hn).1 (g.2.2 n hn).2
theorem txt_sum {ns : List Int} (g : Good ns) : ((ns.map dg).map (·.length)).sum = ns.length := by
  have : ∀ ns : List Int, (∀ x ∈ ns, 1 ≤ x ∧ x ≤ 9) → ((ns.map dg).map (·.length)).sum = ns.length := by
    intro ns
    induction ns with
    | nil => intro _; rfl
    | cons x r ih =>
      intro h
      have := h x List.mem_cons_self
      show (dg x).length + ((r.map dg).map (·.length)).sum = r.length + 1
      rw [ih fun y hy => h y (List.mem_cons_of_mem _ hy), dig_one this.1 this.2]; omega
  exact this ns g.2.2
theorem txt_len {ns : List Int} (g : Good ns) : (txt ns).length ≤ 10 := by
  have e := StrLaws.join_length_le " " (ns.map dg)
  rw [txt_sum g, List.length_map] at e
  unfold txt
  rw [TL.join_eq]
  have h5 := g.2.1
  have h1 : (" " : Str).length = 1 := by decide +kernel
  rw [h1] at e
  omega
def spShow (K : PySem.W.Frag) : Sp := fun vs H Q _ => ∃ (a : Addr) (ns : List Int), vs = [.ref a] ∧ H a = some (.tup (ns.map V.int)) ∧ Good ns ∧ ∀ H', Same H H' → Q (.str (txt ns)) H'
def spShareWord : Sp := fun vs H Q _ => ∃ z, vs = [.str z] ∧ ∀ H', Same H H' → Q (.bl (inV (.str z) (digs.map V.str))) H'
def spRead0 : Sp := fun vs H Q _ => ∃ (ns : List Int), vs = [.str (txt ns)] ∧ Good ns ∧ ∀ H' p, Same H H' → H p = none → H' p = some (.tup (ns.map V.int)) → Q (.ref p) H'
end KGX
namespace KGX
open PySem PySem.Spec PyProof.Rows L2
theorem fr_ne {x y : Rat} (h : x = y) : PyData.eqv (.tuple [.int x.num, .int (x.den : Int)]) (.tuple [.int y.num, .int (y.den : Int)]) = true := by
  subst h
  have := eqv_ints [x.num, (x.den : Int)] [x.num, (x.den : Int)]
  rw [decide_eq_true rfl] at this
  exact this
theorem shaped_fr (x : Rat) : SeqAt.shaped (.tuple [.int x.num, .int (x.den : Int)]) = true := shaped_ints [x.num, (x.den : Int)]
theorem iteNT {b : Bool} {A B : Prop} (hb : b = true) (h : B) : if (!b) = true then A else B := by subst hb; exact iteF h
theorem lt_more {x : Rat} {c d : Int} (hc : 0 < c) (hd : 0 < d) : x < x + (c : Rat) / (d : Rat) := by
  have h1 : (0 : Rat) < (c : Rat) := by exact_mod_cast hc
  have h2 : (0 : Rat) < (d : Rat) := by exact_mod_cast hd
  have h3 : 0 < (c : Rat) / (d : Rat) := by
    rw [Rat.div_def]
    exact Rat.mul_pos h1 (Rat.inv_pos.mpr h2)
  grind
theorem lt_sub_zero (x y : Rat) : decide (x < y) = decide (x - y < 0) := by
  rw [decide_eq_decide]
  constructor <;> intro h <;> grind
theorem fr_one : Fr 1 (10 ^ 20) := ⟨by decide, by decide, Nat.lt_of_lt_of_le (show (1 : Int).natAbs < 2 ^ 70 by decide) (Nat.pow_le_pow_right (by decide) (by decide)), Nat.lt_of_lt_of_le (show ((10 : Int) ^ 20).natAbs < 2 ^ 70 by decide) (Nat.pow_le_pow_right (by decide) (by decide))⟩
theorem fr_unit : Fr 1 1 := ⟨by decide, by decide, Nat.lt_of_lt_of_le (show (1 : Int).natAbs < 2 ^ 70 by decide) (Nat.pow_le_pow_right (by decide) (by decide)), Nat.lt_of_lt_of_le (show (1 : Int).natAbs < 2 ^ 70 by decide) (Nat.pow_le_pow_right (by decide) (by decide))⟩
theorem frV_one : frV 1 = [.int 1, .int 1] := rfl
theorem both_one {p o t : Int} (h : p + o = t) (ht : 0 < t) : (p : Rat) / (t : Rat) + (o : Rat) / (t : Rat) = 1 := by
  have h2 := cast_ne ht
  have h3 : (p : Rat) + (o : Rat) = (t : Rat) := by rw [← h, Rat.intCast_add]
  generalize (p : Rat) = p at *
  generalize (o : Rat) = o at *
  generalize (t : Rat) = t at *
  subst h3
  grind
theorem part_back {p t : Int} (ht : 0 < t) : (p : Rat) / (t : Rat) * (t : Rat) = (p : Rat) := by
  have h2 := cast_ne ht
  generalize (p : Rat) = p at *
  generalize (t : Rat) = t at *
  grind
/-- three fractions drawn -/
def FrIn (n : Nat) (H : Hp) (p : Addr) : Prop := ∃ x : Rat, Sz n x ∧ H p = some (.tup (frV x))
theorem FrIn.kp {n : Nat} {H H' : Hp} {b p : Addr} {o : List V} (h : FrIn n H p) (eb : H b = some (.lst o)) (k : Kp b H H') : FrIn n H' p := by
  obtain ⟨x, z, e⟩ := h
  exact ⟨x, z, k _ _ (ne_of e eb (by intro w; cases w)) e⟩
end KGX
namespace KGX
open PySem PySem.Spec PyProof.Rows L2
theorem less_at {x y : Rat} {Q : VK} {H : Hp} (h : Q (.bl (decide (x < y))) H) : (fun (a b c d : Int) (Q : VK) (H : Hp) => Q (.bl (decide (a * d < c * b))) H) x.num (x.den : Int) y.num (y.den : Int) Q H := by
  show Q (.bl (decide (x.num * y.den < y.num * x.den))) H
  rw [rat_lt]; exact h
end KGX

namespace KGX
open PySem PySem.Spec PyProof.Rows L2
def topS (i : Nat) : Stmt := PySem.Challenge.pw_kindsgathered_k02_fractions_reckoned.main.body.getD i (.Pass ⟨0, 0, 0, 0⟩)
abbrev s_is_whole : Stmt := topS 4
theorem sc_is_whole : FnScope ["thing"] ["thing"] (defScope s_is_whole) := ⟨rfl, rfl, rfl, by decide +kernel, rfl, by decide +kernel, by decide +kernel⟩
abbrev s_greatest_divisor : Stmt := topS 6
theorem sc_greatest_divisor : FnScope ["top", "bottom", "one", "other"] ["top", "bottom"] (defScope s_greatest_divisor) := ⟨rfl, rfl, rfl, by decide +kernel, rfl, by decide +kernel, by decide +kernel⟩
abbrev s_is_fraction : Stmt := topS 7
theorem sc_is_fraction : FnScope ["thing", "top", "bottom"] ["thing"] (defScope s_is_fraction) := ⟨rfl, rfl, rfl, by decide +kernel, rfl, by decide +kernel, by decide +kernel⟩
abbrev s_lowest : Stmt := topS 8
theorem sc_lowest : FnScope ["top", "bottom", "divisor"] ["top", "bottom"] (defScope s_lowest) := ⟨rfl, rfl, rfl, by decide +kernel, rfl, by decide +kernel, by decide +kernel⟩
abbrev s_check_fractions : Stmt := topS 9
theorem sc_check_fractions : FnScope ["one", "other"] ["one", "other"] (defScope s_check_fractions) := ⟨rfl, rfl, rfl, by decide +kernel, rfl, by decide +kernel, by decide +kernel⟩
abbrev s_added : Stmt := topS 10
theorem sc_added : FnScope ["one", "other"] ["one", "other"] (defScope s_added) := ⟨rfl, rfl, rfl, by decide +kernel, rfl, by decide +kernel, by decide +kernel⟩
abbrev s_lessened : Stmt := topS 11
theorem sc_lessened : FnScope ["one", "other"] ["one", "other"] (defScope s_lessened) := ⟨rfl, rfl, rfl, by decide +kernel, rfl, by decide +kernel, by decide +kernel⟩
abbrev s_multiplied : Stmt := topS 12
theorem sc_multiplied : FnScope ["one", "other"] ["one", "other"] (defScope s_multiplied) := ⟨rfl, rfl, rfl, by decide +kernel, rfl, by decide +kernel, by decide +kernel⟩
abbrev s_is_less : Stmt := topS 13
theorem sc_is_less : FnScope ["one", "other"] ["one", "other"] (defScope s_is_less) := ⟨rfl, rfl, rfl, by decide +kernel, rfl, by decide +kernel, by decide +kernel⟩
abbrev s__law_cell : Stmt := topS 15
theorem sc__law_cell : FnScope ["_law_script", "_law_k"] ["_law_script", "_law_k"] (defScope s__law_cell) := ⟨rfl, rfl, rfl, by decide +kernel, rfl, by decide +kernel, by decide +kernel⟩
abbrev s__law_mix : Stmt := topS 16
theorem sc__law_mix : FnScope ["_law_cell_here", "_law_k", "_law_some", "_law_stir"] ["_law_cell_here", "_law_k"] (defScope s__law_mix) := ⟨rfl, rfl, rfl, by decide +kernel, rfl, by decide +kernel, by decide +kernel⟩
abbrev s__law_box : Stmt := topS 17
theorem sc__law_box : FnScope ["_law_script", "_law_k", "_law_cell_here", "_law_number", "_law_j"] ["_law_script", "_law_k"] (defScope s__law_box) := ⟨rfl, rfl, rfl, by decide +kernel, rfl, by decide +kernel, by decide +kernel⟩
abbrev s__law_take : Stmt := topS 18
theorem sc__law_take : FnScope ["_law_box_here", "_law_many", "_law_left", "_law_digit"] ["_law_box_here", "_law_many"] (defScope s__law_take) := ⟨rfl, rfl, rfl, by decide +kernel, rfl, by decide +kernel, by decide +kernel⟩
abbrev s__law_truth : Stmt := topS 19
theorem sc__law_truth : FnScope ["_law_found", "_law_due"] ["_law_found", "_law_due"] (defScope s__law_truth) := ⟨rfl, rfl, rfl, by decide +kernel, rfl, by decide +kernel, by decide +kernel⟩
abbrev s__law_common : Stmt := topS 20
theorem sc__law_common : FnScope ["_law_one", "_law_other"] ["_law_one", "_law_other"] (defScope s__law_common) := ⟨rfl, rfl, rfl, by decide +kernel, rfl, by decide +kernel, by decide +kernel⟩
abbrev s__law_made : Stmt := topS 21
theorem sc__law_made : FnScope ["_law_top", "_law_bottom", "_law_both"] ["_law_top", "_law_bottom"] (defScope s__law_made) := ⟨rfl, rfl, rfl, by decide +kernel, rfl, by decide +kernel, by decide +kernel⟩
abbrev s__law_plus : Stmt := topS 22
theorem sc__law_plus : FnScope ["_law_one", "_law_other"] ["_law_one", "_law_other"] (defScope s__law_plus) := ⟨rfl, rfl, rfl, by decide +kernel, rfl, by decide +kernel, by decide +kernel⟩
abbrev s__law_drawn_number : Stmt := topS 23
theorem sc__law_drawn_number : FnScope ["_law_box_here", "_law_size"] ["_law_box_here"] (defScope s__law_drawn_number) := ⟨rfl, rfl, rfl, by decide +kernel, rfl, by decide +kernel, by decide +kernel⟩
abbrev s_law : Stmt := topS 24
theorem sc_law : FnScope ["_law_script", "_law_k", "_law_box_here", "_law_some", "_law_lap", "_law_top", "_law_bottom", "_law_by", "_law_found", "_law_one", "_law_other"] ["_law_script"] (defScope s_law) := ⟨rfl, rfl, rfl, by decide +kernel, rfl, by decide +kernel, by decide +kernel⟩
theorem bt_isinstance : bootBuiltins "isinstance" = some (.builtin "isinstance") := by decide +kernel
theorem bt_int : bootBuiltins "int" = some (.type "int") := by decide +kernel
theorem bt_bool : bootBuiltins "bool" = some (.type "bool") := by decide +kernel
theorem bt_abs : bootBuiltins "abs" = some (.builtin "abs") := by decide +kernel
theorem bt_tuple : bootBuiltins "tuple" = some (.type "tuple") := by decide +kernel
theorem bt_len : bootBuiltins "len" = some (.builtin "len") := by decide +kernel
theorem bt_range : bootBuiltins "range" = some (.type "range") := by decide +kernel
theorem bt_divmod : bootBuiltins "divmod" = some (.builtin "divmod") := by decide +kernel
theorem bt_max : bootBuiltins "max" = some (.builtin "max") := by decide +kernel
theorem bt_min : bootBuiltins "min" = some (.builtin "min") := by decide +kernel
theorem bt_repr : bootBuiltins "repr" = some (.builtin "repr") := by decide +kernel
/-- what the top has left -/
structure Tx (K : PySem.W.Frag) (mg : Str → Option Value) where
  a_is_whole : Addr
  d_is_whole : FuncData
  F_is_whole : Fun K "is_whole" "is_whole" s_is_whole a_is_whole d_is_whole
  g_is_whole : mg "is_whole" = some (.ref a_is_whole)
  b_is_whole : Binds K d_is_whole ["thing"] []
  a_greatest_divisor : Addr
  d_greatest_divisor : FuncData
  F_greatest_divisor : Fun K "greatest_divisor" "greatest_divisor" s_greatest_divisor a_greatest_divisor d_greatest_divisor
  g_greatest_divisor : mg "greatest_divisor" = some (.ref a_greatest_divisor)
  b_greatest_divisor : Binds K d_greatest_divisor ["top", "bottom"] []
  a_is_fraction : Addr
  d_is_fraction : FuncData
  F_is_fraction : Fun K "is_fraction" "is_fraction" s_is_fraction a_is_fraction d_is_fraction
  g_is_fraction : mg "is_fraction" = some (.ref a_is_fraction)
  b_is_fraction : Binds K d_is_fraction ["thing"] []
  a_lowest : Addr
  d_lowest : FuncData
  F_lowest : Fun K "lowest" "lowest" s_lowest a_lowest d_lowest
  g_lowest : mg "lowest" = some (.ref a_lowest)
  b_lowest : Binds K d_lowest ["top", "bottom"] []
  a_check_fractions : Addr
  d_check_fractions : FuncData
  F_check_fractions : Fun K "check_fractions" "check_fractions" s_check_fractions a_check_fractions d_check_fractions
  g_check_fractions : mg "check_fractions" = some (.ref a_check_fractions)
  b_check_fractions : Binds K d_check_fractions ["one", "other"] []
  a_added : Addr
  d_added : FuncData
  F_added : Fun K "added" "added" s_added a_added d_added
  g_added : mg "added" = some (.ref a_added)
  b_added : Binds K d_added ["one", "other"] []
  a_lessened : Addr
  d_lessened : FuncData
  F_lessened : Fun K "lessened" "lessened" s_lessened a_lessened d_lessened
  g_lessened : mg "lessened" = some (.ref a_lessened)
  b_lessened : Binds K d_lessened ["one", "other"] []
  a_multiplied : Addr
  d_multiplied : FuncData
  F_multiplied : Fun K "multiplied" "multiplied" s_multiplied a_multiplied d_multiplied
  g_multiplied : mg "multiplied" = some (.ref a_multiplied)
  b_multiplied : Binds K d_multiplied ["one", "other"] []
  a_is_less : Addr
  d_is_less : FuncData
  F_is_less : Fun K "is_less" "is_less" s_is_less a_is_less d_is_less
  g_is_less : mg "is_less" = some (.ref a_is_less)
  b_is_less : Binds K d_is_less ["one", "other"] []
  a__law_cell : Addr
  d__law_cell : FuncData
  F__law_cell : Fun K "_law_cell" "_law_cell" s__law_cell a__law_cell d__law_cell
  g__law_cell : mg "_law_cell" = some (.ref a__law_cell)
  b__law_cell : Binds K d__law_cell ["_law_script", "_law_k"] []
  a__law_mix : Addr
  d__law_mix : FuncData
  F__law_mix : Fun K "_law_mix" "_law_mix" s__law_mix a__law_mix d__law_mix
  g__law_mix : mg "_law_mix" = some (.ref a__law_mix)
  b__law_mix : Binds K d__law_mix ["_law_cell_here", "_law_k"] []
  a__law_box : Addr
  d__law_box : FuncData
  F__law_box : Fun K "_law_box" "_law_box" s__law_box a__law_box d__law_box
  g__law_box : mg "_law_box" = some (.ref a__law_box)
  b__law_box : Binds K d__law_box ["_law_script", "_law_k"] []
  a__law_take : Addr
  d__law_take : FuncData
  F__law_take : Fun K "_law_take" "_law_take" s__law_take a__law_take d__law_take
  g__law_take : mg "_law_take" = some (.ref a__law_take)
  b__law_take : Binds K d__law_take ["_law_box_here", "_law_many"] []
  a__law_truth : Addr
  d__law_truth : FuncData
  F__law_truth : Fun K "_law_truth" "_law_truth" s__law_truth a__law_truth d__law_truth
  g__law_truth : mg "_law_truth" = some (.ref a__law_truth)
  b__law_truth : Binds K d__law_truth ["_law_found", "_law_due"] []
  a__law_common : Addr
  d__law_common : FuncData
  F__law_common : Fun K "_law_common" "_law_common" s__law_common a__law_common d__law_common
  g__law_common : mg "_law_common" = some (.ref a__law_common)
  b__law_common : Binds K d__law_common ["_law_one", "_law_other"] []
  a__law_made : Addr
  d__law_made : FuncData
  F__law_made : Fun K "_law_made" "_law_made" s__law_made a__law_made d__law_made
  g__law_made : mg "_law_made" = some (.ref a__law_made)
  b__law_made : Binds K d__law_made ["_law_top", "_law_bottom"] []
  a__law_plus : Addr
  d__law_plus : FuncData
  F__law_plus : Fun K "_law_plus" "_law_plus" s__law_plus a__law_plus d__law_plus
  g__law_plus : mg "_law_plus" = some (.ref a__law_plus)
  b__law_plus : Binds K d__law_plus ["_law_one", "_law_other"] []
  a__law_drawn_number : Addr
  d__law_drawn_number : FuncData
  F__law_drawn_number : Fun K "_law_drawn_number" "_law_drawn_number" s__law_drawn_number a__law_drawn_number d__law_drawn_number
  g__law_drawn_number : mg "_law_drawn_number" = some (.ref a__law_drawn_number)
  b__law_drawn_number : Binds K d__law_drawn_number ["_law_box_here"] []
  a_law : Addr
  d_law : FuncData
  F_law : Fun K "law" "law" s_law a_law d_law
  g_law : mg "law" = some (.ref a_law)
  b_law : Binds K d_law ["_law_script"] []
  m_isinstance : mg "isinstance" = none
  m_int : mg "int" = none
  m_bool : mg "bool" = none
  m_abs : mg "abs" = none
  m_tuple : mg "tuple" = none
  m_len : mg "len" = none
  m_range : mg "range" = none
  m_divmod : mg "divmod" = none
  m_max : mg "max" = none
  m_min : mg "min" = none
  m_repr : mg "repr" = none
section
variable {P : Program} {w : World} {K : PySem.W.Frag} {mg : Str → Option Value} {base : Heap}
theorem ok_is_whole (T : Tx K mg) : FnOk P w K mg base CX0 1 T.a_is_whole T.d_is_whole ["thing"] (sp_is_whole K) := by
  refine T.F_is_whole.ok sc_is_whole (fun vs H Q E h => ?_) (fun cdv A outer s H vs Q E hr h => ?_)
  · obtain ⟨x, rfl, _⟩ := h; rfl
  obtain ⟨x, rfl, hx, q⟩ := h
  refine ⟨_, (pss_one (ps_ret (pe_and (pe_callB (r := rIsi K) call_isi (by rfl) T.m_isinstance bt_isinstance (pa_cons (pv 0) (pa_cons (pe_bltn (v := .ty "int") (by rfl) T.m_int bt_int rfl) pa_nil))) (pe_one (pe_not (pe_callB (r := rIsi K) call_isi (by rfl) T.m_isinstance bt_isinstance (pa_cons (pv 0) (pa_cons (pe_bltn (v := .ty "bool") (by rfl) T.m_bool bt_bool rfl) pa_nil)))))))), ?_⟩
  cases x with
  | non => exact ⟨_, rfl, _, _, _, _, false, rfl, .ty "int", .base .non, kit_ty (by decide +kernel), false, rfl, iteF q⟩
  | str y => exact ⟨_, rfl, _, _, _, _, false, rfl, .ty "int", .base (.str y), kit_ty (by decide +kernel), false, rfl, iteF q⟩
  | int i => exact ⟨_, rfl, _, _, _, _, true, rfl, .ty "int", .base (.int i), kit_ty (by decide +kernel), true, rfl, iteT ⟨_, rfl, _, _, _, _, false, rfl, .ty "bool", .base (.int i), kit_ty (by decide +kernel), false, rfl, q⟩⟩
  | bl y => exact ⟨_, rfl, _, _, _, _, true, rfl, .ty "int", .base (.bl y), kit_ty (by decide +kernel), true, rfl, iteT ⟨_, rfl, _, _, _, _, true, rfl, .ty "bool", .base (.bl y), kit_ty (by decide +kernel), true, rfl, q⟩⟩
  | ref a =>
    rcases hx with ⟨y, z⟩ | ⟨y, z⟩ | ⟨y, z⟩
    · exact ⟨_, rfl, _, _, _, _, false, rfl, .ty "int", .base (.lst z), kit_ty (by decide +kernel), false, rfl, iteF q⟩
    · exact ⟨_, rfl, _, _, _, _, false, rfl, .ty "int", .base (.tup z), kit_ty (by decide +kernel), false, rfl, iteF q⟩
    · exact ⟨_, rfl, _, _, _, _, false, rfl, .ty "int", .base (.dK z), kit_ty (by decide +kernel), false, rfl, iteF q⟩
  | byt y => exact hx.elim
  | flt y => exact hx.elim
  | ty y => exact hx.elim

theorem ok_greatest_divisor (T : Tx K mg) : FnOk P w K mg base CX0 1 T.a_greatest_divisor T.d_greatest_divisor ["top", "bottom"] sp_greatest_divisor := by
  refine T.F_greatest_divisor.ok sc_greatest_divisor (fun vs H Q E h => ?_) (fun cdv A outer s H vs Q E hr h => ?_)
  · obtain ⟨a, b, rfl, _⟩ := h; rfl
  obtain ⟨a, b, rfl, hb, q⟩ := h
  refine ⟨_, (pss_cons (ps_par (i := 2) (j := 3) (by rfl) sc_greatest_divisor.nd rfl rfl (by decide) rfl rfl (pa_cons (pe_callB call_abs (by rfl) T.m_abs bt_abs (pa_cons (pv 0) pa_nil)) (pa_cons (pv 1) pa_nil)) (by rfl))
      (pss_cons (ps_while PassesOwn.never (pt_cmpR op_gt (pv 3) pe_int (nomark _)) (pss_one (ps_par (i := 2) (j := 3) (by rfl) sc_greatest_divisor.nd rfl rfl (by decide) rfl rfl (pa_cons (pv 3) (pa_cons (pe_op op_mod (pv 2) (pv 3)) pa_nil)) (by rfl))))
      (pss_one (ps_ret (pv 2))))), ?_⟩
  refine ⟨_, rfl, a, rfl, _, rfl, _, _, rfl, ?_⟩
  refine while_by (fun σ H' => ∃ x y : Int, σ = [some (.int a), some (.int b), some (.int x), some (.int y)] ∧ 0 ≤ x ∧ 0 ≤ y ∧ Int.gcd x y = Int.gcd a b ∧ H' = H) (fun σ _ => match σ with | [_, _, _, some (.int y)] => y.toNat | _ => 0) ?_ ?_ ?_
  · refine ⟨_, b, rfl, ?_, hb, ?_, rfl⟩
    · rw [abs_eq]; omega
    · rw [abs_eq]; rfl
  · rintro σ H' ⟨x, y, rfl, hx, hy, e, rfl⟩
    refine ⟨_, rfl, _, _, rfl, rfl, _, rfl, ?_⟩
    by_cases h0 : 0 < y
    · rw [decide_eq_true h0]
      refine iteT ⟨_, rfl, _, rfl, _, rfl, x, y, rfl, rfl, h0, _, _, rfl, ⟨y, x % y, rfl, hy, Int.emod_nonneg _ (by omega), ?_, rfl⟩, ?_⟩
      · rw [gcd_step x y hx (by omega), e]
      · show (x % y).toNat < y.toNat
        have := Int.emod_lt_of_pos x (show 0 < y by omega)
        omega
    · rw [decide_eq_false h0]
      have e0 : y = 0 := by omega
      subst e0
      refine iteF ⟨_, rfl, ?_⟩
      rw [Int.gcd_zero_right] at e
      have e2 : x = (Int.gcd a b : Int) := by omega
      rw [e2]
      exact q
  · rintro σ H' Q Q' m ⟨v, h1, i, j, h2, h3, k, h4, h5⟩
    exact ⟨v, h1, i, j, h2, h3, k, h4, m _ _ h5⟩

theorem ok_is_fraction (T : Tx K mg) : FnOk P w K mg base CX0 2 T.a_is_fraction T.d_is_fraction ["thing"] (spIsFr K) := by
  refine T.F_is_fraction.ok sc_is_fraction (fun vs H Q E h => ?_) (fun cdv A outer s H vs Q E hr h => ?_)
  · obtain ⟨x, rfl, _⟩ := h; rfl
  obtain ⟨x, rfl, ht, q⟩ := h
  refine ⟨_, (pss_cons (ps_if (PW.pt (pw_or (pt_not (pt_val (pe_callB (r := rIsi K) call_isi (by rfl) T.m_isinstance bt_isinstance (pa_cons (pv 0) (pa_cons (pe_bltn (v := .ty "tuple") (by rfl) T.m_tuple bt_tuple rfl) pa_nil))))) (pw_or1 (pt_cmpR op_ne (pe_callB (r := Evl.rLenS K) call_len_seq (by rfl) T.m_len bt_len (pa_cons (pv 0) pa_nil)) pe_int (nomark _))))) (pss_one (ps_ret pe_bl)) pss_nil)
      (pss_cons (ps_asg (pv 0) (pg_tup (by rfl) (pgs_cons (pg_name (i := 1) sc_is_fraction.nd rfl (Or.inl rfl)) (pgs_cons (pg_name (i := 2) sc_is_fraction.nd rfl (Or.inl rfl)) pgs_nil))))
      (pss_cons (ps_if (PW.pt (pw_or (pt_not (pt_val (pe_call (ok_is_whole T) (hr.mono (by decide)) (by rfl) T.g_is_whole T.F_is_whole.kp T.b_is_whole .nil pass0 (pa_cons (pv 1) pa_nil)))) (pw_or (pt_not (pt_val (pe_call (ok_is_whole T) (hr.mono (by decide)) (by rfl) T.g_is_whole T.F_is_whole.kp T.b_is_whole .nil pass0 (pa_cons (pv 2) pa_nil)))) (pw_or1 (pt_cmpR op_lt (pv 2) pe_int (nomark _)))))) (pss_one (ps_ret pe_bl)) pss_nil)
      (pss_one (ps_ret (pe_cmpR op_eq (pe_call (ok_greatest_divisor T) (hr.mono (by decide)) (by rfl) T.g_greatest_divisor T.F_greatest_divisor.kp T.b_greatest_divisor .nil pass0 (pa_cons (pv 1) (pa_cons (pv 2) pa_nil))) pe_int (nomark _))))))), ?_⟩
  rcases ht with ⟨a, xs, rfl, ha, hk⟩ | hn
  · rw [isFr_tup ha] at q
    obtain ⟨t, u, c1, c2, c3⟩ := isi_tup (K := K) ha
    refine ⟨_, rfl, _, _, t, u, true, rfl, c1, c2, c3, _, rfl, iteF ?_⟩
    refine ⟨_, rfl, a, xs, rfl, .inr (.inl (.inl ha)), rfl, _, rfl, ?_⟩
    by_cases h2 : xs.length = 2
    · match xs, h2, ha, hk, q with
      | [x, y], _, ha, hk, q =>
        refine iteF ⟨_, rfl, a, _, rfl, .inl (.inl ha), rfl, _, _, rfl, _, _, rfl, rfl, ?_⟩
        have kx : Kn K H x := hk x (by simp)
        have ky : Kn K H y := hk y (by simp)
        refine ⟨_, rfl, x, rfl, kx, _, rfl, ?_⟩
        cases hx : whole x with
        | false =>
          refine iteT (iteT ?_)
          rw [frB_not (.inl hx)] at q
          exact q
        | true =>
          refine iteF ⟨_, rfl, y, rfl, ky, _, rfl, ?_⟩
          cases hy : whole y with
          | false =>
            refine iteT (iteT ?_)
            rw [frB_not (.inr hy)] at q
            exact q
          | true =>
            cases x with
            | int i =>
              cases y with
              | int j =>
                refine iteF ⟨_, rfl, j, 1, rfl, rfl, _, rfl, ?_⟩
                by_cases hj : 1 ≤ j
                · rw [decide_eq_false (show ¬ j < 1 by omega)]
                  refine iteF ⟨_, rfl, _, rfl, i, j, rfl, by omega, rfl, ?_⟩
                  have e : frB [.int i, .int j] = decide (V.int (Int.gcd i j : Int) = V.int 1) := by
                    show (decide (1 ≤ j) && decide (Int.gcd i j = 1)) = _
                    rw [decide_eq_true hj, Bool.true_and]
                    by_cases g : Int.gcd i j = 1
                    · rw [g]; rfl
                    · rw [decide_eq_false g, decide_eq_false (fun z => g (by have := V.int.inj z; omega))]
                  rw [e] at q
                  exact q
                · rw [decide_eq_true (show j < 1 by omega)]
                  refine iteT ?_
                  have e : frB [.int i, .int j] = false := by
                    show (decide (1 ≤ j) && decide (Int.gcd i j = 1)) = _
                    rw [decide_eq_false hj]; rfl
                  rw [e] at q
                  exact q
              | _ => exact nomatch hy
            | _ => exact nomatch hx
    · have e : (!decide (V.int (xs.length : Int) = V.int 2)) = true := by
        rw [decide_eq_false (fun z => h2 (by have := V.int.inj z; omega))]; rfl
      rw [e]
      refine iteT ?_
      rw [frB_len h2] at q
      exact q
  · obtain ⟨t, u, c1, c2, c3⟩ := isi_not (K := K) hn
    refine ⟨_, rfl, _, _, t, u, false, rfl, c1, c2, c3, _, rfl, iteT (iteT ?_)⟩
    rw [isFr_not hn] at q
    exact q

theorem ok_lowest (T : Tx K mg) : FnOk P w K mg base CX0 2 T.a_lowest T.d_lowest ["top", "bottom"] spLow := by
  refine T.F_lowest.ok sc_lowest (fun vs H Q E h => ?_) (fun cdv A outer s H vs Q E hr h => ?_)
  · obtain ⟨a, b, rfl, _⟩ := h; rfl
  obtain ⟨t, b, rfl, hb, hl, q⟩ := h
  refine ⟨_, (pss_cons (ps_if (pt_not (pt_val (pe_call (ok_is_whole T) (hr.mono (by decide)) (by rfl) T.g_is_whole T.F_is_whole.kp T.b_is_whole .nil pass0 (pa_cons (pv 0) pa_nil)))) (pss_one ps_never) pss_nil)
      (pss_cons (ps_if (PW.pt (pw_or (pt_not (pt_val (pe_call (ok_is_whole T) (hr.mono (by decide)) (by rfl) T.g_is_whole T.F_is_whole.kp T.b_is_whole .nil pass0 (pa_cons (pv 1) pa_nil)))) (pw_or1 (pt_cmpR op_lt (pv 1) pe_int (nomark _))))) (pss_one ps_never) pss_nil)
      (pss_cons (ps_set (i := 2) sc_lowest.nd rfl (Or.inl rfl) (pe_call (ok_greatest_divisor T) (hr.mono (by decide)) (by rfl) T.g_greatest_divisor T.F_greatest_divisor.kp T.b_greatest_divisor .nil pass0 (pa_cons (pv 0) (pa_cons (pv 1) pa_nil))))
      (pss_one (ps_ret (pe_tup (pa_cons (pe_op op_fdivW (pv 0) (pv 2)) (pa_cons (pe_op op_fdivW (pv 1) (pv 2)) pa_nil)))))))), ?_⟩
  refine ⟨_, rfl, _, rfl, trivial, true, rfl, iteF ?_⟩
  refine ⟨_, rfl, _, rfl, trivial, true, rfl, iteF ⟨_, rfl, b, 1, rfl, rfl, _, rfl, ?_⟩⟩
  rw [decide_eq_false (show ¬ b < 1 by omega)]
  refine iteF ⟨_, rfl, _, rfl, t, b, rfl, (by omega), ?_⟩
  refine ⟨_, rfl, _, rfl, t, _, rfl, rfl, gcd_div hb hl, _, rfl, _, rfl, b, _, rfl, rfl, gcd_div hb hl, sz2, fun p hp => ?_⟩
  exact q _ p (same_new hp) hp upd_same

theorem ok_check_fractions (T : Tx K mg) : FnOk P w K mg base CX0 3 T.a_check_fractions T.d_check_fractions ["one", "other"] spChkFr := by
  refine T.F_check_fractions.ok sc_check_fractions (fun vs H Q E h => ?_) (fun cdv A outer s H vs Q E hr h => ?_)
  · obtain ⟨p, q, a, b, c, d, rfl, _⟩ := h; rfl
  obtain ⟨p, q', a, b, c, d, rfl, ep, eq, f1, f2, q⟩ := h
  refine ⟨_, (pss_cons (ps_if (pt_not (pt_val (pe_call (ok_is_fraction T) (hr.mono (by decide)) (by rfl) T.g_is_fraction T.F_is_fraction.kp T.b_is_fraction .nil pass0 (pa_cons (pv 0) pa_nil)))) (pss_one ps_never) pss_nil)
      (pss_one (ps_if (pt_not (pt_val (pe_call (ok_is_fraction T) (hr.mono (by decide)) (by rfl) T.g_is_fraction T.F_is_fraction.kp T.b_is_fraction .nil pass0 (pa_cons (pv 1) pa_nil)))) (pss_one ps_never) pss_nil))), ?_⟩
  refine ⟨_, rfl, _, rfl, thing_two ep, ?_⟩
  rw [f1.is ep]
  refine ⟨true, rfl, iteF ⟨_, rfl, _, rfl, thing_two eq, ?_⟩⟩
  rw [f2.is eq]
  exact ⟨true, rfl, iteF q⟩

theorem ok_added (T : Tx K mg) : FnOk P w K mg base CX0 4 T.a_added T.d_added ["one", "other"] spAdded := by
  refine T.F_added.ok sc_added (fun vs H Q E h => ?_) (fun cdv A outer s H vs Q E hr h => ?_)
  · obtain ⟨p, q, a, b, c, d, rfl, _⟩ := h; rfl
  obtain ⟨p, q', a, b, c, d, rfl, ep, eq, f1, f2, q⟩ := h
  refine ⟨_, (pss_cons (ps_expr (pe_call (ok_check_fractions T) (hr.mono (by decide)) (by rfl) T.g_check_fractions T.F_check_fractions.kp T.b_check_fractions .nil pass0 (pa_cons (pv 0) (pa_cons (pv 1) pa_nil))))
      (pss_one (ps_ret (pe_call (ok_lowest T) (hr.mono (by decide)) (by rfl) T.g_lowest T.F_lowest.kp T.b_lowest .nil pass0 (pa_cons (pe_op op_add (pe_op op_mulW (pe_ix (r := rIxT K) ix_tup (pv 0) pe_int (fun _ _ => rfl)) (pe_ix (r := rIxT K) ix_tup (pv 1) pe_int (fun _ _ => rfl))) (pe_op op_mulW (pe_ix (r := rIxT K) ix_tup (pv 1) pe_int (fun _ _ => rfl)) (pe_ix (r := rIxT K) ix_tup (pv 0) pe_int (fun _ _ => rfl)))) (pa_cons (pe_op op_mulW (pe_ix (r := rIxT K) ix_tup (pv 0) pe_int (fun _ _ => rfl)) (pe_ix (r := rIxT K) ix_tup (pv 1) pe_int (fun _ _ => rfl))) pa_nil)))))), ?_⟩
  have s1 : SqT K H p [.int a, .int b] := .inl (.inl ep)
  have s2 : SqT K H q' [.int c, .int d] := .inl (.inl eq)
  refine ⟨_, rfl, _, rfl, p, q', a, b, c, d, rfl, ep, eq, f1, f2, ?_⟩
  refine ⟨_, rfl, p, _, 0, .int a, rfl, rfl, s1, rfl, _, rfl, q', _, 1, .int d, rfl, rfl, s2, rfl, a, d, rfl, rfl, mulW f1.2.2.1 f2.2.2.2, ?_⟩
  refine ⟨_, rfl, q', _, 0, .int c, rfl, rfl, s2, rfl, _, rfl, p, _, 1, .int b, rfl, rfl, s1, rfl, c, b, rfl, rfl, mulW f2.2.2.1 f1.2.2.2, _, _, rfl, rfl, ?_⟩
  refine ⟨_, rfl, p, _, 1, .int b, rfl, rfl, s1, rfl, _, rfl, q', _, 1, .int d, rfl, rfl, s2, rfl, b, d, rfl, rfl, mulW f1.2.2.2 f2.2.2.2, ?_⟩
  exact ⟨_, _, rfl, pos_prod f1.1 f2.1, log_prod f1.2.2.2 f2.2.2.2, q⟩

theorem ok_lessened (T : Tx K mg) : FnOk P w K mg base CX0 4 T.a_lessened T.d_lessened ["one", "other"] spLessened := by
  refine T.F_lessened.ok sc_lessened (fun vs H Q E h => ?_) (fun cdv A outer s H vs Q E hr h => ?_)
  · obtain ⟨p, q, a, b, c, d, rfl, _⟩ := h; rfl
  obtain ⟨p, q', a, b, c, d, rfl, ep, eq, f1, f2, q⟩ := h
  refine ⟨_, (pss_cons (ps_expr (pe_call (ok_check_fractions T) (hr.mono (by decide)) (by rfl) T.g_check_fractions T.F_check_fractions.kp T.b_check_fractions .nil pass0 (pa_cons (pv 0) (pa_cons (pv 1) pa_nil))))
      (pss_one (ps_ret (pe_call (ok_lowest T) (hr.mono (by decide)) (by rfl) T.g_lowest T.F_lowest.kp T.b_lowest .nil pass0 (pa_cons (pe_op op_sub (pe_op op_mulW (pe_ix (r := rIxT K) ix_tup (pv 0) pe_int (fun _ _ => rfl)) (pe_ix (r := rIxT K) ix_tup (pv 1) pe_int (fun _ _ => rfl))) (pe_op op_mulW (pe_ix (r := rIxT K) ix_tup (pv 1) pe_int (fun _ _ => rfl)) (pe_ix (r := rIxT K) ix_tup (pv 0) pe_int (fun _ _ => rfl)))) (pa_cons (pe_op op_mulW (pe_ix (r := rIxT K) ix_tup (pv 0) pe_int (fun _ _ => rfl)) (pe_ix (r := rIxT K) ix_tup (pv 1) pe_int (fun _ _ => rfl))) pa_nil)))))), ?_⟩
  have s1 : SqT K H p [.int a, .int b] := .inl (.inl ep)
  have s2 : SqT K H q' [.int c, .int d] := .inl (.inl eq)
  refine ⟨_, rfl, _, rfl, p, q', a, b, c, d, rfl, ep, eq, f1, f2, ?_⟩
  refine ⟨_, rfl, p, _, 0, .int a, rfl, rfl, s1, rfl, _, rfl, q', _, 1, .int d, rfl, rfl, s2, rfl, a, d, rfl, rfl, mulW f1.2.2.1 f2.2.2.2, ?_⟩
  refine ⟨_, rfl, q', _, 0, .int c, rfl, rfl, s2, rfl, _, rfl, p, _, 1, .int b, rfl, rfl, s1, rfl, c, b, rfl, rfl, mulW f2.2.2.1 f1.2.2.2, _, _, rfl, rfl, ?_⟩
  refine ⟨_, rfl, p, _, 1, .int b, rfl, rfl, s1, rfl, _, rfl, q', _, 1, .int d, rfl, rfl, s2, rfl, b, d, rfl, rfl, mulW f1.2.2.2 f2.2.2.2, ?_⟩
  exact ⟨_, _, rfl, pos_prod f1.1 f2.1, log_prod f1.2.2.2 f2.2.2.2, q⟩

theorem ok_multiplied (T : Tx K mg) : FnOk P w K mg base CX0 4 T.a_multiplied T.d_multiplied ["one", "other"] spMultiplied := by
  refine T.F_multiplied.ok sc_multiplied (fun vs H Q E h => ?_) (fun cdv A outer s H vs Q E hr h => ?_)
  · obtain ⟨p, q, a, b, c, d, rfl, _⟩ := h; rfl
  obtain ⟨p, q', a, b, c, d, rfl, ep, eq, f1, f2, q⟩ := h
  refine ⟨_, (pss_cons (ps_expr (pe_call (ok_check_fractions T) (hr.mono (by decide)) (by rfl) T.g_check_fractions T.F_check_fractions.kp T.b_check_fractions .nil pass0 (pa_cons (pv 0) (pa_cons (pv 1) pa_nil))))
      (pss_one (ps_ret (pe_call (ok_lowest T) (hr.mono (by decide)) (by rfl) T.g_lowest T.F_lowest.kp T.b_lowest .nil pass0 (pa_cons (pe_op op_mulW (pe_ix (r := rIxT K) ix_tup (pv 0) pe_int (fun _ _ => rfl)) (pe_ix (r := rIxT K) ix_tup (pv 1) pe_int (fun _ _ => rfl))) (pa_cons (pe_op op_mulW (pe_ix (r := rIxT K) ix_tup (pv 0) pe_int (fun _ _ => rfl)) (pe_ix (r := rIxT K) ix_tup (pv 1) pe_int (fun _ _ => rfl))) pa_nil)))))), ?_⟩
  have s1 : SqT K H p [.int a, .int b] := .inl (.inl ep)
  have s2 : SqT K H q' [.int c, .int d] := .inl (.inl eq)
  refine ⟨_, rfl, _, rfl, p, q', a, b, c, d, rfl, ep, eq, f1, f2, ?_⟩
  refine ⟨_, rfl, p, _, 0, .int a, rfl, rfl, s1, rfl, _, rfl, q', _, 0, .int c, rfl, rfl, s2, rfl, a, c, rfl, rfl, mulW f1.2.2.1 f2.2.2.1, ?_⟩
  refine ⟨_, rfl, p, _, 1, .int b, rfl, rfl, s1, rfl, _, rfl, q', _, 1, .int d, rfl, rfl, s2, rfl, b, d, rfl, rfl, mulW f1.2.2.2 f2.2.2.2, ?_⟩
  exact ⟨_, _, rfl, pos_prod f1.1 f2.1, log_prod f1.2.2.2 f2.2.2.2, q⟩

theorem ok_is_less (T : Tx K mg) : FnOk P w K mg base CX0 4 T.a_is_less T.d_is_less ["one", "other"] spIsLess := by
  refine T.F_is_less.ok sc_is_less (fun vs H Q E h => ?_) (fun cdv A outer s H vs Q E hr h => ?_)
  · obtain ⟨p, q, a, b, c, d, rfl, _⟩ := h; rfl
  obtain ⟨p, q', a, b, c, d, rfl, ep, eq, f1, f2, q⟩ := h
  refine ⟨_, (pss_cons (ps_expr (pe_call (ok_check_fractions T) (hr.mono (by decide)) (by rfl) T.g_check_fractions T.F_check_fractions.kp T.b_check_fractions .nil pass0 (pa_cons (pv 0) (pa_cons (pv 1) pa_nil))))
      (pss_one (ps_ret (pe_cmpR op_lt (pe_op op_mulW (pe_ix (r := rIxT K) ix_tup (pv 0) pe_int (fun _ _ => rfl)) (pe_ix (r := rIxT K) ix_tup (pv 1) pe_int (fun _ _ => rfl))) (pe_op op_mulW (pe_ix (r := rIxT K) ix_tup (pv 1) pe_int (fun _ _ => rfl)) (pe_ix (r := rIxT K) ix_tup (pv 0) pe_int (fun _ _ => rfl))) (nomark _))))), ?_⟩
  have s1 : SqT K H p [.int a, .int b] := .inl (.inl ep)
  have s2 : SqT K H q' [.int c, .int d] := .inl (.inl eq)
  refine ⟨_, rfl, _, rfl, p, q', a, b, c, d, rfl, ep, eq, f1, f2, ?_⟩
  refine ⟨_, rfl, p, _, 0, .int a, rfl, rfl, s1, rfl, _, rfl, q', _, 1, .int d, rfl, rfl, s2, rfl, a, d, rfl, rfl, mulW f1.2.2.1 f2.2.2.2, ?_⟩
  exact ⟨_, rfl, q', _, 0, .int c, rfl, rfl, s2, rfl, _, rfl, p, _, 1, .int b, rfl, rfl, s1, rfl, c, b, rfl, rfl, mulW f2.2.2.1 f1.2.2.2, _, _, rfl, rfl, q⟩

theorem ok__law_cell (T : Tx K mg) : FnOk P w K mg base CX0 1 T.a__law_cell T.d__law_cell ["_law_script", "_law_k"] (sp__law_cell K) := by
  refine T.F__law_cell.ok sc__law_cell (fun vs H Q E h => ?_) (fun cdv A outer s H vs Q E hr h => ?_)
  · obtain ⟨a, ns, k, rfl, _⟩ := h; rfl
  obtain ⟨a, ns, k, rfl, hS, q⟩ := h
  refine ⟨_, (pss_cons (ps_if (pt_cmpR op_lt (pv 1) (pe_callB (r := Evl.rLenS K) call_len_seq (by rfl) T.m_len bt_len (pa_cons (pv 0) pa_nil)) (nomark _)) (pss_one (ps_ret (pe_ix (r := rIxL K) ix_list (pv 0) (pv 1) (fun _ _ => rfl)))) pss_nil)
      (pss_one (ps_ret pe_int))), ?_⟩
  refine ⟨_, rfl, _, rfl, a, _, rfl, .inl hS, (k : Int), _, rfl, rfl, _, rfl, ite2 (fun e => ?_) (fun e => ?_)⟩
  · have hk : k < ns.length := by
      have := of_decide_eq_true e
      rw [List.length_map] at this
      omega
    refine ⟨_, rfl, _, rfl, a, _, (k : Int), .int ns[k], rfl, rfl, hS, atI_nat ?_, q _⟩
    rw [List.getElem?_map, List.getElem?_eq_getElem hk]
    rfl
  · exact q 0

theorem ok__law_mix (T : Tx K mg) : FnOk P w K mg base CX0 1 T.a__law_mix T.d__law_mix ["_law_cell_here", "_law_k"] sp__law_mix := by
  refine T.F__law_mix.ok sc__law_mix (fun vs H Q E h => ?_) (fun cdv A outer s H vs Q E hr h => ?_)
  · obtain ⟨a, k, rfl, _⟩ := h; rfl
  obtain ⟨c, k, rfl, hk, q⟩ := h
  refine ⟨_, (pss_cons (ps_set (i := 2) sc__law_mix.nd rfl (Or.inl rfl) (pe_lst (pa_cons pe_int (pa_cons pe_int (pa_cons pe_int (pa_cons pe_int (pa_cons pe_int (pa_cons pe_int (pa_cons pe_int (pa_cons pe_int (pa_cons pe_int (pa_cons pe_int (pa_cons pe_int (pa_cons pe_int (pa_cons pe_int pa_nil)))))))))))))))
      (pss_cons (ps_set (i := 3) sc__law_mix.nd rfl (Or.inl rfl) (pe_op op_mul (pe_op op_add (pe_op op_mod (pv 0) pe_int) pe_int) (pe_ix (r := rIxL K) ix_list (pv 2) (pe_op op_mod (pv 1) pe_int) (fun _ _ => rfl))))
      (pss_cons (ps_set (i := 3) sc__law_mix.nd rfl (Or.inl rfl) (pe_op op_add (pe_op op_add (pv 3) (pe_op op_mul pe_int (pv 1))) (pe_op op_mul pe_int (pe_op op_fdivW (pv 1) pe_int))))
      (pss_cons (ps_set (i := 3) sc__law_mix.nd rfl (Or.inl rfl) (pe_op op_mod (pv 3) pe_int))
      (pss_one (ps_ret (pe_op op_fdivW (pe_op op_mod (pe_op op_add (pe_op op_mul (pv 3) (pv 3)) (pe_op op_mul pe_int (pv 1))) pe_int) pe_int))))))), ?_⟩
  refine ⟨by decide, fun p hp => ?_⟩
  have hm : (k : Int) % 13 = ((k % 13 : Nat) : Int) := by omega
  have h13 : k % 13 < 13 := Nat.mod_lt _ (by decide)
  obtain ⟨z, hz⟩ : ∃ z : Int, ([V.int 48271, .int 69621, .int 16807, .int 39373, .int 30269, .int 40014, .int 40692, .int 50021, .int 61687, .int 71993, .int 83869, .int 95561, .int 30307])[k % 13]? = some (.int z) := by
    generalize k % 13 = m at h13
    match m, h13 with
    | 0, _ => exact ⟨_, rfl⟩
    | 1, _ => exact ⟨_, rfl⟩
    | 2, _ => exact ⟨_, rfl⟩
    | 3, _ => exact ⟨_, rfl⟩
    | 4, _ => exact ⟨_, rfl⟩
    | 5, _ => exact ⟨_, rfl⟩
    | 6, _ => exact ⟨_, rfl⟩
    | 7, _ => exact ⟨_, rfl⟩
    | 8, _ => exact ⟨_, rfl⟩
    | 9, _ => exact ⟨_, rfl⟩
    | 10, _ => exact ⟨_, rfl⟩
    | 11, _ => exact ⟨_, rfl⟩
    | 12, _ => exact ⟨_, rfl⟩
  have c1 := Int.emod_nonneg c (show (2147483647 : Int) ≠ 0 by decide)
  have c2 := Int.emod_lt_of_pos c (show (0 : Int) < 2147483647 by decide)
  refine ⟨_, rfl, c, 2147483647, rfl, rfl, (by show (0 : Int) < 2147483647; decide), _, _, rfl, rfl, _, rfl, _, rfl, k, 13, rfl, rfl, (by show (0 : Int) < 13; decide), p, _, _, .int z, rfl, rfl, .inl (.inl upd_same), at_of hm hz, _, z, rfl, rfl, .inl ⟨by omega, by omega⟩, ?_⟩
  refine ⟨_, rfl, _, rfl, 977, k, rfl, rfl, .inl ⟨by omega, by omega⟩, _, _, rfl, rfl, _, rfl, k, 13, rfl, rfl, ⟨by decide, by decide⟩, 7919, _, rfl, rfl, .inl ⟨by omega, by omega⟩, _, _, rfl, rfl, ?_⟩
  refine ⟨_, rfl, _, 1000000007, rfl, rfl, (by show (0 : Int) < 1000000007; decide), ?_⟩
  refine ⟨_, rfl, _, rfl, _, _, rfl, rfl, .inl ⟨Int.lt_of_lt_of_le (by decide) (Int.emod_nonneg _ (by decide)), Int.lt_trans (Int.emod_lt_of_pos _ (by decide)) (by decide)⟩, _, rfl, 48271, k, rfl, rfl, .inl ⟨by omega, by omega⟩, _, _, rfl, rfl, _, 1000000007, rfl, rfl, (by show (0 : Int) < 1000000007; decide), _, 7, rfl, rfl, ⟨by decide, by decide⟩, ?_⟩
  exact q _ _ (same_new hp)

theorem ok__law_box (T : Tx K mg) : FnOk P w K mg base CX0 2 T.a__law_box T.d__law_box ["_law_script", "_law_k"] (spBox K) := by
  refine T.F__law_box.ok sc__law_box (fun vs H Q E h => ?_) (fun cdv A outer s H vs Q E hr h => ?_)
  · obtain ⟨a, ns, k, rfl, _⟩ := h; rfl
  obtain ⟨a, ns, k, rfl, hS, q⟩ := h
  refine ⟨_, (pss_cons (ps_set (i := 2) sc__law_box.nd rfl (Or.inl rfl) (pe_call (ok__law_cell T) (hr.mono (by decide)) (by rfl) T.g__law_cell T.F__law_cell.kp T.b__law_cell .nil pass0 (pa_cons (pv 0) (pa_cons (pv 1) pa_nil))))
      (pss_cons (ps_if (pt_cmpR op_eq (pe_op op_mod (pv 2) pe_int) pe_int (nomark _)) (pss_one (ps_ret (pe_lst (pa_cons (pe_op op_fdiv (pe_callB call_abs (by rfl) T.m_abs bt_abs (pa_cons (pv 2) pa_nil)) pe_int) pa_nil)))) pss_nil)
      (pss_cons (ps_set (i := 3) sc__law_box.nd rfl (Or.inl rfl) pe_int)
      (pss_cons (ps_for PassesOwn.never rfl (pi_range1 (by rfl) T.m_range (pa_cons pe_int pa_nil)) (pg_name (i := 4) sc__law_box.nd rfl (Or.inl rfl)) (pss_one (ps_set (i := 3) sc__law_box.nd rfl (Or.inl rfl) (pe_op op_add (pe_op op_mul (pv 3) pe_int) (pe_call (ok__law_mix T) (hr.mono (by decide)) (by rfl) T.g__law_mix T.F__law_mix.kp T.b__law_mix .nil pass0 (pa_cons (pv 2) (pa_cons (pv 4) pa_nil)))))))
      (pss_one (ps_ret (pe_lst (pa_cons (pv 3) pa_nil)))))))), ?_⟩
  refine ⟨_, rfl, _, rfl, a, ns, k, rfl, hS, fun c => ?_⟩
  refine ⟨_, rfl, c, 2, rfl, rfl, (by show (0 : Int) < 2; decide), rfl, _, rfl, ite2 (fun _ => ?_) (fun _ => ?_)⟩
  · exact ⟨_, rfl, c, rfl, _, 2, rfl, rfl, ⟨by decide, by decide⟩, sz1, fun p hp => q _ p _ (same_new hp) hp upd_same⟩
  · refine ⟨40, rfl, by decide, by decide, for_range (n := 40) (fun i σ H' => ∃ n y, σ = [some (.ref a), some (.int k), some (.int c), some (.int n), y] ∧ Same H H') ⟨0, none, rfl, Same.refl _⟩ ?_ ?_⟩
    · rintro i σ H' hi ⟨n, y, rfl, sm⟩
      refine ⟨_, rfl, n, 142857143, rfl, rfl, .inr ⟨by decide, by decide⟩, _, rfl, _, rfl, c, i, ?_, by omega, fun H2 v sm2 => ?_⟩
      · rw [Int.zero_add]; rfl
      · exact ⟨_, _, rfl, rfl, _, _, rfl, sm.trans sm2⟩
    · rintro σ H' ⟨n, y, rfl, sm⟩
      exact ⟨_, rfl, sz1, fun p hp => q _ p _ (sm.trans (same_new hp)) (sm.free hp) upd_same⟩

theorem ok__law_take (T : Tx K mg) : FnOk P w K mg base CX0 1 T.a__law_take T.d__law_take ["_law_box_here", "_law_many"] spTake := by
  refine T.F__law_take.ok sc__law_take (fun vs H Q E h => ?_) (fun cdv A outer s H vs Q E hr h => ?_)
  · obtain ⟨b, n, m, rfl, _⟩ := h; rfl
  obtain ⟨b, n, m, rfl, hB, h0, hl, q⟩ := h
  refine ⟨_, (pss_cons (ps_asg (pe_callB call_divmodW (by rfl) T.m_divmod bt_divmod (pa_cons (pe_ix (r := rIxL K) ix_list (pv 0) pe_int (fun _ _ => rfl)) (pa_cons (pv 1) pa_nil))) (pg_tup (by rfl) (pgs_cons (pg_name (i := 2) sc__law_take.nd rfl (Or.inl rfl)) (pgs_cons (pg_name (i := 3) sc__law_take.nd rfl (Or.inl rfl)) pgs_nil))))
      (pss_cons (ps_asg (pv 2) (pg_sub (pv 0) pe_int set_list))
      (pss_one (ps_ret (pv 3))))), ?_⟩
  refine ⟨_, rfl, b, _, 0, _, rfl, rfl, .inl (.inl hB), rfl, _, rfl, n, m, rfl, noPy h0 hl, fun p hp => ?_⟩
  have nb : b ≠ p := ne_of_none hB hp
  refine ⟨p, _, rfl, .inl (.inl upd_same), rfl, _, _, rfl, _, _, rfl, rfl, ?_⟩
  refine ⟨_, rfl, _, rfl, b, [.int n], 0, 0, rfl, rfl, ?_, rfl, ?_⟩
  · rw [upd_ne nb]; exact hB
  · refine ⟨_, rfl, q _ (n / m) (n % m) ?_ upd_same (Int.emod_nonneg _ (by omega)) (Int.emod_lt_of_pos _ h0)⟩
    intro a o na ea
    rw [upd_ne na]
    exact same_new hp a o ea

theorem ok__law_truth (T : Tx K mg) : FnOk P w K mg base CX0 1 T.a__law_truth T.d__law_truth ["_law_found", "_law_due"] spTruth := by
  refine T.F__law_truth.ok sc__law_truth (fun vs H Q E h => ?_) (fun cdv A outer s H vs Q E hr h => ?_)
  · obtain ⟨x, y, rfl, _⟩ := h; rfl
  obtain ⟨x, y, rfl, q⟩ := h
  refine ⟨_, (pss_one (ps_ret (pe_and (pe_callB (r := rIsi K) call_isi (by rfl) T.m_isinstance bt_isinstance (pa_cons (pv 0) (pa_cons (pe_bltn (v := .ty "bool") (by rfl) T.m_bool bt_bool rfl) pa_nil))) (pe_one (pe_cmpR op_eq (pv 0) (pv 1) (nomark _)))))), ?_⟩
  refine ⟨_, rfl, _, _, _, _, true, rfl, .ty "bool", .base (.bl x), kit_ty (by decide +kernel), true, rfl, iteT ⟨_, rfl, _, rfl, rfl, ?_⟩⟩
  have e : decide (V.bl x = V.bl y) = decide (x = y) := by cases x <;> cases y <;> rfl
  rw [e]
  exact q

theorem ok__law_common (T : Tx K mg) : FnOk P w K mg base CX0 1 T.a__law_common T.d__law_common ["_law_one", "_law_other"] spGcd := by
  refine T.F__law_common.ok sc__law_common (fun vs H Q E h => ?_) (fun cdv A outer s H vs Q E hr h => ?_)
  · obtain ⟨a, b, rfl, _⟩ := h; rfl
  obtain ⟨a, b, rfl, ha, hb, q⟩ := h
  refine ⟨_, (pss_cons (ps_while PassesOwn.never (pt_cmpR op_ne (pv 1) pe_int (nomark _)) (pss_one (ps_par (i := 0) (j := 1) (by rfl) sc__law_common.nd rfl rfl (by decide) rfl rfl (pa_cons (pv 1) (pa_cons (pe_op op_mod (pv 0) (pv 1)) pa_nil)) (by rfl))))
      (pss_one (ps_ret (pv 0)))), ?_⟩
  refine while_by (fun σ H' => ∃ x y : Int, σ = [some (.int x), some (.int y)] ∧ 0 ≤ x ∧ 0 ≤ y ∧ Int.gcd x y = Int.gcd a b ∧ H' = H) (fun σ _ => match σ with | [_, some (.int y)] => y.toNat | _ => 0) ⟨a, b, rfl, ha, hb, rfl, rfl⟩ ?_ ?_
  · rintro σ H' ⟨x, y, rfl, hx, hy, e, rfl⟩
    refine ⟨_, rfl, rfl, _, rfl, ?_⟩
    by_cases h0 : y = 0
    · subst h0
      refine iteNS rfl ⟨_, rfl, ?_⟩
      rw [Int.gcd_zero_right] at e
      have e2 : x = (Int.gcd a b : Int) := by omega
      rw [e2]
      exact q
    · have hd : (!decide (V.int y = V.int 0)) = true := by
        rw [decide_eq_false (fun z => h0 (V.int.inj z))]; rfl
      rw [hd]
      refine iteT ⟨_, rfl, _, rfl, _, rfl, x, y, rfl, rfl, (by omega : 0 < y), _, _, rfl, ⟨y, x % y, rfl, hy, Int.emod_nonneg _ h0, ?_, rfl⟩, ?_⟩
      · rw [gcd_step x y hx (by omega), e]
      · show (x % y).toNat < y.toNat
        have := Int.emod_lt_of_pos x (show 0 < y by omega)
        omega
  · rintro σ H' Q Q' m ⟨v, h1, h2, k, h3, h4⟩
    exact ⟨v, h1, h2, k, h3, m _ _ h4⟩

theorem ok__law_made (T : Tx K mg) : FnOk P w K mg base CX0 2 T.a__law_made T.d__law_made ["_law_top", "_law_bottom"] spLow := by
  refine T.F__law_made.ok sc__law_made (fun vs H Q E h => ?_) (fun cdv A outer s H vs Q E hr h => ?_)
  · obtain ⟨a, b, rfl, _⟩ := h; rfl
  obtain ⟨t, b, rfl, hb, hl, q⟩ := h
  refine ⟨_, (pss_cons (ps_set (i := 2) sc__law_made.nd rfl (Or.inl rfl) (pe_call (ok__law_common T) (hr.mono (by decide)) (by rfl) T.g__law_common T.F__law_common.kp T.b__law_common .nil pass0 (pa_cons (pv 1) (pa_cons (pe_callB call_abs (by rfl) T.m_abs bt_abs (pa_cons (pv 0) pa_nil)) pa_nil))))
      (pss_one (ps_ret (pe_tup (pa_cons (pe_op op_fdivW (pv 0) (pv 2)) (pa_cons (pe_op op_fdivW (pv 1) (pv 2)) pa_nil)))))), ?_⟩
  refine ⟨_, rfl, _, rfl, t, rfl, b, _, rfl, (by omega), ?_, ?_⟩
  · rw [abs_eq]; omega
  have e : Int.gcd b (if t < 0 then -t else t) = Int.gcd t b := by
    rw [abs_eq, Int.gcd_comm]; rfl
  rw [e]
  refine ⟨_, rfl, _, rfl, t, _, rfl, rfl, gcd_div hb hl, _, rfl, _, rfl, b, _, rfl, rfl, gcd_div hb hl, sz2, fun p hp => ?_⟩
  exact q _ p (same_new hp) hp upd_same

theorem ok__law_plus (T : Tx K mg) : FnOk P w K mg base CX0 3 T.a__law_plus T.d__law_plus ["_law_one", "_law_other"] spPlus := by
  refine T.F__law_plus.ok sc__law_plus (fun vs H Q E h => ?_) (fun cdv A outer s H vs Q E hr h => ?_)
  · obtain ⟨p, q, a, b, c, d, rfl, _⟩ := h; rfl
  obtain ⟨p, q', a, b, c, d, rfl, ep, eq, hb, hd, za, zb, zc, zd, q⟩ := h
  refine ⟨_, (pss_one (ps_ret (pe_call (ok__law_made T) (hr.mono (by decide)) (by rfl) T.g__law_made T.F__law_made.kp T.b__law_made .nil pass0 (pa_cons (pe_op op_add (pe_op op_mulW (pe_ix (r := rIxT K) ix_tup (pv 0) pe_int (fun _ _ => rfl)) (pe_ix (r := rIxT K) ix_tup (pv 1) pe_int (fun _ _ => rfl))) (pe_op op_mulW (pe_ix (r := rIxT K) ix_tup (pv 1) pe_int (fun _ _ => rfl)) (pe_ix (r := rIxT K) ix_tup (pv 0) pe_int (fun _ _ => rfl)))) (pa_cons (pe_op op_mulW (pe_ix (r := rIxT K) ix_tup (pv 0) pe_int (fun _ _ => rfl)) (pe_ix (r := rIxT K) ix_tup (pv 1) pe_int (fun _ _ => rfl))) pa_nil))))), ?_⟩
  have s1 : SqT K H p [.int a, .int b] := .inl (.inl ep)
  have s2 : SqT K H q' [.int c, .int d] := .inl (.inl eq)
  refine ⟨_, rfl, p, _, 0, .int a, rfl, rfl, s1, rfl, _, rfl, q', _, 1, .int d, rfl, rfl, s2, rfl, a, d, rfl, rfl, mulW za zd, ?_⟩
  refine ⟨_, rfl, q', _, 0, .int c, rfl, rfl, s2, rfl, _, rfl, p, _, 1, .int b, rfl, rfl, s1, rfl, c, b, rfl, rfl, mulW zc zb, _, _, rfl, rfl, ?_⟩
  refine ⟨_, rfl, p, _, 1, .int b, rfl, rfl, s1, rfl, _, rfl, q', _, 1, .int d, rfl, rfl, s2, rfl, b, d, rfl, rfl, mulW zb zd, ?_⟩
  exact ⟨_, _, rfl, pos_prod hb hd, log_prod zb zd, q⟩

theorem ok__law_drawn_number (T : Tx K mg) : FnOk P w K mg base CX0 2 T.a__law_drawn_number T.d__law_drawn_number ["_law_box_here"] spNum := by
  refine T.F__law_drawn_number.ok sc__law_drawn_number (fun vs H Q E h => ?_) (fun cdv A outer s H vs Q E hr h => ?_)
  · obtain ⟨b, n, rfl, _⟩ := h; rfl
  obtain ⟨b, n, rfl, hB, q⟩ := h
  refine ⟨_, (pss_cons (ps_set (i := 1) sc__law_drawn_number.nd rfl (Or.inl rfl) (pe_ix (r := rIxL K) ix_list (pe_lst (pa_cons pe_int (pa_cons pe_int (pa_cons (pe_op op_pow pe_int pe_int) (pa_cons (pe_op op_pow pe_int pe_int) pa_nil))))) (pe_call (ok__law_take T) (hr.mono (by decide)) (by rfl) T.g__law_take T.F__law_take.kp T.b__law_take .nil pass0 (pa_cons (pv 0) (pa_cons pe_int pa_nil))) (fun _ _ => rfl)))
      (pss_one (ps_ret (pe_op op_sub (pe_call (ok__law_take T) (hr.mono (by decide)) (by rfl) T.g__law_take T.F__law_take.kp T.b__law_take .nil pass0 (pa_cons (pv 0) (pa_cons (pe_op op_add (pe_op op_mul pe_int (pv 1)) pe_int) pa_nil))) (pv 1))))), ?_⟩
  refine ⟨10, 9, rfl, rfl, ⟨by decide, by decide, by decide⟩, 10, 19, rfl, rfl, ⟨by decide, by decide, by decide⟩, sz4, fun l hl => ?_⟩
  have nb : b ≠ l := ne_of_none hB hl
  refine ⟨_, rfl, b, n, 4, rfl, by rw [upd_ne nb]; exact hB, by decide, by decide, fun H1 n1 d1 k1 e1 z1 z2 => ?_⟩
  obtain ⟨m, hm, h0, h1⟩ : ∃ m : Int, atI [V.int 3, .int 12, .int (10 ^ (9 : Int).toNat), .int (10 ^ (19 : Int).toNat)] d1 = some (.int m) ∧ 3 ≤ m ∧ m ≤ 10 ^ 19 := by
    rcases (show d1 = 0 ∨ d1 = 1 ∨ d1 = 2 ∨ d1 = 3 by omega) with rfl | rfl | rfl | rfl
    · exact ⟨3, at_of (j := 0) rfl rfl, by decide, by decide⟩
    · exact ⟨12, at_of (j := 1) rfl rfl, by decide, by decide⟩
    · exact ⟨10 ^ 9, at_of (j := 2) rfl rfl, by decide, by decide⟩
    · exact ⟨10 ^ 19, at_of (j := 3) rfl rfl, by decide, by decide⟩
  have el := k1 l _ (fun z => nb z.symm) upd_same
  refine ⟨l, _, d1, .int m, rfl, rfl, .inl (.inl el), hm, ?_⟩
  have p19 : (10 : Int) ^ 19 = 10000000000000000000 := by decide
  rw [p19] at h1
  have p60 : (2 : Nat) ^ 66 = 73786976294838206464 := by decide
  refine ⟨_, rfl, _, rfl, 2, m, rfl, rfl, .inl ⟨by decide, by decide⟩, _, 1, rfl, rfl, b, n1, 2 * m + 1, rfl, e1, by omega, ?_, fun H2 n2 d2 k2 e2 z3 z4 => ⟨_, rfl, d2, m, rfl, rfl, ?_⟩⟩
  · have h6 : (2 * m + 1).natAbs < 2 ^ 66 := by rw [p60]; omega
    exact Nat.lt_of_lt_of_le (PySem.Flt.log2_lt_of (by decide) h6) (by decide)
  · refine q H2 n2 (d2 - m) (fun a o na ea => k2 a o na (k1 a o na (same_new hl a o ea))) e2 ?_
    have p19' : (10 : Nat) ^ 19 = 10000000000000000000 := by decide
    rw [p19']
    omega
end
end KGX

namespace KGX
open PySem PySem.Spec PyProof.Rows L2
section
variable {P : Program} {w : World} {K : PySem.W.Frag} {mg : Str → Option Value} {base : Heap}
--GUARDED
/-- a small fraction at q -/
def FrAt (H : Hp) (q : Addr) : Prop := ∃ a b : Int, H q = some (.tup [.int a, .int b]) ∧ 1 ≤ b ∧ Int.gcd a b = 1 ∧ a.natAbs < 2 ^ 70 ∧ b.natAbs < 2 ^ 70
theorem FrAt.mono {H H' : Hp} {q : Addr} (h : FrAt H q) (s : Same H H') : FrAt H' q := by
  obtain ⟨a, b, e, r⟩ := h
  exact ⟨a, b, s _ _ e, r⟩
theorem FrAt.off {H H' : Hp} {q b : Addr} {o : List V} (h : FrAt H q) (eb : H b = some (.lst o)) (s : Kp b H H') : FrAt H' q := by
  obtain ⟨x, y, e, r⟩ := h
  exact ⟨x, y, s _ _ (ne_of e eb (by intro z; cases z)) e, r⟩
theorem fr_of {a b : Int} (h1 : 1 ≤ b) (h2 : Int.gcd a b = 1) (h3 : a.natAbs < 2 ^ 70) (h4 : b.natAbs < 2 ^ 70) : Fr a b := ⟨h1, h2, sz_le h3 (by decide), sz_le h4 (by decide)⟩
theorem p70 {v : Int} (h : v.natAbs ≤ 10 ^ 19) : v.natAbs < 2 ^ 65 := Nat.lt_of_le_of_lt h (by decide)
theorem dp2 {K : PySem.W.Frag} {H : Hp} {p : Addr} {i j : Int} (e : H p = some (.tup [.int i, .int j])) : Dp K H (.ref p) (.tuple [.int i, .int j]) := .tup (.inl (.inl e)) (.cons (.int i) (.cons (.int j) .nil))
theorem ok_law (T : Tx K mg) : KG.FnG P w K mg base 5 T.a_law T.d_law ["_law_script"] (sp_law K) := by
  refine KG.okG T.F_law sc_law (fun vs H Q E h => ?_) (fun cdv A outer s H vs Q E gd hr h => ?_)
  · obtain ⟨a, ns, rfl, _⟩ := h; rfl
  obtain ⟨a, ns, rfl, hS, hl, q⟩ := h
  refine ⟨_, (pss_cons (ps_for PassesOwn.never rfl (pi_range1 (by rfl) T.m_range (pa_cons (pe_callB (call_max2 rfl) (by rfl) T.m_max bt_max (pa_cons pe_int (pa_cons (pe_callB (call_min2 rfl) (by rfl) T.m_min bt_min (pa_cons (pe_callB (r := Evl.rLenS K) call_len_seq (by rfl) T.m_len bt_len (pa_cons (pv 0) pa_nil)) (pa_cons pe_int pa_nil))) pa_nil))) pa_nil)) (pg_name (i := 1) sc_law.nd rfl (Or.inl rfl)) (pss_cons (ps_set (i := 2) sc_law.nd rfl (Or.inl rfl) (pe_call (ok__law_box T) (hr.mono (by decide)) (by rfl) T.g__law_box T.F__law_box.kp T.b__law_box .nil pass0 (pa_cons (pv 0) (pa_cons (pv 1) pa_nil))))
      (pss_cons (ps_set (i := 3) sc_law.nd rfl (Or.inl rfl) (pe_lst pa_nil))
      (pss_cons (ps_for PassesOwn.never rfl (pi_range1 (by rfl) T.m_range (pa_cons pe_int pa_nil)) (pg_name (i := 4) sc_law.nd rfl (Or.inl rfl)) (pss_cons (ps_par (i := 5) (j := 6) (by rfl) sc_law.nd rfl rfl (by decide) rfl rfl (pa_cons (pe_call (ok__law_drawn_number T) (hr.mono (by decide)) (by rfl) T.g__law_drawn_number T.F__law_drawn_number.kp T.b__law_drawn_number .nil pass0 (pa_cons (pv 2) pa_nil)) (pa_cons (pe_op op_add (pe_callB call_abs (by rfl) T.m_abs bt_abs (pa_cons (pe_call (ok__law_drawn_number T) (hr.mono (by decide)) (by rfl) T.g__law_drawn_number T.F__law_drawn_number.kp T.b__law_drawn_number .nil pass0 (pa_cons (pv 2) pa_nil)) pa_nil)) pe_int) pa_nil)) (by rfl))
      (pss_cons (ps_set (i := 7) sc_law.nd rfl (Or.inl rfl) (pe_op op_add pe_int (pe_call (ok__law_take T) (hr.mono (by decide)) (by rfl) T.g__law_take T.F__law_take.kp T.b__law_take .nil pass0 (pa_cons (pv 2) (pa_cons pe_int pa_nil)))))
      (pss_cons (ps_set (i := 8) sc_law.nd rfl (Or.inl rfl) (pe_call (ok_lowest T) (hr.mono (by decide)) (by rfl) T.g_lowest T.F_lowest.kp T.b_lowest .nil pass0 (pa_cons (pe_op op_mul (pv 5) (pv 7)) (pa_cons (pe_op op_mul (pv 6) (pv 7)) pa_nil))))
      (pss_cons (ps_if (pt_cmpR op_ne (pe_callB (r := KG.rRepr K) (KG.call_repr gd hr) (by rfl) T.m_repr bt_repr (pa_cons (pv 8) pa_nil)) (pe_callB (r := KG.rRepr K) (KG.call_repr gd hr) (by rfl) T.m_repr bt_repr (pa_cons (pe_call (ok__law_made T) (hr.mono (by decide)) (by rfl) T.g__law_made T.F__law_made.kp T.b__law_made .nil pass0 (pa_cons (pv 5) (pa_cons (pv 6) pa_nil))) pa_nil)) (nomark _)) (pss_one (ps_ret pe_bl)) pss_nil)
      (pss_one (ps_expr (pe_bm PySem.F.plainAttrs_list PySem.F.slot_list_append PySem.F.type_list_append mt_append (pv 3) (pa_cons (pv 8) pa_nil)))))))))
      (pss_one (ps_for PassesOwn.never rfl (pi_list (pe_op (r := rCat) op_cat (pv 3) (pe_lst (pa_cons (pe_tup (pa_cons pe_int (pa_cons pe_int pa_nil))) pa_nil)))) (pg_name (i := 9) sc_law.nd rfl (Or.inl rfl)) (pss_one (ps_for PassesOwn.never rfl (pi_list (pv 3)) (pg_name (i := 10) sc_law.nd rfl (Or.inl rfl)) (pss_cons (ps_if (pt_cmpR op_ne (pe_callB (r := KG.rRepr K) (KG.call_repr gd hr) (by rfl) T.m_repr bt_repr (pa_cons (pe_call (ok_added T) (hr.mono (by decide)) (by rfl) T.g_added T.F_added.kp T.b_added .nil pass0 (pa_cons (pv 9) (pa_cons (pv 10) pa_nil))) pa_nil)) (pe_callB (r := KG.rRepr K) (KG.call_repr gd hr) (by rfl) T.m_repr bt_repr (pa_cons (pe_call (ok__law_plus T) (hr.mono (by decide)) (by rfl) T.g__law_plus T.F__law_plus.kp T.b__law_plus .nil pass0 (pa_cons (pv 9) (pa_cons (pv 10) pa_nil))) pa_nil)) (nomark _)) (pss_one (ps_ret pe_bl)) pss_nil)
      (pss_cons (ps_if (pt_cmpR op_ne (pe_callB (r := KG.rRepr K) (KG.call_repr gd hr) (by rfl) T.m_repr bt_repr (pa_cons (pe_call (ok_lessened T) (hr.mono (by decide)) (by rfl) T.g_lessened T.F_lessened.kp T.b_lessened .nil pass0 (pa_cons (pv 9) (pa_cons (pv 10) pa_nil))) pa_nil)) (pe_callB (r := KG.rRepr K) (KG.call_repr gd hr) (by rfl) T.m_repr bt_repr (pa_cons (pe_call (ok__law_plus T) (hr.mono (by decide)) (by rfl) T.g__law_plus T.F__law_plus.kp T.b__law_plus .nil pass0 (pa_cons (pv 9) (pa_cons (pe_tup (pa_cons (pe_op op_sub pe_int (pe_ix (r := rIxT K) ix_tup (pv 10) pe_int (fun _ _ => rfl))) (pa_cons (pe_ix (r := rIxT K) ix_tup (pv 10) pe_int (fun _ _ => rfl)) pa_nil))) pa_nil))) pa_nil)) (nomark _)) (pss_one (ps_ret pe_bl)) pss_nil)
      (pss_cons (ps_if (pt_cmpR op_ne (pe_callB (r := KG.rRepr K) (KG.call_repr gd hr) (by rfl) T.m_repr bt_repr (pa_cons (pe_call (ok_multiplied T) (hr.mono (by decide)) (by rfl) T.g_multiplied T.F_multiplied.kp T.b_multiplied .nil pass0 (pa_cons (pv 9) (pa_cons (pv 10) pa_nil))) pa_nil)) (pe_callB (r := KG.rRepr K) (KG.call_repr gd hr) (by rfl) T.m_repr bt_repr (pa_cons (pe_call (ok__law_made T) (hr.mono (by decide)) (by rfl) T.g__law_made T.F__law_made.kp T.b__law_made .nil pass0 (pa_cons (pe_op op_mulW (pe_ix (r := rIxT K) ix_tup (pv 9) pe_int (fun _ _ => rfl)) (pe_ix (r := rIxT K) ix_tup (pv 10) pe_int (fun _ _ => rfl))) (pa_cons (pe_op op_mulW (pe_ix (r := rIxT K) ix_tup (pv 9) pe_int (fun _ _ => rfl)) (pe_ix (r := rIxT K) ix_tup (pv 10) pe_int (fun _ _ => rfl))) pa_nil))) pa_nil)) (nomark _)) (pss_one (ps_ret pe_bl)) pss_nil)
      (pss_one (ps_if (pt_not (pt_val (pe_call (ok__law_truth T) (hr.mono (by decide)) (by rfl) T.g__law_truth T.F__law_truth.kp T.b__law_truth .nil pass0 (pa_cons (pe_call (ok_is_less T) (hr.mono (by decide)) (by rfl) T.g_is_less T.F_is_less.kp T.b_is_less .nil pass0 (pa_cons (pv 9) (pa_cons (pv 10) pa_nil))) (pa_cons (pe_cmpR op_lt (pe_op op_sub (pe_op op_mulW (pe_ix (r := rIxT K) ix_tup (pv 9) pe_int (fun _ _ => rfl)) (pe_ix (r := rIxT K) ix_tup (pv 10) pe_int (fun _ _ => rfl))) (pe_op op_mulW (pe_ix (r := rIxT K) ix_tup (pv 10) pe_int (fun _ _ => rfl)) (pe_ix (r := rIxT K) ix_tup (pv 9) pe_int (fun _ _ => rfl)))) pe_int (nomark _)) pa_nil))))) (pss_one (ps_ret pe_bl)) pss_nil)))))))))))))
      (pss_one (ps_ret pe_bl))), ?_⟩
  refine ⟨_, rfl, a, _, rfl, .inl hS, _, _, rfl, _, _, rfl, ?_⟩
  generalize hM : (if (if (6 : Int) < ((ns.map V.int).length : Int) then (6 : Int) else ((ns.map V.int).length : Int)) > 1 then (if (6 : Int) < ((ns.map V.int).length : Int) then (6 : Int) else ((ns.map V.int).length : Int)) else (1 : Int)) = M
  have hM1 : 1 ≤ M ∧ M ≤ 6 := by
    rw [← hM]
    split <;> split <;> omega
  refine ⟨M, rfl, by omega, by omega, for_range (n := M.toNat) (fun i σ H' => ∃ y1 y2 y3 y4 y5 y6 y7 y8 y9 y10, σ = [some (.ref a), y1, y2, y3, y4, y5, y6, y7, y8, y9, y10] ∧ Same H H') ⟨_, _, _, _, _, _, _, _, _, _, rfl, Same.refl _⟩ ?_ ?_⟩
  · rintro i σ H1 hi ⟨y1, y2, y3, y4, y5, y6, y7, y8, y9, y10, rfl, s1⟩
    refine ⟨_, rfl, _, rfl, a, ns, i, by rw [Int.zero_add]; rfl, s1.seq hS, fun H2 b n s2 hb eb => ?_⟩
    refine ⟨Nat.zero_le _, fun L hL => ?_⟩
    have nLb : L ≠ b := (ne_of_none eb hL).symm
    have hb0 : H b = none := s1.free hb
    have hL0 : H L = none := (s1.trans s2).free hL
    refine ⟨3, rfl, by decide, by decide, for_range (n := 3) (fun j σ' H' => ∃ y4 y5 y6 y7 y8 y9 y10, ∃ (qs : List Addr) (n' : Int), σ' = [some (.ref a), some (.int (0 + (i : Nat))), some (.ref b), some (.ref L), y4, y5, y6, y7, y8, y9, y10] ∧
      H' L = some (.lst (qs.map V.ref)) ∧ qs.length = j ∧ (∀ x ∈ qs, FrAt H' x) ∧ H' b = some (.lst [.int n']) ∧ Same H H') ?_ ?_ ?_⟩
    · refine ⟨y4, y5, y6, y7, y8, y9, y10, [], n, rfl, upd_same, rfl, (fun x hx => nomatch hx), ?_, (s1.trans s2).trans (same_new hL)⟩
      rw [upd_ne nLb.symm]; exact eb
    · rintro j σ' H3 hj ⟨z4, z5, z6, z7, z8, z9, z10, qs, n3, rfl, eL, el, hq, eb3, s3⟩
      refine ⟨_, rfl, b, n3, rfl, eb3, fun H4 n4 v4 k4 e4 w4 => ⟨_, rfl, b, n4, rfl, e4, fun H5 n5 v5 k5 e5 w5 => ⟨v5, rfl, _, 1, rfl, rfl, _, _, rfl, ?_⟩⟩⟩
      refine ⟨_, rfl, b, n5, 12, rfl, e5, by decide, by decide, fun H6 n6 d6 k6 e6 w6 w7 => ⟨1, d6, rfl, rfl, ?_⟩⟩
      have kk : Kp b H3 H6 := k4.trans (k5.trans k6)
      have bt : (if v5 < 0 then -v5 else v5) = (v5.natAbs : Int) := abs_eq v5
      rw [bt]
      have t65 := p70 w4
      have b65 : ((v5.natAbs : Int) + 1).natAbs < 2 ^ 66 := Nat.lt_of_le_of_lt (show ((v5.natAbs : Int) + 1).natAbs ≤ 10 ^ 19 + 1 by omega) (by decide)
      have bpos : 0 < (v5.natAbs : Int) + 1 := by omega
      have yb : (1 + d6).natAbs < 2 ^ 5 := by rw [show (2 : Nat) ^ 5 = 32 by decide]; omega
      refine ⟨_, rfl, _, rfl, v4, 1 + d6, rfl, rfl, .inr ⟨by omega, by omega⟩, _, rfl, _, rfl, _, 1 + d6, rfl, rfl, .inr ⟨by omega, by omega⟩, v4 * (1 + d6), ((v5.natAbs : Int) + 1) * (1 + d6), rfl, Int.mul_pos bpos (by omega), ?_, fun H7 p s7 hp ep => ?_⟩
      · exact Nat.lt_of_lt_of_le (PySem.Flt.log2_lt_of (by decide) (sz_mul b65 yb)) (by decide)
      rw [low_mul bpos (by omega)] at ep
      have blog : ((v5.natAbs : Int) + 1).natAbs.log2 < 9000 := Nat.lt_of_lt_of_le (PySem.Flt.log2_lt_of (by decide) b65) (by decide)
      have sho := low_show (n := 66) (sz_le t65 (by decide)) b65 (by decide) (by decide)
      refine ⟨_, rfl, _, _, rfl, dp2 ep, sho, _, rfl, _, rfl, v4, _, rfl, bpos, blog, fun H8 p2 s8 hp2 ep2 => ⟨_, _, rfl, dp2 ep2, sho, rfl, _, rfl, iteNS rfl ?_⟩⟩
      have eL6 : H6 L = some (.lst (qs.map V.ref)) := kk L _ nLb eL
      have eL8 := s8 _ _ (s7 _ _ eL6)
      refine ⟨.ref L, rfl, .inl ⟨rfl, _, .inl (.inl eL8)⟩, _, rfl, L, _, _, rfl, rfl, eL8, ?_, ?_⟩
      · rw [List.length_map]; exact small1000 (by omega)
      have npL : p ≠ L := (ne_of_none eL6 hp).symm
      refine ⟨_, _, _, _, _, _, _, qs ++ [p], n6, rfl, ?_, ?_, ?_, ?_, ?_⟩
      · rw [upd_same, List.map_append]; rfl
      · rw [List.length_append, el]; rfl
      · intro x hx
        have hx8 : FrAt H8 x := by
          rcases List.mem_append.mp hx with hx | hx
          · exact (((hq x hx).off eb3 kk).mono s7).mono s8
          · rw [List.mem_singleton] at hx
            subst hx
            have lf := low_fr (t := v4) bpos
            exact ⟨_, _, s8 _ _ ep, lf.1, lf.2, Nat.lt_of_le_of_lt natAbs_div_le (sz_le t65 (by decide)), Nat.lt_of_le_of_lt natAbs_div_le (sz_le b65 (by decide))⟩
        obtain ⟨x1, x2, e', r'⟩ := hx8
        have nx : x ≠ L := ne_of e' eL8 (by intro z; cases z)
        exact ⟨x1, x2, by rw [upd_ne nx]; exact e', r'⟩
      · rw [upd_ne nLb.symm]
        exact s8 _ _ (s7 _ _ e6)
      · intro x o e
        rw [upd_ne (ne_of_none e hL0)]
        exact s8 _ _ (s7 _ _ (kk x o (ne_of_none e hb0) (s3 x o e)))
    · rintro σ' H3 ⟨z4, z5, z6, z7, z8, z9, z10, qs, n3, rfl, eL, el, hq, eb3, s3⟩
      refine ⟨_, rfl, sz2, fun t ht => ⟨sz1, fun l hl => ⟨L, l, _, _, rfl, rfl, same_new hl _ _ (same_new ht _ _ eL), upd_same, ?_, fun M9 hM9 => ?_⟩⟩⟩
      · rw [List.length_map, el]; show 3 + 1 ≤ sizeLine; decide
      have s39 : Same H3 (upd (upd (upd H3 t (.tup [.int 0, .int 1])) l (.lst [.ref t])) M9 (.lst (qs.map V.ref ++ [.ref t]))) := ((same_new ht).trans (same_new hl)).trans (same_new hM9)
      have et9 : (upd (upd (upd H3 t (.tup [.int 0, .int 1])) l (.lst [.ref t])) M9 (.lst (qs.map V.ref ++ [.ref t]))) t = some (.tup [.int 0, .int 1]) := same_new hM9 _ _ (same_new hl _ _ upd_same)
      have eM : (upd (upd (upd H3 t (.tup [.int 0, .int 1])) l (.lst [.ref t])) M9 (.lst (qs.map V.ref ++ [.ref t]))) M9 = some (.lst ((qs ++ [t]).map V.ref)) := by rw [upd_same, List.map_append]; rfl
      generalize hH9 : upd (upd (upd H3 t (.tup [.int 0, .int 1])) l (.lst [.ref t])) M9 (.lst (qs.map V.ref ++ [.ref t])) = H9 at s39 et9 eM ⊢
      have hall : ∀ z ∈ qs ++ [t], FrAt H9 z := fun z hz => by
        rcases List.mem_append.mp hz with hz | hz
        · exact (hq z hz).mono s39
        · rw [List.mem_singleton] at hz
          subst hz
          exact ⟨0, 1, et9, by decide, by decide, by decide, by decide⟩
      have eL9 := s39 _ _ eL
      refine ⟨M9, rfl, ⟨_, .inl (.inl eM)⟩, for_list (xs := (qs ++ [t]).map V.ref) (fun j σ' H' => ∃ y4 y5 y6 y7 y8 y9 y10, σ' = [some (.ref a), some (.int (0 + (i : Nat))), some (.ref b), some (.ref L), y4, y5, y6, y7, y8, y9, y10] ∧ Same H9 H') ⟨_, _, _, _, _, _, _, rfl, Same.refl _⟩ (fun j σ' H' _ h => ?_) ?_ ?_⟩
      · obtain ⟨_, _, _, _, _, _, _, _, s9⟩ := h
        exact .inl (.inl (s9 _ _ eM))
      · rintro j x σ' H10 hx ⟨x4, x5, x6, x7, x8, x9, x10, rfl, s10⟩
        rw [List.getElem?_map] at hx
        cases hz : (qs ++ [t])[j]? with
        | none => rw [hz] at hx; exact nomatch hx
        | some z1 =>
          rw [hz] at hx
          cases hx
          obtain ⟨fa, fb, e1, fb1, fg1, fsa, fsb⟩ := (hall z1 (List.mem_of_getElem? hz)).mono s10
          refine ⟨_, rfl, L, rfl, ⟨_, .inl (.inl (s10 _ _ eL9))⟩, for_list (xs := qs.map V.ref) (fun m σ' H' => ∃ y10, σ' = [some (.ref a), some (.int (0 + (i : Nat))), some (.ref b), some (.ref L), x4, x5, x6, x7, x8, some (.ref z1), y10] ∧ Same H10 H') ⟨_, rfl, Same.refl _⟩ (fun m σ' H' _ h => ?_) ?_ ?_⟩
          · obtain ⟨_, _, s11⟩ := h
            exact .inl (.inl (s11 _ _ (s10 _ _ eL9)))
          · rintro m x' σ'' H11 hx' ⟨x10', rfl, s11⟩
            rw [List.getElem?_map] at hx'
            cases hz2 : qs[m]? with
            | none => rw [hz2] at hx'; exact nomatch hx'
            | some z2 =>
              rw [hz2] at hx'
              cases hx'
              obtain ⟨fc, fd, e2, fd1, fg2, fsc, fsd⟩ := (((hq z2 (List.mem_of_getElem? hz2)).mono s39).mono s10).mono s11
              have e1 := s11 _ _ e1
              have F1 := fr_of fb1 fg1 fsa fsb
              have F2 := fr_of fd1 fg2 fsc fsd
              have zad : (fa * fd).natAbs < 2 ^ 140 := sz_mul fsa fsd
              have zcb : (fc * fb).natAbs < 2 ^ 140 := sz_mul fsc fsb
              have zbd : (fb * fd).natAbs < 2 ^ 141 := sz_le (sz_mul fsb fsd) (by decide)
              have zac : (fa * fc).natAbs < 2 ^ 141 := sz_le (sz_mul fsa fsc) (by decide)
              have shA := low_show (sz_add zad zcb) zbd (by decide) (by decide)
              have shS := low_show (sz_sub zad zcb) zbd (by decide) (by decide)
              have shM := low_show zac zbd (by decide) (by decide)
              have a1 := sz_le fsa (show 70 ≤ 4000 by decide)
              have b1 := sz_le fsb (show 70 ≤ 4000 by decide)
              have c1 := sz_le fsc (show 70 ≤ 4000 by decide)
              have d1 := sz_le fsd (show 70 ≤ 4000 by decide)
              -- together
              refine ⟨_, rfl, _, rfl, z1, z2, fa, fb, fc, fd, rfl, e1, e2, F1, F2, fun H12 r1 s12 hr1 er1 => ⟨_, _, rfl, dp2 er1, shA, _, rfl, _, rfl, z1, z2, fa, fb, fc, fd, rfl, s12 _ _ e1, s12 _ _ e2, fb1, fd1, a1, b1, c1, d1, fun H13 r2 s13 hr2 er2 => ⟨_, _, rfl, dp2 er2, shA, rfl, _, rfl, iteNS rfl ?_⟩⟩⟩
              have s1113 := s12.trans s13
              -- less
              have e1b := s1113 _ _ e1
              have e2b := s1113 _ _ e2
              refine ⟨_, rfl, _, rfl, z1, z2, fa, fb, fc, fd, rfl, e1b, e2b, F1, F2, fun H14 r3 s14 hr3 er3 => ⟨_, _, rfl, dp2 er3, shS, _, rfl, ?_⟩⟩
              have e1c := s14 _ _ e1b
              have e2c := s14 _ _ e2b
              refine ⟨_, rfl, z2, _, 0, .int fc, rfl, rfl, .inl (.inl e2c), rfl, 0, fc, rfl, rfl, _, rfl, z2, _, 1, .int fd, rfl, rfl, .inl (.inl e2c), rfl, sz2, fun t2 ht2 => ?_⟩
              have eneg : fa * fd + (0 - fc) * fb = fa * fd - fc * fb := by rw [Int.zero_sub, Int.neg_mul]; omega
              have c1' : (0 - fc).natAbs < 2 ^ 4000 := by rw [Int.zero_sub, Int.natAbs_neg]; exact c1
              refine ⟨z1, t2, fa, fb, 0 - fc, fd, rfl, same_new ht2 _ _ e1c, upd_same, fb1, fd1, a1, b1, c1', d1, ?_⟩
              rw [eneg]
              refine fun H15 r4 s15 hr4 er4 => ⟨_, _, rfl, dp2 er4, shS, rfl, _, rfl, iteNS rfl ?_⟩
              have s1415 : Same H14 H15 := (same_new ht2).trans s15
              have e1d := s1415 _ _ e1c
              have e2d := s1415 _ _ e2c
              -- times
              refine ⟨_, rfl, _, rfl, z1, z2, fa, fb, fc, fd, rfl, e1d, e2d, F1, F2, fun H16 r5 s16 hr5 er5 => ⟨_, _, rfl, dp2 er5, shM, ?_⟩⟩
              have e1e := s16 _ _ e1d
              have e2e := s16 _ _ e2d
              refine ⟨_, rfl, z1, _, 0, .int fa, rfl, rfl, .inl (.inl e1e), rfl, _, rfl, z2, _, 0, .int fc, rfl, rfl, .inl (.inl e2e), rfl, fa, fc, rfl, rfl, mulW a1 c1, _, rfl, z1, _, 1, .int fb, rfl, rfl, .inl (.inl e1e), rfl, _, rfl, z2, _, 1, .int fd, rfl, rfl, .inl (.inl e2e), rfl, fb, fd, rfl, rfl, mulW b1 d1, _, _, rfl, pos_prod fb1 fd1, log_prod b1 d1, fun H17 r6 s17 hr6 er6 => ⟨_, _, rfl, dp2 er6, shM, rfl, _, rfl, iteNS rfl ?_⟩⟩
              have e1f := s17 _ _ e1e
              have e2f := s17 _ _ e2e
              -- which is less
              refine ⟨_, rfl, _, rfl, z1, z2, fa, fb, fc, fd, rfl, e1f, e2f, F1, F2, _, rfl, z1, _, 0, .int fa, rfl, rfl, .inl (.inl e1f), rfl, _, rfl, z2, _, 1, .int fd, rfl, rfl, .inl (.inl e2f), rfl, fa, fd, rfl, rfl, mulW a1 d1, _, rfl, z2, _, 0, .int fc, rfl, rfl, .inl (.inl e2f), rfl, _, rfl, z1, _, 1, .int fb, rfl, rfl, .inl (.inl e1f), rfl, fc, fb, rfl, rfl, mulW c1 b1, _, _, rfl, rfl, _, 0, rfl, rfl, _, _, rfl, true, ?_, iteF ?_⟩
              · have e : decide (fa * fd < fc * fb) = decide (fa * fd - fc * fb < 0) := decide_eq_decide.mpr ⟨fun h => by omega, fun h => by omega⟩
                show V.bl (decide (decide (fa * fd < fc * fb) = decide (fa * fd - fc * fb < 0))) = V.bl true
                rw [e, decide_eq_true rfl]
              · exact ⟨_, rfl, (((s11.trans s1113).trans s14).trans s1415).trans (s16.trans s17)⟩
          · rintro σ'' H11 ⟨x10', rfl, s11⟩
            exact ⟨_, _, _, _, _, _, _, rfl, s10.trans s11⟩
      · rintro σ' H10 ⟨x4, x5, x6, x7, x8, x9, x10, rfl, s10⟩
        exact ⟨_, _, _, _, _, _, _, _, _, _, rfl, (s3.trans s39).trans s10⟩
  · rintro σ H1 _
    exact q _
end
end KGX

namespace KGX
open PySem PySem.Spec PyProof.Rows L2
theorem all_mk {l : PySem.W.OpenLaw} {w : World} {K : PySem.W.Frag} {h : Heap} {mg : Str → Option Value} {fa : Addr} (X : K.In h) (G : h.Ns mainGlobals mg) (hfa : mg "law" = some (.ref fa))
    {f0 : Addr} {od0 an0 : Option Addr} {sl0 : Array (Option Value)} {oc0 kV0 dc0 pm0 cd0 ct0 : Value} {f1 : Addr} {od1 an1 : Option Addr} {sl1 : Array (Option Value)} {oc1 kV1 dc1 pm1 cd1 ct1 : Value} {f2 : Addr} {od2 an2 : Option Addr} {sl2 : Array (Option Value)} {oc2 kV2 dc2 pm2 cd2 ct2 : Value} {f3 : Addr} {od3 an3 : Option Addr} {sl3 : Array (Option Value)} {oc3 kV3 dc3 pm3 cd3 ct3 : Value} {f4 : Addr} {od4 an4 : Option Addr} {sl4 : Array (Option Value)} {oc4 kV4 dc4 pm4 cd4 ct4 : Value} {f5 : Addr} {od5 an5 : Option Addr} {sl5 : Array (Option Value)} {oc5 kV5 dc5 pm5 cd5 ct5 : Value} {f6 : Addr} {od6 an6 : Option Addr} {sl6 : Array (Option Value)} {oc6 kV6 dc6 pm6 cd6 ct6 : Value} {f7 : Addr} {od7 an7 : Option Addr} {sl7 : Array (Option Value)} {oc7 kV7 dc7 pm7 cd7 ct7 : Value} {f8 : Addr} {od8 an8 : Option Addr} {sl8 : Array (Option Value)} {oc8 kV8 dc8 pm8 cd8 ct8 : Value} {f9 : Addr} {od9 an9 : Option Addr} {sl9 : Array (Option Value)} {oc9 kV9 dc9 pm9 cd9 ct9 : Value} {f10 : Addr} {od10 an10 : Option Addr} {sl10 : Array (Option Value)} {oc10 kV10 dc10 pm10 cd10 ct10 : Value} {f11 : Addr} {od11 an11 : Option Addr} {sl11 : Array (Option Value)} {oc11 kV11 dc11 pm11 cd11 ct11 : Value} {f12 : Addr} {od12 an12 : Option Addr} {sl12 : Array (Option Value)} {oc12 kV12 dc12 pm12 cd12 ct12 : Value} {f13 : Addr} {od13 an13 : Option Addr} {sl13 : Array (Option Value)} {oc13 kV13 dc13 pm13 cd13 ct13 : Value} {f14 : Addr} {od14 an14 : Option Addr} {sl14 : Array (Option Value)} {oc14 kV14 dc14 pm14 cd14 ct14 : Value} {f15 : Addr} {od15 an15 : Option Addr} {sl15 : Array (Option Value)} {oc15 kV15 dc15 pm15 cd15 ct15 : Value} {f16 : Addr} {od16 an16 : Option Addr} {sl16 : Array (Option Value)} {oc16 kV16 dc16 pm16 cd16 ct16 : Value} {f17 : Addr} {od17 an17 : Option Addr} {sl17 : Array (Option Value)} {oc17 kV17 dc17 pm17 cd17 ct17 : Value} {f18 : Addr} {od18 an18 : Option Addr} {sl18 : Array (Option Value)} {oc18 kV18 dc18 pm18 cd18 ct18 : Value}
    (a0 : PySem.W.nsIn K mainGlobals "is_whole" = some (some (.ref f0))) (l0 : K.lookup f0 = some ⟨oc0, od0, .func (PySem.W.fnOf "is_whole" "is_whole" (defArgs s_is_whole) (defBody s_is_whole) (defScope s_is_whole) .none kV0 dc0 pm0 an0 cd0 ct0), sl0⟩)
    (c0 : PySem.W.codeIn K cd0 "is_whole" = true) (k0 : PySem.W.keepIn K (.ref f0) = true)
    (a1 : PySem.W.nsIn K mainGlobals "greatest_divisor" = some (some (.ref f1))) (l1 : K.lookup f1 = some ⟨oc1, od1, .func (PySem.W.fnOf "greatest_divisor" "greatest_divisor" (defArgs s_greatest_divisor) (defBody s_greatest_divisor) (defScope s_greatest_divisor) .none kV1 dc1 pm1 an1 cd1 ct1), sl1⟩)
    (c1 : PySem.W.codeIn K cd1 "greatest_divisor" = true) (k1 : PySem.W.keepIn K (.ref f1) = true)
    (a2 : PySem.W.nsIn K mainGlobals "is_fraction" = some (some (.ref f2))) (l2 : K.lookup f2 = some ⟨oc2, od2, .func (PySem.W.fnOf "is_fraction" "is_fraction" (defArgs s_is_fraction) (defBody s_is_fraction) (defScope s_is_fraction) .none kV2 dc2 pm2 an2 cd2 ct2), sl2⟩)
    (c2 : PySem.W.codeIn K cd2 "is_fraction" = true) (k2 : PySem.W.keepIn K (.ref f2) = true)
    (a3 : PySem.W.nsIn K mainGlobals "lowest" = some (some (.ref f3))) (l3 : K.lookup f3 = some ⟨oc3, od3, .func (PySem.W.fnOf "lowest" "lowest" (defArgs s_lowest) (defBody s_lowest) (defScope s_lowest) .none kV3 dc3 pm3 an3 cd3 ct3), sl3⟩)
    (c3 : PySem.W.codeIn K cd3 "lowest" = true) (k3 : PySem.W.keepIn K (.ref f3) = true)
    (a4 : PySem.W.nsIn K mainGlobals "check_fractions" = some (some (.ref f4))) (l4 : K.lookup f4 = some ⟨oc4, od4, .func (PySem.W.fnOf "check_fractions" "check_fractions" (defArgs s_check_fractions) (defBody s_check_fractions) (defScope s_check_fractions) .none kV4 dc4 pm4 an4 cd4 ct4), sl4⟩)
    (c4 : PySem.W.codeIn K cd4 "check_fractions" = true) (k4 : PySem.W.keepIn K (.ref f4) = true)
    (a5 : PySem.W.nsIn K mainGlobals "added" = some (some (.ref f5))) (l5 : K.lookup f5 = some ⟨oc5, od5, .func (PySem.W.fnOf "added" "added" (defArgs s_added) (defBody s_added) (defScope s_added) .none kV5 dc5 pm5 an5 cd5 ct5), sl5⟩)
    (c5 : PySem.W.codeIn K cd5 "added" = true) (k5 : PySem.W.keepIn K (.ref f5) = true)
    (a6 : PySem.W.nsIn K mainGlobals "lessened" = some (some (.ref f6))) (l6 : K.lookup f6 = some ⟨oc6, od6, .func (PySem.W.fnOf "lessened" "lessened" (defArgs s_lessened) (defBody s_lessened) (defScope s_lessened) .none kV6 dc6 pm6 an6 cd6 ct6), sl6⟩)
    (c6 : PySem.W.codeIn K cd6 "lessened" = true) (k6 : PySem.W.keepIn K (.ref f6) = true)
    (a7 : PySem.W.nsIn K mainGlobals "multiplied" = some (some (.ref f7))) (l7 : K.lookup f7 = some ⟨oc7, od7, .func (PySem.W.fnOf "multiplied" "multiplied" (defArgs s_multiplied) (defBody s_multiplied) (defScope s_multiplied) .none kV7 dc7 pm7 an7 cd7 ct7), sl7⟩)
    (c7 : PySem.W.codeIn K cd7 "multiplied" = true) (k7 : PySem.W.keepIn K (.ref f7) = true)
    (a8 : PySem.W.nsIn K mainGlobals "is_less" = some (some (.ref f8))) (l8 : K.lookup f8 = some ⟨oc8, od8, .func (PySem.W.fnOf "is_less" "is_less" (defArgs s_is_less) (defBody s_is_less) (defScope s_is_less) .none kV8 dc8 pm8 an8 cd8 ct8), sl8⟩)
    (c8 : PySem.W.codeIn K cd8 "is_less" = true) (k8 : PySem.W.keepIn K (.ref f8) = true)
    (a9 : PySem.W.nsIn K mainGlobals "_law_cell" = some (some (.ref f9))) (l9 : K.lookup f9 = some ⟨oc9, od9, .func (PySem.W.fnOf "_law_cell" "_law_cell" (defArgs s__law_cell) (defBody s__law_cell) (defScope s__law_cell) .none kV9 dc9 pm9 an9 cd9 ct9), sl9⟩)
    (c9 : PySem.W.codeIn K cd9 "_law_cell" = true) (k9 : PySem.W.keepIn K (.ref f9) = true)
    (a10 : PySem.W.nsIn K mainGlobals "_law_mix" = some (some (.ref f10))) (l10 : K.lookup f10 = some ⟨oc10, od10, .func (PySem.W.fnOf "_law_mix" "_law_mix" (defArgs s__law_mix) (defBody s__law_mix) (defScope s__law_mix) .none kV10 dc10 pm10 an10 cd10 ct10), sl10⟩)
    (c10 : PySem.W.codeIn K cd10 "_law_mix" = true) (k10 : PySem.W.keepIn K (.ref f10) = true)
    (a11 : PySem.W.nsIn K mainGlobals "_law_box" = some (some (.ref f11))) (l11 : K.lookup f11 = some ⟨oc11, od11, .func (PySem.W.fnOf "_law_box" "_law_box" (defArgs s__law_box) (defBody s__law_box) (defScope s__law_box) .none kV11 dc11 pm11 an11 cd11 ct11), sl11⟩)
    (c11 : PySem.W.codeIn K cd11 "_law_box" = true) (k11 : PySem.W.keepIn K (.ref f11) = true)
    (a12 : PySem.W.nsIn K mainGlobals "_law_take" = some (some (.ref f12))) (l12 : K.lookup f12 = some ⟨oc12, od12, .func (PySem.W.fnOf "_law_take" "_law_take" (defArgs s__law_take) (defBody s__law_take) (defScope s__law_take) .none kV12 dc12 pm12 an12 cd12 ct12), sl12⟩)
    (c12 : PySem.W.codeIn K cd12 "_law_take" = true) (k12 : PySem.W.keepIn K (.ref f12) = true)
    (a13 : PySem.W.nsIn K mainGlobals "_law_truth" = some (some (.ref f13))) (l13 : K.lookup f13 = some ⟨oc13, od13, .func (PySem.W.fnOf "_law_truth" "_law_truth" (defArgs s__law_truth) (defBody s__law_truth) (defScope s__law_truth) .none kV13 dc13 pm13 an13 cd13 ct13), sl13⟩)
    (c13 : PySem.W.codeIn K cd13 "_law_truth" = true) (k13 : PySem.W.keepIn K (.ref f13) = true)
    (a14 : PySem.W.nsIn K mainGlobals "_law_common" = some (some (.ref f14))) (l14 : K.lookup f14 = some ⟨oc14, od14, .func (PySem.W.fnOf "_law_common" "_law_common" (defArgs s__law_common) (defBody s__law_common) (defScope s__law_common) .none kV14 dc14 pm14 an14 cd14 ct14), sl14⟩)
    (c14 : PySem.W.codeIn K cd14 "_law_common" = true) (k14 : PySem.W.keepIn K (.ref f14) = true)
    (a15 : PySem.W.nsIn K mainGlobals "_law_made" = some (some (.ref f15))) (l15 : K.lookup f15 = some ⟨oc15, od15, .func (PySem.W.fnOf "_law_made" "_law_made" (defArgs s__law_made) (defBody s__law_made) (defScope s__law_made) .none kV15 dc15 pm15 an15 cd15 ct15), sl15⟩)
    (c15 : PySem.W.codeIn K cd15 "_law_made" = true) (k15 : PySem.W.keepIn K (.ref f15) = true)
    (a16 : PySem.W.nsIn K mainGlobals "_law_plus" = some (some (.ref f16))) (l16 : K.lookup f16 = some ⟨oc16, od16, .func (PySem.W.fnOf "_law_plus" "_law_plus" (defArgs s__law_plus) (defBody s__law_plus) (defScope s__law_plus) .none kV16 dc16 pm16 an16 cd16 ct16), sl16⟩)
    (c16 : PySem.W.codeIn K cd16 "_law_plus" = true) (k16 : PySem.W.keepIn K (.ref f16) = true)
    (a17 : PySem.W.nsIn K mainGlobals "_law_drawn_number" = some (some (.ref f17))) (l17 : K.lookup f17 = some ⟨oc17, od17, .func (PySem.W.fnOf "_law_drawn_number" "_law_drawn_number" (defArgs s__law_drawn_number) (defBody s__law_drawn_number) (defScope s__law_drawn_number) .none kV17 dc17 pm17 an17 cd17 ct17), sl17⟩)
    (c17 : PySem.W.codeIn K cd17 "_law_drawn_number" = true) (k17 : PySem.W.keepIn K (.ref f17) = true)
    (a18 : PySem.W.nsIn K mainGlobals "law" = some (some (.ref f18))) (l18 : K.lookup f18 = some ⟨oc18, od18, .func (PySem.W.fnOf "law" "law" (defArgs s_law) (defBody s_law) (defScope s_law) .none kV18 dc18 pm18 an18 cd18 ct18), sl18⟩)
    (c18 : PySem.W.codeIn K cd18 "law" = true) (k18 : PySem.W.keepIn K (.ref f18) = true)
    (z_isinstance : PySem.W.nsIn K mainGlobals "isinstance" = some none)
    (z_int : PySem.W.nsIn K mainGlobals "int" = some none)
    (z_bool : PySem.W.nsIn K mainGlobals "bool" = some none)
    (z_abs : PySem.W.nsIn K mainGlobals "abs" = some none)
    (z_tuple : PySem.W.nsIn K mainGlobals "tuple" = some none)
    (z_len : PySem.W.nsIn K mainGlobals "len" = some none)
    (z_range : PySem.W.nsIn K mainGlobals "range" = some none)
    (z_divmod : PySem.W.nsIn K mainGlobals "divmod" = some none)
    (z_max : PySem.W.nsIn K mainGlobals "max" = some none)
    (z_min : PySem.W.nsIn K mainGlobals "min" = some none)
    (z_repr : PySem.W.nsIn K mainGlobals "repr" = some none) :
    ∃ fd : FuncData, (∀ (s : Shared) (v : Value), BindsTo s fd ⟨[v], []⟩ [("_law_script", v)]) ∧ ∀ base : Heap, K.In base → base.Ns mainGlobals mg → KG.FnG l.prog w K mg base 5 fa fd ["_law_script"] (sp_law K) := by
  have T : ∃ T : Tx K mg, T.a_law = f18 ∧ T.d_law = PySem.W.fnOf "law" "law" (defArgs s_law) (defBody s_law) (defScope s_law) .none kV18 dc18 pm18 an18 cd18 ct18 := ⟨{
    a_is_whole := f0, d_is_whole := _, F_is_whole := fun_mk (st := s_is_whole) l0 c0 k0, g_is_whole := PySem.W.mg_of X G a0, b_is_whole := (fun_mk (st := s_is_whole) l0 c0 k0).binds (ps := ["thing"]) fun _ _ _ _ _ _ us hl => match us, hl with | [_], _ => rfl,
    a_greatest_divisor := f1, d_greatest_divisor := _, F_greatest_divisor := fun_mk (st := s_greatest_divisor) l1 c1 k1, g_greatest_divisor := PySem.W.mg_of X G a1, b_greatest_divisor := (fun_mk (st := s_greatest_divisor) l1 c1 k1).binds (ps := ["top", "bottom"]) fun _ _ _ _ _ _ us hl => match us, hl with | [_, _], _ => rfl,
    a_is_fraction := f2, d_is_fraction := _, F_is_fraction := fun_mk (st := s_is_fraction) l2 c2 k2, g_is_fraction := PySem.W.mg_of X G a2, b_is_fraction := (fun_mk (st := s_is_fraction) l2 c2 k2).binds (ps := ["thing"]) fun _ _ _ _ _ _ us hl => match us, hl with | [_], _ => rfl,
    a_lowest := f3, d_lowest := _, F_lowest := fun_mk (st := s_lowest) l3 c3 k3, g_lowest := PySem.W.mg_of X G a3, b_lowest := (fun_mk (st := s_lowest) l3 c3 k3).binds (ps := ["top", "bottom"]) fun _ _ _ _ _ _ us hl => match us, hl with | [_, _], _ => rfl,
    a_check_fractions := f4, d_check_fractions := _, F_check_fractions := fun_mk (st := s_check_fractions) l4 c4 k4, g_check_fractions := PySem.W.mg_of X G a4, b_check_fractions := (fun_mk (st := s_check_fractions) l4 c4 k4).binds (ps := ["one", "other"]) fun _ _ _ _ _ _ us hl => match us, hl with | [_, _], _ => rfl,
    a_added := f5, d_added := _, F_added := fun_mk (st := s_added) l5 c5 k5, g_added := PySem.W.mg_of X G a5, b_added := (fun_mk (st := s_added) l5 c5 k5).binds (ps := ["one", "other"]) fun _ _ _ _ _ _ us hl => match us, hl with | [_, _], _ => rfl,
    a_lessened := f6, d_lessened := _, F_lessened := fun_mk (st := s_lessened) l6 c6 k6, g_lessened := PySem.W.mg_of X G a6, b_lessened := (fun_mk (st := s_lessened) l6 c6 k6).binds (ps := ["one", "other"]) fun _ _ _ _ _ _ us hl => match us, hl with | [_, _], _ => rfl,
    a_multiplied := f7, d_multiplied := _, F_multiplied := fun_mk (st := s_multiplied) l7 c7 k7, g_multiplied := PySem.W.mg_of X G a7, b_multiplied := (fun_mk (st := s_multiplied) l7 c7 k7).binds (ps := ["one", "other"]) fun _ _ _ _ _ _ us hl => match us, hl with | [_, _], _ => rfl,
    a_is_less := f8, d_is_less := _, F_is_less := fun_mk (st := s_is_less) l8 c8 k8, g_is_less := PySem.W.mg_of X G a8, b_is_less := (fun_mk (st := s_is_less) l8 c8 k8).binds (ps := ["one", "other"]) fun _ _ _ _ _ _ us hl => match us, hl with | [_, _], _ => rfl,
    a__law_cell := f9, d__law_cell := _, F__law_cell := fun_mk (st := s__law_cell) l9 c9 k9, g__law_cell := PySem.W.mg_of X G a9, b__law_cell := (fun_mk (st := s__law_cell) l9 c9 k9).binds (ps := ["_law_script", "_law_k"]) fun _ _ _ _ _ _ us hl => match us, hl with | [_, _], _ => rfl,
    a__law_mix := f10, d__law_mix := _, F__law_mix := fun_mk (st := s__law_mix) l10 c10 k10, g__law_mix := PySem.W.mg_of X G a10, b__law_mix := (fun_mk (st := s__law_mix) l10 c10 k10).binds (ps := ["_law_cell_here", "_law_k"]) fun _ _ _ _ _ _ us hl => match us, hl with | [_, _], _ => rfl,
    a__law_box := f11, d__law_box := _, F__law_box := fun_mk (st := s__law_box) l11 c11 k11, g__law_box := PySem.W.mg_of X G a11, b__law_box := (fun_mk (st := s__law_box) l11 c11 k11).binds (ps := ["_law_script", "_law_k"]) fun _ _ _ _ _ _ us hl => match us, hl with | [_, _], _ => rfl,
    a__law_take := f12, d__law_take := _, F__law_take := fun_mk (st := s__law_take) l12 c12 k12, g__law_take := PySem.W.mg_of X G a12, b__law_take := (fun_mk (st := s__law_take) l12 c12 k12).binds (ps := ["_law_box_here", "_law_many"]) fun _ _ _ _ _ _ us hl => match us, hl with | [_, _], _ => rfl,
    a__law_truth := f13, d__law_truth := _, F__law_truth := fun_mk (st := s__law_truth) l13 c13 k13, g__law_truth := PySem.W.mg_of X G a13, b__law_truth := (fun_mk (st := s__law_truth) l13 c13 k13).binds (ps := ["_law_found", "_law_due"]) fun _ _ _ _ _ _ us hl => match us, hl with | [_, _], _ => rfl,
    a__law_common := f14, d__law_common := _, F__law_common := fun_mk (st := s__law_common) l14 c14 k14, g__law_common := PySem.W.mg_of X G a14, b__law_common := (fun_mk (st := s__law_common) l14 c14 k14).binds (ps := ["_law_one", "_law_other"]) fun _ _ _ _ _ _ us hl => match us, hl with | [_, _], _ => rfl,
    a__law_made := f15, d__law_made := _, F__law_made := fun_mk (st := s__law_made) l15 c15 k15, g__law_made := PySem.W.mg_of X G a15, b__law_made := (fun_mk (st := s__law_made) l15 c15 k15).binds (ps := ["_law_top", "_law_bottom"]) fun _ _ _ _ _ _ us hl => match us, hl with | [_, _], _ => rfl,
    a__law_plus := f16, d__law_plus := _, F__law_plus := fun_mk (st := s__law_plus) l16 c16 k16, g__law_plus := PySem.W.mg_of X G a16, b__law_plus := (fun_mk (st := s__law_plus) l16 c16 k16).binds (ps := ["_law_one", "_law_other"]) fun _ _ _ _ _ _ us hl => match us, hl with | [_, _], _ => rfl,
    a__law_drawn_number := f17, d__law_drawn_number := _, F__law_drawn_number := fun_mk (st := s__law_drawn_number) l17 c17 k17, g__law_drawn_number := PySem.W.mg_of X G a17, b__law_drawn_number := (fun_mk (st := s__law_drawn_number) l17 c17 k17).binds (ps := ["_law_box_here"]) fun _ _ _ _ _ _ us hl => match us, hl with | [_], _ => rfl,
    a_law := f18, d_law := _, F_law := fun_mk (st := s_law) l18 c18 k18, g_law := PySem.W.mg_of X G a18, b_law := (fun_mk (st := s_law) l18 c18 k18).binds (ps := ["_law_script"]) fun _ _ _ _ _ _ us hl => match us, hl with | [_], _ => rfl,
    m_isinstance := PySem.W.mg_none_of X G z_isinstance,
    m_int := PySem.W.mg_none_of X G z_int,
    m_bool := PySem.W.mg_none_of X G z_bool,
    m_abs := PySem.W.mg_none_of X G z_abs,
    m_tuple := PySem.W.mg_none_of X G z_tuple,
    m_len := PySem.W.mg_none_of X G z_len,
    m_range := PySem.W.mg_none_of X G z_range,
    m_divmod := PySem.W.mg_none_of X G z_divmod,
    m_max := PySem.W.mg_none_of X G z_max,
    m_min := PySem.W.mg_none_of X G z_min,
    m_repr := PySem.W.mg_none_of X G z_repr }, rfl, rfl⟩
  obtain ⟨T, e1, e2⟩ := T
  have e := hfa.symm.trans (PySem.W.mg_of X G a18)
  cases e
  have ok : ∀ base : Heap, KG.FnG l.prog w K mg base 5 T.a_law T.d_law ["_law_script"] (sp_law K) := fun base => ok_law T
  rw [e1, e2] at ok
  exact ⟨_, fun s v => .of_eq rfl, fun base _ _ => ok base⟩
end KGX
open PySem PySem.W PyProof.Rows
set_option maxRecDepth 100000 in
set_option maxHeartbeats 0 in
theorem PySem.Challenge.cw_kindsgathered_k02_fractions_reckoned_holds : PySem.Challenge.rw_kindsgathered_k02_fractions_reckoned.Holds := by
  w_on; o_law; k_head; (case hw => w_witness2)
  k_fill
  refine KG.walkG (l := PySem.Challenge.rw_kindsgathered_k02_fractions_reckoned) (n := 63) (k := 5) (x := "_law_script") (sp := KGX.sp_law) rfl (by decide) rfl ⟨rfl, by decide, by decide⟩ (fun w h Y => PySem.W.kIn_of Y) ?F KGX.start_law
  case F =>
    intro w mg fa h KX G hmg
    refine' KGX.all_mk KX G hmg ?a0 ?l0 ?c0 ?k0 ?a1 ?l1 ?c1 ?k1 ?a2 ?l2 ?c2 ?k2 ?a3 ?l3 ?c3 ?k3 ?a4 ?l4 ?c4 ?k4 ?a5 ?l5 ?c5 ?k5 ?a6 ?l6 ?c6 ?k6 ?a7 ?l7 ?c7 ?k7 ?a8 ?l8 ?c8 ?k8 ?a9 ?l9 ?c9 ?k9 ?a10 ?l10 ?c10 ?k10 ?a11 ?l11 ?c11 ?k11 ?a12 ?l12 ?c12 ?k12 ?a13 ?l13 ?c13 ?k13 ?a14 ?l14 ?c14 ?k14 ?a15 ?l15 ?c15 ?k15 ?a16 ?l16 ?c16 ?k16 ?a17 ?l17 ?c17 ?k17 ?a18 ?l18 ?c18 ?k18 ?z_isinstance ?z_int ?z_bool ?z_abs ?z_tuple ?z_len ?z_range ?z_divmod ?z_max ?z_min ?z_repr
    (case a0 => k_is)
    (case l0 => k_is)
    (case c0 => k_is)
    (case k0 => k_is)
    (case a1 => k_is)
    (case l1 => k_is)
    (case c1 => k_is)
    (case k1 => k_is)
    (case a2 => k_is)
    (case l2 => k_is)
    (case c2 => k_is)
    (case k2 => k_is)
    (case a3 => k_is)
    (case l3 => k_is)
    (case c3 => k_is)
    (case k3 => k_is)
    (case a4 => k_is)
    (case l4 => k_is)
    (case c4 => k_is)
    (case k4 => k_is)
    (case a5 => k_is)
    (case l5 => k_is)
    (case c5 => k_is)
    (case k5 => k_is)
    (case a6 => k_is)
    (case l6 => k_is)
    (case c6 => k_is)
    (case k6 => k_is)
    (case a7 => k_is)
    (case l7 => k_is)
    (case c7 => k_is)
    (case k7 => k_is)
    (case a8 => k_is)
    (case l8 => k_is)
    (case c8 => k_is)
    (case k8 => k_is)
    (case a9 => k_is)
    (case l9 => k_is)
    (case c9 => k_is)
    (case k9 => k_is)
    (case a10 => k_is)
    (case l10 => k_is)
    (case c10 => k_is)
    (case k10 => k_is)
    (case a11 => k_is)
    (case l11 => k_is)
    (case c11 => k_is)
    (case k11 => k_is)
    (case a12 => k_is)
    (case l12 => k_is)
    (case c12 => k_is)
    (case k12 => k_is)
    (case a13 => k_is)
    (case l13 => k_is)
    (case c13 => k_is)
    (case k13 => k_is)
    (case a14 => k_is)
    (case l14 => k_is)
    (case c14 => k_is)
    (case k14 => k_is)
    (case a15 => k_is)
    (case l15 => k_is)
    (case c15 => k_is)
    (case k15 => k_is)
    (case a16 => k_is)
    (case l16 => k_is)
    (case c16 => k_is)
    (case k16 => k_is)
    (case a17 => k_is)
    (case l17 => k_is)
    (case c17 => k_is)
    (case k17 => k_is)
    (case a18 => k_is)
    (case l18 => k_is)
    (case c18 => k_is)
    (case k18 => k_is)
    (case z_isinstance => k_is)
    (case z_int => k_is)
    (case z_bool => k_is)
    (case z_abs => k_is)
    (case z_tuple => k_is)
    (case z_len => k_is)
    (case z_range => k_is)
    (case z_divmod => k_is)
    (case z_max => k_is)
    (case z_min => k_is)
    (case z_repr => k_is)
