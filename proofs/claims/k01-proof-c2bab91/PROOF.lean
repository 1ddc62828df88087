import PyProof.Rows.All
import Wide.All
import OpenK.AllK
import Wide.FinOn
import HandS.ForMost
import HandS.Wide
import HandS.WideBits
import HandS.IsInst
import HandS.TupMul
import HandS.TupAny
import HandS.Conv
import HandS.Zip
import HandS.Walk
import HandS.Evl
import KE.KTupSum
import PyProof.ReprRoads
import PyProof.ReprLen
import KE.KDictDisplayH
import HandS.DictTup
import HandS.NoneIn
import HandS.Style
import PySem.Challenge.RW_kindsgathered_k01_shares_and_fractions_k
set_option Elab.async false
set_option linter.all false
set_option maxRecDepth 100000
set_option maxHeartbeats 4000000
namespace KG
open PySem PySem.Spec PyProof.Rows L2

/-! ### defs that run where nothing is being shown -/
structure FnG (P : Program) (w : World) (K : PySem.W.Frag) (mg : Str → Option Value) (base : Heap) (k : Nat) (f : Addr) (fd : FuncData) (ps : List Str) (sp : Sp) : Prop where
  len : ∀ vs H Q E, sp vs H Q E → vs.length = ps.length
  run : ∀ (A : Around) (outer : List Env) (s : Shared) (H : Hp) (args : Args) (us : List Value) (vs : List V) (Q : VK) (E : XK), A.guards = some [] →
    Room k A → Env0 P w K mg base A outer s H → BindsTo s fd args (ps.zip us) → Vals vs us → sp vs H Q E → codeAny (model P w) A (.call (.ref f) args) (CR CX0 outer P w H s Q E) s

section
variable {P : Program} {w : World} {K : PySem.W.Frag} {mg : Str → Option Value} {base : Heap}
theorem okG {x qual : Str} {st : Stmt} {f : Addr} {fd : FuncData} {N ps : List Str} {k : Nat} {sp : Sp} (F : Fun K x qual st f fd) (S : FnScope N ps (defScope st))
    (len : ∀ vs H Q E, sp vs H Q E → vs.length = ps.length)
    (hb : ∀ (cdv : Value) (A : Around) (outer : List Env) (s : Shared) (H : Hp) (vs : List V) (Q : VK) (E : XK), A.guards = some [] →
      Room k (A.deeper (envOfC qual (defScope st) s.heap.objs.size f cdv)) → sp vs H Q E →
      ∃ t, PSs (cxOf CX0 P w K mg base N qual (defScope st) f cdv A outer s H E).nox (defBody st) t ∧ t { nx := fun _ H' => Q .non H', rt := Q } (start N vs) H) :
    FnG P w K mg base (k + 1) f fd ps sp := by
  obtain ⟨oc, od, kV, doc, pm, an, cdv, ct, osl, rfl, lk, hcd⟩ := F.ex
  refine ⟨len, ?_⟩
  intro A outer s H args us vs Q E hg hr e0 hbi r hsp
  -- the same as the layer's own rule, at this around alone
  have T : FnOk P w K mg base CX0 (k + 1) f (PySem.W.fnOf x qual (defArgs st) (defBody st) (defScope st) .none kV doc pm an cdv ct) ps sp ∨ True := .inr trivial
  clear T
  have hl := len _ _ _ _ hsp
  have keep : ∀ b o, base.get? b = some o → s.heap.get? b = some o := fun b o e => (e0.bs b o e).1
  have KX := e0.mod.kin.keeps keep
  have lim := e0.mod.nolimit.keeps keep
  obtain ⟨t, ht, hq⟩ := hb cdv A outer s H vs Q E hg (hr.deeper _) hsp
  have hkind : ∀ y ∈ ps.zip us, (defScope st).names.lookup y.1 = some .local ∨
      ((defScope st).names.lookup y.1 = some .cell ∧ ((cellsFrom (s.heap.objs.size + 1) (defScope st).names []).lookup y.1).isSome = true) := by
    rintro ⟨n, v⟩ hy
    cases S.par n (List.of_mem_zip hy).1 with
    | inl q => exact .inl q
    | inr q => exact .inr ⟨q, PySem.W.cellsFrom_some _ _ _ (.inl q)⟩
  refine codeAny_call_function hr.depth (KX _ _ lk) rfl S.co S.gen rfl (PySem.W.codeRec_of KX hcd) (hbi _ _ _ _ (wpAny_newFunctionEnv_cells S.kind hkind ?_))
  rintro env rfl s1 x1
  refine ⟨lim.keeps x1.toInCall.keep, codeAny_func ?_⟩
  have I : Inv (cxOf CX0 P w K mg base N qual (defScope st) f cdv A outer s H E) [] (start N vs) H s1 := inv_start S hr.hd e0 hl r x1
  refine wpAny_mono (ht.nox.run [] s1 (start N vs) H _ I hq) ?_ fun _ _ z => z
  intro fl s' hs
  match fl, hs with
  | .ret u, ⟨v, σ', H', J, rv, q⟩ => exact ⟨v, H', J.os, J.bare, J.base, J.hok, rv, q⟩
  | .next, ⟨σ', H', J, q⟩ => exact ⟨V.non, H', J.os, J.bare, J.base, J.hok, (show Value.none = Value.none from rfl), q⟩
  | .brk, ⟨_, _, _, q⟩ => exact q.elim
  | .cont, ⟨_, _, _, q⟩ => exact q.elim
/-- a def that asks for nothing of the kind -/
theorem FnG.of {f : Addr} {fd : FuncData} {ps : List Str} {k : Nat} {sp : Sp} (F : FnOk P w K mg base CX0 k f fd ps sp) : FnG P w K mg base k f fd ps sp :=
  ⟨F.len, fun A outer s H args us vs Q E _ hr e hb r h => F.run A outer s H args us vs Q E hr e hb r h⟩
end
section
variable {X : Cx} {f : Addr} {fd : FuncData} {ps : List Str} {k : Nat} {sp : Sp} {x : Str} {p pos : Pos} {e : Expr} {es : List Expr} {t : TA} {ds : List Value} {dvs : List V} {E : XK}
theorem pe_callG (F : FnG X.prog X.w X.K X.mg X.base k f fd ps sp) (gd : X.A.guards = some []) (hr : Room k X.A) (hg : Gl X x) (hm : X.mg x = some (.ref f)) (hk : PySem.W.keepIn X.K (.ref f) = true) (hb : Binds X.K fd ps ds)
    (hd : Vals dvs ds) (ha : PA X (e :: es) t) (hdb : (x == ("__debug__" : Str)) = false := by decide) (he : starEach (e :: es) X.env = (false, eval e X.env) :: starEach es X.env := by rfl)
    (hpl : (backTo pos (starEach es X.env)).any (·.1) = false := by rfl) : PE X (.Call (.Name x p) (e :: es) [] pos) (tCall sp dvs E0 t) := by
  constructor
  intro pins s σ H Q I h
  refine wpAny_Call_Name_kw (ld_glob I hg hm (PySem.W.callWith_K (h₀ := X.base) I.ok.mod.kin hk (thn (ha.run pos pins s σ H _ I h) ?_) he hpl) hdb)
  rintro us s1 ⟨vs, H1, I1, r, q⟩
  refine ⟨I1.kIn, ?_⟩
  have r2 : Vals (vs ++ dvs) (us ++ ds) := r.append hd
  have hl : (us ++ ds).length = ps.length := r2.length ▸ F.len _ _ _ _ q
  refine wpAny_call (codeAny_mono (F.run X.A X.stack s1 H1 ⟨us, []⟩ (us ++ ds) (vs ++ dvs) Q E0 gd hr I1.env0 (hb s1 us I1.kIn hl) r2 q) ?_)
  intro r s' hq
  match r, hq with
  | .ok (.ret u), hq => exact I1.after hq
/-- data that can be shown -/
def ShowOk (d : PyData) : Prop := d.showable = true ∧ d.hasDict = false ∧ d.depth ≤ 20 ∧ d.shown.length ≤ sizeLine
/-- repr of data: its text -/
def rRepr (K : PySem.W.Frag) : List V → Hp → VK → Prop := fun xs H Q => ∃ x d, xs = [x] ∧ Dp K H x d ∧ ShowOk d ∧ Q (.str d.shown) H
theorem call_repr {k : Nat} (gd : X.A.guards = some []) (hr : Room k X.A) : CallR X (.builtin "repr") (rRepr X.K) := by
  intro pins s σ H xs us Q I r h
  obtain ⟨x, d, rfl, hd, ⟨hs, hn, hz, hl⟩, q⟩ := h
  obtain ⟨u, rfl, ru⟩ := vals1 r
  have un := hr.un
  cases hd with
  | non => cases (show u = Value.none from ru); exact PySem.P.repr_of_none ⟨.str _, H, I.tok _, ⟨_, rfl⟩, q⟩
  | bl b => cases (show u = Value.bool b from ru); exact PySem.P.repr_of_bool ⟨.str _, H, I.tok _, ⟨_, rfl⟩, q⟩
  | int i => obtain ⟨t, rfl⟩ := (show ∃ t, u = Value.int i t from ru); exact PySem.P.repr_of_int (of_decide_eq_true hs) ⟨.str _, H, I.tok _, ⟨_, rfl⟩, q⟩
  | str y => obtain ⟨t, rfl⟩ := (show ∃ t, u = Value.str y t from ru); exact PySem.P.repr_of_str ⟨.str _, H, I.tok _, ⟨_, rfl⟩, q⟩ hl
  | @lst a ys ds h1 h2 =>
    cases (show u = Value.ref a from ru)
    obtain ⟨as, rd⟩ := Dp.reads I _ (.ref a) (.ref a) (.lst h1 h2) rfl
    exact repr_of_reads' rd hs (PyData.noDict_hsm hn) gd (by omega) (fun _ _ z => z) (fun h' u tk hk => ⟨.str _, H, I.kept hk, ⟨_, rfl⟩, q⟩) hl
  | @tup a ys ds h1 h2 =>
    cases (show u = Value.ref a from ru)
    obtain ⟨as, rd⟩ := Dp.reads I _ (.ref a) (.ref a) (.tup h1 h2) rfl
    exact repr_of_reads' rd hs (PyData.noDict_hsm hn) gd (by omega) (fun _ _ z => z) (fun h' u tk hk => ⟨.str _, H, I.kept hk, ⟨_, rfl⟩, q⟩) hl
/-- sum of a list or a tuple of ints -/
def rSum2 (K : PySem.W.Frag) : List V → Hp → VK → Prop := fun vs H Q => ∃ (a : Addr) (ns : List Int), vs = [V.ref a] ∧ (SqL K H a (ns.map V.int) ∨ SqT K H a (ns.map V.int)) ∧ Q (.int ns.sum) H
theorem call_sum (hc : X.calm = true) : CallR X (.builtin "sum") (rSum2 X.K) := by
  intro pins s σ H vs us Q I r h
  obtain ⟨a, ns, rfl, hs | hs, q⟩ := h
  · exact cr_sum hc pins s σ H _ us Q I r ⟨a, ns, rfl, hs, q⟩
  · obtain ⟨its, rv, ht, _⟩ := I.tuple hs
    rw [Vals.ref1 r]
    obtain ⟨ys, e⟩ := rv.ints.allInts.items
    have hn : numsOf (intItems ys).toList = ns := by rw [← e]; exact rv.ints.numsOf
    rw [nums_intItems] at hn
    rw [e] at ht
    refine PySem.W.ktm_sumG (I.ok.hd hc) ht fun h' tk t' hk => ?_
    rw [preSum_eq, List.take_of_length_le (by simp), hn]
    exact ⟨.int _, H, I.kept hk, ⟨_, rfl⟩, q⟩
end
end KG

namespace KG
open PySem PySem.Spec PyProof.Rows L2
/-! ### the end of a law whose defs run where nothing is being shown -/
section
variable {P : Program} {w : World} {K : PySem.W.Frag} {mg mb : Str → Option Value} {k : Nat} {fa a : Addr} {fd : FuncData} {x : Str} {sp : Sp} {s₁ : Shared} {vs : List Value} {ns : List Int}
/-- what is asked of the call's end -/
def EndT (s₁ : Shared) : Result → Shared → Prop := fun r s' => r = .ok (.ret (.bool true)) ∧ OldK s₁.heap s'.heap ∧ s'.os = s₁.os ∧ AllBare s'.gens
/-- from an abstract heap that tracks nothing but the script, locked -/
theorem endG_from {H : Hp} (KX : K.In s₁.heap) (hns : s₁.heap.Ns mainGlobals mg) (hb : s₁.heap.Ns builtinsNs mb) (hbb : ∀ y : Str, y ≠ "__name__" → mb y = bootBuiltins y) (hlim : s₁.heap.NoLimit) (hg : s₁.gens = #[])
    (ha : ∃ its n, s₁.heap.get? a = some { cls := .type "list", data := .seq its n }) (hr : Room k callerA)
    (F : ∀ base : Heap, K.In base → base.Ns mainGlobals mg → FnG P w K mg base k fa fd [x] sp) (hbind : ∀ (s : Shared) (u : Value), BindsTo s fd ⟨[u], []⟩ [(x, u)])
    (hO : Only H) (hok : HOk P w H s₁.heap) (hA : ∀ b, H b ≠ none → b = a) (hK : H a ≠ none → K.lookup a = none)
    (hsp : sp [.ref a] H (fun v _ => v = .bl true) fun _ _ _ => False) : codeAny (model P w) callerA (.call (.ref fa) ⟨[.ref a], []⟩) (EndT s₁) s₁ := by
  obtain ⟨its, n, ha⟩ := ha
  have cases2 : ∀ b, H b = none ∨ (b = a ∧ K.lookup a = none) := fun b => by
    by_cases z : H b = none
    · exact .inl z
    · have e := hA b z
      exact .inr ⟨e, hK (e ▸ z)⟩
  have nsK : ∀ {b : Addr} {m : Str → Option Value}, s₁.heap.Ns b m → (hidT s₁.heap H).Ns b m := by
    rintro b m ⟨o, es, ep, e, d, r⟩
    refine ⟨o, es, ep, hidT_get e ?_, d, r⟩
    rcases cases2 b with z | ⟨rfl, _⟩
    · exact z
    · rw [ha] at e
      cases e
      exact nomatch d
  have hKb : K.In (hidT s₁.heap H) := fun b o e => by
    refine hidT_get (KX b o e) ?_
    rcases cases2 b with z | ⟨rfl, z⟩
    · exact z
    · rw [z] at e
      exact nomatch e
  obtain ⟨mc, l1, l2⟩ := hlim
  have hM : Mod K mg (hidT s₁.heap H) := ⟨hKb, nsK hns, ⟨mb, nsK hb, hbb⟩, ⟨mc, nsK l1, l2⟩⟩
  have e0 : Env0 P w K mg (hidT s₁.heap H) callerA [] s₁ H :=
    { frames := rfl, mod := hM, bs := fun b o e => of_hidT e, bsz := Nat.le_of_eq (hidT_size _ _), funs := trivial, frf := (fun b z => nomatch (show b ∈ ([] : List Addr) from z)), hok := hok, bare := .of_eq hg }
  have run := (F _ hKb (nsK hns)).run callerA [] s₁ H ⟨[.ref a], []⟩ [.ref a] [.ref a] (fun v _ => v = .bl true) (fun _ _ _ => False) rfl hr e0 (hbind s₁ (.ref a)) (.cons rfl .nil) hsp
  refine codeAny_mono run ?_
  intro r s' h
  match r, h with
  | .ok (.ret u), ⟨v, H', os, bare, un, hok', r', q⟩ =>
    have q' : v = .bl true := q
    subst q'
    have eu : u = Value.bool true := r'
    subst eu
    refine ⟨rfl, OldK.of_keep ?_, os, bare⟩
    intro b o e
    rcases hO b with z | ⟨ob, xs, z⟩
    · exact un.keep b o e z (fun y => nomatch (show b ∈ ([] : List Addr) from y)) (fun y => nomatch y)
    · have e1 := (hok b _ z).1
      have e2 := (hok' b _ (un.frzs b ob _ z)).1
      rw [e] at e1
      cases e1
      exact e2
theorem endG (KX : K.In s₁.heap) (hns : s₁.heap.Ns mainGlobals mg) (hb : s₁.heap.Ns builtinsNs mb) (hbb : ∀ y : Str, y ≠ "__name__" → mb y = bootBuiltins y) (hlim : s₁.heap.NoLimit) (hg : s₁.gens = #[])
    (ha : s₁.heap.get? a = some { cls := .type "list", data := .seq vs.toArray }) (hi : IntsAre vs ns) (hl : ns.length ≤ sizeLine) (hr : Room k callerA)
    (F : ∀ base : Heap, K.In base → base.Ns mainGlobals mg → FnG P w K mg base k fa fd [x] sp) (hbind : ∀ (s : Shared) (u : Value), BindsTo s fd ⟨[u], []⟩ [(x, u)])
    (hsp : ∀ H : Hp, Only H → SqL K H a (ns.map V.int) → sp [.ref a] H (fun v _ => v = .bl true) fun _ _ _ => False) :
    codeAny (model P w) callerA (.call (.ref fa) ⟨[.ref a], []⟩) (EndT s₁) s₁ := by
  have rv := vals_ints hi
  cases hk : K.lookup a with
  | some o =>
    have e := KX a o hk
    rw [ha] at e
    cases e
    have sq : SqL K (fun _ => none) a (ns.map V.int) := .inr ⟨_, vs.toArray, _, hk, rfl, rfl, rfl, by rw [List.size_toArray, hi.length]; exact hl, by simpa using rv⟩
    have only : Only (fun _ => none) := fun _ => .inl rfl
    exact endG_from KX hns hb hbb hlim hg ⟨_, _, ha⟩ hr F hbind only (fun b u z => nomatch (show (none : Option HO) = some u from z)) (fun b z => (z rfl).elim) (fun z => (z rfl).elim) (hsp _ only sq)
  | none =>
    let H0 : Hp := upd (fun _ => none) a (.frz { cls := .type "list", data := .seq vs.toArray } (.lst (ns.map V.int)))
    have at0 : H0 a = some (.frz { cls := .type "list", data := .seq vs.toArray } (.lst (ns.map V.int))) := upd_same
    have off0 : ∀ b, b ≠ a → H0 b = none := fun b z => upd_ne z
    have only : Only H0 := fun b => by
      by_cases z : b = a
      · exact .inr ⟨_, _, z ▸ at0⟩
      · exact .inl (off0 b z)
    refine endG_from KX hns hb hbb hlim hg ⟨_, _, ha⟩ hr F hbind only ?_ ?_ (fun _ => hk) (hsp _ only (.inl (.inr ⟨_, at0⟩)))
    · intro b u z
      by_cases y : b = a
      · subst y
        rw [at0] at z
        cases z
        exact ⟨ha, by rw [List.length_map]; exact hl, vs, _, rv, ha⟩
      · rw [off0 b y] at z
        exact nomatch z
    · intro b z
      by_cases y : b = a
      · exact y
      · exact (z (off0 b y)).elim
end
theorem walkG {l : PySem.W.OpenLaw} {n k : Nat} {q : Program} {loose : List Str} {XP : (Str → Option Value) → Heap → Prop} {YP : World → Heap → Prop} {d : DefRec} {K : Params → PySem.W.Frag} {sp : PySem.W.Frag → Sp} {x : Str}
    (hn : l.most = some n) (hn2 : n ≤ sizeLine) (hdf : d.params.defaults = []) (hr : Room k callerA) (hY : ∀ (w : World) (h : Heap), YP w h → (K w.params).In h)
    (F : ∀ (w : World) (mg : Str → Option Value) (fa : Addr) (h : Heap), (K w.params).In h → h.Ns mainGlobals mg → mg d.name = some (.ref fa) →
      ∃ fd : FuncData, (∀ (s : Shared) (u : Value), BindsTo s fd ⟨[u], []⟩ [(x, u)]) ∧ ∀ base : Heap, (K w.params).In base → base.Ns mainGlobals mg → FnG l.prog w (K w.params) mg base k fa fd [x] (sp (K w.params)))
    (hsp : ∀ (K : PySem.W.Frag) (H : Hp) (a : Addr) (ns : List Int), ns.length ≤ n → Only H → SqL K H a (ns.map V.int) → sp K [.ref a] H (fun v _ => v = .bl true) fun _ _ _ => False) :
    PySem.W.WalkO q loose XP YP l.row.toRowW d [] (fun f vs => PySem.call f vs) := by
  refine Att.attach_call hn hdf ?_
  intro w s₀ s₁ mg mb fa o pm cd doc a vs ns G Y ho hd hcd hmg hobj hints hlen hg
  obtain ⟨fd, hb, hF⟩ := F w mg fa _ (hY w _ Y) G.T.g hmg
  exact endG (hY w _ Y) G.T.g G.T.b G.T.builtins G.T.nolimit hg hobj hints (Nat.le_trans hlen hn2) hr hF hb fun H hO hS => hsp _ H a ns hlen hO hS

/-! ### tuple * int, once too -/
section
variable {X : Cx}
theorem tuple_mul1 (l : Addr) (items : Array Value) (n : Nat) (dd : Option Addr) (sl : Array (Option Value)) (u : Tok) :
    Meets (Builtin.«tuple.__mul__» ⟨[.ref l, .int 1 u], []⟩) (fun _ R s => s.heap.get? l = some { cls := .type "tuple", dict := dd, data := .seq items n, slots := sl } ∧ R (.ok (.ret (Value.ref l))) s) :=
  .of_wp fun prog w A R s h => by
    obtain ⟨hp, g, d, tk, os⟩ := s
    obtain ⟨hl, h⟩ := h
    have f1 := AutoSeq1.idx_int
    have c1 : (items.isEmpty || (1 : Int) == 1) = true := by simp
    wp_walk using wpAny_loadPart' hl
    exact ⟨_, rfl, h⟩
/-- t * k, k from 1 on -/
def rTimes (K : PySem.W.Frag) : R2 := fun x y H Q => ∃ l k xs, x = .ref l ∧ y = .int k ∧ SqT K H l xs ∧ xs ≠ [] ∧ 1 ≤ k ∧ k ≤ 1000 ∧ xs.length ≤ 1000 ∧
  (k = 1 → Q (.ref l) H) ∧ (2 ≤ k → ∀ p, H p = none → Q (.ref p) (upd H p (.tup (List.replicate k.toNat xs).flatten)))
theorem op_times : OpR X (binaryOp .Mult) (rTimes X.K) := by
  intro pins s σ H x y v u Q I rx ry h
  obtain ⟨l, k, xs, rfl, rfl, hT, hne, h1, h2, hz, q1, q2⟩ := h
  by_cases hk : 2 ≤ k
  · exact op_repT pins s σ H _ _ v u Q I rx ry ⟨l, k, xs, rfl, rfl, hT, hne, hk, h2, hz, q2 hk⟩
  · have e1 : k = 1 := by omega
    subst e1
    cases rx
    obtain ⟨t, rfl⟩ := ry
    obtain ⟨its, r, ⟨⟨cls, dd, data, sl⟩, ho, hc, n, hd⟩, hs⟩ := I.tuple hT
    simp only at hc hd
    subst hc hd
    refine wpAny_binaryOp_repeat_ref (T := "tuple") (U := "int") (by decide) ⟨_, ho, rfl⟩ (fun s' => typeIs_int s' 1 t) noFill_tuple_mul F.fills_int_mul F.slot_int_rmul repeat_tuple F.slot_int_index.lookup ?_
    refine call_meets F.slot_int_rmul (typeIs_int s 1 t) F.entry_int_rmul (F.args_int_rmul_2 _ _) (int_rmul_tuple 1 t l its.toArray n dd sl) ?_
    exact ⟨ho, rfl, ⟨_, ho, rfl⟩, call_meets F.slot_tuple_mul ⟨_, ho, rfl⟩ F.entry_tuple_mul (F.args_tuple_mul_2 _ _) (tuple_mul1 l its.toArray n dd sl t) ⟨ho, ⟨.ref l, H, I, rfl, q1 rfl⟩⟩⟩
end
end KG

namespace KGX
open PySem PySem.Spec PyProof.Rows L2
/-! ### words of one's own -/
/-- the type of a value is known -/
def Kn (K : PySem.W.Frag) (H : Hp) : V → Prop
  | .non | .bl _ | .int _ | .str _ => True
  | .ref a => (∃ xs, H a = some (.lst xs)) ∨ (∃ xs, H a = some (.tup xs)) ∨ ∃ kv, H a = some (.dK kv)
  | _ => False
theorem Kn.mono {K : PySem.W.Frag} {H H' : Hp} (e : Same H H') : ∀ {x : V}, Kn K H x → Kn K H' x
  | .non, _ | .bl _, _ | .int _, _ | .str _, _ => trivial
  | .ref a, h => by
    rcases h with ⟨y, z⟩ | ⟨y, z⟩ | ⟨y, z⟩
    · exact .inl ⟨y, e _ _ z⟩
    · exact .inr (.inl ⟨y, e _ _ z⟩)
    · exact .inr (.inr ⟨y, e _ _ z⟩)
def whole : V → Bool
  | .int _ => true
  | _ => false
def within (lo hi : Int) : V → Bool
  | .int i => decide (lo ≤ i) && decide (i ≤ hi)
  | _ => false
/-- the box alone may change -/
def Kp (b : Addr) (H H' : Hp) : Prop := ∀ a o, a ≠ b → H a = some o → H' a = some o
theorem Kp.of {b : Addr} {H H' : Hp} (h : Same H H') : Kp b H H' := fun a o _ e => h a o e
theorem Kp.trans {b : Addr} {H H1 H2 : Hp} (x : Kp b H H1) (y : Kp b H1 H2) : Kp b H H2 := fun a o n e => y a o n (x a o n e)
theorem same_new {H : Hp} {p : Addr} {o : HO} (h : H p = none) : Same H (upd H p o) := fun b x e => by
  rw [upd_ne (ne_of_none e h)]
  exact e
def low (t b : Int) : List V := [.int (t / (Int.gcd t b : Int)), .int (b / (Int.gcd t b : Int))]
/-! ### whole numbers -/
def sp_is_whole (K : PySem.W.Frag) : Sp := fun vs H Q _ => ∃ x, vs = [x] ∧ Kn K H x ∧ Q (.bl (whole x)) H
def sp_is_whole_within (K : PySem.W.Frag) : Sp := fun vs H Q _ => ∃ x lo hi, vs = [x, .int lo, .int hi] ∧ Kn K H x ∧ Q (.bl (within lo hi x)) H
/-! ### the greatest that divides both -/
theorem gcd_step (a b : Int) (ha : 0 ≤ a) (hb : 0 < b) : Int.gcd b (a % b) = Int.gcd a b := by
  obtain ⟨m, rfl⟩ := Int.eq_ofNat_of_zero_le ha
  obtain ⟨n, rfl⟩ := Int.eq_ofNat_of_zero_le (Int.le_of_lt hb)
  show Nat.gcd n (m % n) = Nat.gcd m n
  rw [Nat.gcd_comm n, ← Nat.gcd_rec, Nat.gcd_comm]
def spGcd : Sp := fun vs H Q _ => ∃ a b : Int, vs = [.int a, .int b] ∧ 0 ≤ a ∧ 0 ≤ b ∧ Q (.int (Int.gcd a b : Int)) H
def sp_greatest_divisor : Sp := fun vs H Q _ => ∃ a b : Int, vs = [.int a, .int b] ∧ 0 ≤ b ∧ Q (.int (Int.gcd a b : Int)) H
theorem abs_eq (i : Int) : (if i < 0 then -i else i) = (i.natAbs : Int) := by
  split <;> omega
theorem sz1 : 1 ≤ sizeLine := by decide
theorem sz2 : 2 ≤ sizeLine := by decide
theorem sz3 : 3 ≤ sizeLine := by decide
theorem sz4 : 4 ≤ sizeLine := by decide
/-! ### in lowest terms -/
def spLow : Sp := fun vs H Q _ => ∃ t b : Int, vs = [.int t, .int b] ∧ 0 < b ∧ b.natAbs.log2 < 9000 ∧ ∀ H' p, Same H H' → H p = none → H' p = some (.tup (low t b)) → Q (.ref p) H'
theorem gcd_pos {t b : Int} (h : 0 < b) : (0 : Int) < (Int.gcd t b : Int) := by
  have : 0 < Int.gcd t b := Int.gcd_pos_of_ne_zero_right t (by omega)
  omega
theorem gcd_le {t b : Int} (h : 0 < b) : (Int.gcd t b : Int) ≤ b := by
  have : Int.gcd t b ∣ b.natAbs := Nat.gcd_dvd_right _ _
  have := Nat.le_of_dvd (by omega) this
  omega
theorem log2_mono {a b : Nat} (h : a ≤ b) : a.log2 ≤ b.log2 := by
  by_cases h0 : a = 0
  · subst h0
    exact Nat.le_trans (by decide) (Nat.zero_le _)
  · exact (Nat.le_log2 (by omega)).mpr (Nat.le_trans (Nat.log2_self_le h0) h)
theorem gcd_div {t b : Int} (h : 0 < b) (hl : b.natAbs.log2 < 9000) {i : Int} : CDivW i (Int.gcd t b : Int) := by
  refine ⟨gcd_pos h, Nat.lt_of_le_of_lt (log2_mono ?_) hl⟩
  have := gcd_le (t := t) h
  omega
/-! ### the law's cells -/
def sp__law_cell (K : PySem.W.Frag) : Sp := fun vs H Q _ => ∃ (a : Addr) (ns : List Int) (k : Nat), vs = [.ref a, .int k] ∧ SqL K H a (ns.map V.int) ∧ ∀ v : Int, Q (.int v) H
def sp__law_mix : Sp := fun vs H Q _ => ∃ (c : Int) (k : Nat), vs = [.int c, .int k] ∧ k ≤ 1000 ∧ ∀ H' v, Same H H' → Q (.int v) H'
def spBox (K : PySem.W.Frag) : Sp := fun vs H Q _ => ∃ (a : Addr) (ns : List Int) (k : Nat), vs = [.ref a, .int k] ∧ SqL K H a (ns.map V.int) ∧ ∀ H' b n, Same H H' → H b = none → H' b = some (.lst [.int n]) → Q (.ref b) H'
/-- a digit of the box -/
def spTake : Sp := fun vs H Q _ => ∃ (b : Addr) (n m : Int), vs = [.ref b, .int m] ∧ H b = some (.lst [.int n]) ∧ 0 < m ∧ m.natAbs.log2 < 9000 ∧
  ∀ H' n' d, Kp b H H' → H' b = some (.lst [.int n']) → 0 ≤ d → d < m → Q (.int d) H'
theorem noPy {i m : Int} (h0 : 0 < m) (h : m.natAbs.log2 < 9000) : CDivP i m := by
  refine ⟨h0, ?_⟩
  exact PyProof.noPylong_of_log2 h
theorem yesT {σ : L2.St} {H : Hp} {F G : Hp → Prop} (h : F H) : tYes σ H (fun b H3 => if b = true then F H3 else G H3) := iteT (A := F H) (B := G H) h
theorem Kp.free {b p : Addr} {H H' : Hp} {o : HO} (k : Kp b H H') (e : H' b = some o) (hp : H' p = none) : H p = none := by
  cases q : H p with
  | none => rfl
  | some u =>
    by_cases z : p = b
    · subst z
      rw [hp] at e
      exact nomatch e
    · rw [k p u z q] at hp
      exact nomatch hp
theorem small_log {m : Int} (h : m.natAbs < 2 ^ 60) : m.natAbs.log2 < 9000 := Nat.lt_of_lt_of_le (PySem.Flt.log2_lt_of (by decide) h) (by decide)
theorem small_log' {m : Int} (h0 : 0 ≤ m) (h : m ≤ 100000) : m.natAbs.log2 < 9000 := small_log (Nat.lt_of_le_of_lt (show m.natAbs ≤ 100000 by omega) (by decide))
theorem rep_map (k : Nat) (x : Int) : (List.replicate k [V.int x]).flatten = (List.replicate k x).map V.int := by
  induction k with
  | zero => rfl
  | succ k ih =>
    rw [List.replicate_succ, List.replicate_succ, List.flatten_cons, ih]
    rfl
def spDrawn : Sp := fun vs H Q _ => ∃ (b : Addr) (n most top : Int), vs = [.ref b, .int most, .int top] ∧ H b = some (.lst [.int n]) ∧ 1 ≤ most ∧ most ≤ 100 ∧ 2 ≤ top ∧ top ≤ 1000 ∧
  ∀ H' p n' (ns : List Int), Kp b H H' → H' b = some (.lst [.int n']) → H p = none → H' p = some (.tup (ns.map V.int)) → 1 ≤ ns.length → (ns.length : Int) ≤ most → (∀ x ∈ ns, 1 ≤ x ∧ x ≤ top) → Q (.ref p) H'
theorem menu {top kind : Int} (h1 : 1 ≤ kind) (h2 : kind < 4) (h3 : 2 ≤ top) : ∃ m, atI [V.int top, .int 2, .int top] (kind - 1) = some (.int m) ∧ 0 < m ∧ m ≤ top := by
  rcases (show kind = 1 ∨ kind = 2 ∨ kind = 3 by omega) with rfl | rfl | rfl
  · exact ⟨top, at_of (j := 0) rfl rfl, by omega, by omega⟩
  · exact ⟨2, at_of (j := 1) rfl rfl, by omega, by omega⟩
  · exact ⟨top, at_of (j := 2) rfl rfl, by omega, by omega⟩
/-! ### some kinds, drawn -/
def Rise (ks : List Int) : Prop := ks.Pairwise (· < ·)
theorem rise_add {ks : List Int} {k : Int} (h : Rise ks) (hk : ∀ x ∈ ks, x < k) : Rise (ks ++ [k]) := by
  refine List.pairwise_append.mpr ⟨h, List.pairwise_singleton _ _, fun a ha b hb => ?_⟩
  rw [List.mem_singleton] at hb
  subst hb
  exact hk a ha
def spSome : Sp := fun vs H Q _ => ∃ (b : Addr) (n many : Int), vs = [.ref b, .int many] ∧ H b = some (.lst [.int n]) ∧ 0 ≤ many ∧ many ≤ 100 ∧
  ∀ H' p n' (ks : List Int), Kp b H H' → H' b = some (.lst [.int n']) → H p = none → H' p = some (.tup (ks.map V.int)) → (ks.length : Int) ≤ many → Rise ks → (∀ x ∈ ks, 0 ≤ x ∧ x < many) → Q (.ref p) H'
/-! ### shares -/
def shs (xs : List V) : Bool := decide (1 ≤ xs.length) && decide (xs.length ≤ 5) && xs.all (within 1 9)
def NotTup (H : Hp) : V → Prop
  | .non | .bl _ | .int _ | .str _ => True
  | .ref a => (∃ xs, H a = some (.lst xs)) ∨ ∃ kv, H a = some (.dK kv)
  | _ => False
/-- a thing: a tuple of things whose types are known, or no tuple -/
def Thing (K : PySem.W.Frag) (H : Hp) (x : V) : Prop := (∃ a xs, x = .ref a ∧ H a = some (.tup xs) ∧ (∀ y ∈ xs, Kn K H y)) ∨ NotTup H x
def isShs (H : Hp) : V → Bool
  | .ref a => match H a with
    | some (.tup xs) => shs xs
    | _ => false
  | _ => false
theorem isi_not {K : PySem.W.Frag} {H : Hp} {x : V} (h : NotTup H x) : ∃ t u, ClsV (.ty "tuple") u ∧ TyX K H x t ∧ PySem.W.kitOne K t u = some false := by
  cases x with
  | non => exact ⟨_, _, .ty "tuple", .base .non, kit_ty (by decide +kernel)⟩
  | bl y => exact ⟨_, _, .ty "tuple", .base (.bl y), kit_ty (by decide +kernel)⟩
  | int i => exact ⟨_, _, .ty "tuple", .base (.int i), kit_ty (by decide +kernel)⟩
  | str y => exact ⟨_, _, .ty "tuple", .base (.str y), kit_ty (by decide +kernel)⟩
  | ref a =>
    rcases h with ⟨y, z⟩ | ⟨y, z⟩
    · exact ⟨_, _, .ty "tuple", .base (.lst z), kit_ty (by decide +kernel)⟩
    · exact ⟨_, _, .ty "tuple", .base (.dK z), kit_ty (by decide +kernel)⟩
  | byt y => exact h.elim
  | flt y => exact h.elim
  | ty y => exact h.elim
theorem isShs_not {H : Hp} {x : V} (h : NotTup H x) : isShs H x = false := by
  cases x with
  | ref a => rcases h with ⟨y, z⟩ | ⟨y, z⟩ <;> simp only [isShs, z]
  | _ => rfl
theorem isi_tup {K : PySem.W.Frag} {H : Hp} {a : Addr} {xs : List V} (h : H a = some (.tup xs)) : ∃ t u, ClsV (.ty "tuple") u ∧ TyX K H (.ref a) t ∧ PySem.W.kitOne K t u = some true := ⟨_, _, .ty "tuple", .base (.tup h), kit_ty (by decide +kernel)⟩
def spShares (K : PySem.W.Frag) : Sp := fun vs H Q _ => ∃ x, vs = [x] ∧ Thing K H x ∧ ∀ H', Same H H' → Q (.bl (isShs H x)) H'
theorem walk_zipT {K : PySem.W.Frag} {a b : Addr} {xs ys : List V} : Walk (RZ.ItzT K a b) (min xs.length ys.length) (fun H => SqT K H a xs ∧ SqT K H b ys) (YPair (fun i => xs[i]?) (fun i => ys[i]?)) :=
  ⟨fun i _ hi q => ⟨xs, ys, xs[i]'(by omega), ys[i]'(by omega), q.1, q.2, by simp [show i < xs.length by omega], by simp [show i < ys.length by omega]⟩,
    fun _ q => ⟨xs, ys, q.1, q.2, by omega⟩, fun i H v H' _ q y => by
      obtain ⟨T, x, y, e1, e2, e3, e4, e5⟩ := y
      exact ⟨T, x, y, e1, e2, e3, e4 xs q.1, e5 ys q.2⟩⟩
def ltB : V → V → Bool
  | .int a, .int b => decide (a < b)
  | _, _ => false
def ups (xs : List V) : Bool := (List.zipWith ltB xs (xs.drop 1)).all id
def someK (n : Nat) (xs : List V) : Bool := xs.all (within 0 ((n : Int) - 1)) && ups xs
theorem all_ints {lo hi : Int} : ∀ {xs : List V}, xs.all (within lo hi) = true → ∃ ks : List Int, xs = ks.map V.int ∧ ∀ k ∈ ks, lo ≤ k ∧ k ≤ hi
  | [], _ => ⟨[], rfl, fun _ h => nomatch h⟩
  | x :: xs, h => by
    rw [List.all_cons, Bool.and_eq_true] at h
    obtain ⟨ks, e, hk⟩ := all_ints h.2
    cases x with
    | int i =>
      have h1 : (decide (lo ≤ i) && decide (i ≤ hi)) = true := h.1
      rw [Bool.and_eq_true, decide_eq_true_eq, decide_eq_true_eq] at h1
      refine ⟨i :: ks, by rw [e]; rfl, fun k hk' => ?_⟩
      rcases List.mem_cons.mp hk' with rfl | hk'
      · exact h1
      · exact hk k hk'
    | _ => exact nomatch h.1
theorem ups_rise : ∀ {ks : List Int}, Rise ks → ups (ks.map V.int) = true
  | [], _ => rfl
  | [_], _ => rfl
  | a :: b :: r, h => by
    have h2 := List.pairwise_cons.mp h
    have ih := ups_rise h2.2
    show (ltB (.int a) (.int b) && (List.zipWith ltB ((b :: r).map V.int) (((b :: r).map V.int).drop 1)).all id) = true
    rw [Bool.and_eq_true]
    exact ⟨decide_eq_true (h2.1 b List.mem_cons_self), ih⟩
theorem within_all {ks : List Int} {lo hi : Int} (h : ∀ k ∈ ks, lo ≤ k ∧ k ≤ hi) : (ks.map V.int).all (within lo hi) = true := by
  rw [List.all_map, List.all_eq_true]
  intro k hk
  show (decide (lo ≤ k) && decide (k ≤ hi)) = true
  rw [decide_eq_true (h k hk).1, decide_eq_true (h k hk).2]; rfl
theorem someK_of {n : Nat} {ks : List Int} (h : Rise ks) (hk : ∀ k ∈ ks, 0 ≤ k ∧ k < n) : someK n (ks.map V.int) = true := by
  unfold someK
  rw [ups_rise h, within_all (fun k hk' => ⟨(hk k hk').1, by have := (hk k hk').2; omega⟩)]; rfl
def isSm (H : Hp) (n : Nat) : V → Bool
  | .ref a => match H a with
    | some (.tup xs) => someK n xs
    | _ => false
  | _ => false
theorem isSm_not {H : Hp} {x : V} {n : Nat} (h : NotTup H x) : isSm H n x = false := by
  cases x with
  | ref a => rcases h with ⟨y, z⟩ | ⟨y, z⟩ <;> simp only [isSm, z]
  | _ => rfl
theorem cut_tail (xs : List V) (h : ¬ (HT.sIx xs.length 0 (some 1) = 0 ∧ HT.sIx xs.length xs.length none = xs.length)) : cutV xs (some 1) none = xs.drop 1 ∧ xs ≠ [] := by
  have e1 : HT.sIx xs.length 0 (some 1) = min 1 xs.length := HT.sIx_nat xs.length 0 1
  have e2 : HT.sIx xs.length xs.length none = xs.length := HT.sIx_none _ _
  rw [e1, e2] at h
  unfold cutV
  rw [e1, e2]
  cases xs with
  | nil => exact absurd ⟨rfl, rfl⟩ h
  | cons x r =>
    refine ⟨?_, fun z => nomatch z⟩
    rw [List.length_cons, show min 1 (r.length + 1) = 1 by omega, Nat.add_sub_cancel]
    exact List.take_length
theorem cut_whole (xs : List V) (h : HT.sIx xs.length 0 (some 1) = 0) : xs.length = 0 := by
  have e1 : HT.sIx xs.length 0 (some 1) = min 1 xs.length := HT.sIx_nat xs.length 0 1
  omega
def spChk (K : PySem.W.Frag) : Sp := fun vs H Q _ => ∃ x, vs = [x] ∧ Thing K H x ∧ isShs H x = true ∧ ∀ H', Same H H' → Q .non H'
def spIsSome (K : PySem.W.Frag) : Sp := fun vs H Q _ => ∃ x a ss, vs = [x, .ref a] ∧ H a = some (.tup ss) ∧ ss.length ≤ 1000 ∧ Thing K H x ∧ (∀ c xs, x = .ref c → H c = some (.tup xs) → xs.length ≤ 1000) ∧ ∀ H', Same H H' → Q (.bl (isSm H ss.length x)) H'
def spChkSome (K : PySem.W.Frag) : Sp := fun vs H Q _ => ∃ x a ss, vs = [x, .ref a] ∧ H a = some (.tup ss) ∧ ss.length ≤ 1000 ∧ Thing K H x ∧ (∀ c xs, x = .ref c → H c = some (.tup xs) → xs.length ≤ 1000) ∧ isSm H ss.length x = true ∧ ∀ H', Same H H' → Q .non H'
/-! ### totals and parts of shares -/
/-- shares, as numbers -/
def Good (ns : List Int) : Prop := 1 ≤ ns.length ∧ ns.length ≤ 5 ∧ ∀ x ∈ ns, 1 ≤ x ∧ x ≤ 9
theorem Good.shs {ns : List Int} (h : Good ns) : shs (ns.map V.int) = true := by
  unfold KGX.shs
  rw [List.length_map, decide_eq_true h.1, decide_eq_true h.2.1, within_all h.2.2]; rfl
theorem kn_ints {K : PySem.W.Frag} {H : Hp} {ns : List Int} : ∀ y ∈ ns.map V.int, Kn K H y := fun y hy => by
  obtain ⟨x, _, rfl⟩ := List.mem_map.mp hy
  trivial
theorem thing_ints {K : PySem.W.Frag} {H : Hp} {a : Addr} {ns : List Int} (h : H a = some (.tup (ns.map V.int))) : Thing K H (.ref a) := .inl ⟨a, _, rfl, h, kn_ints⟩
theorem isShs_of {H : Hp} {a : Addr} {ns : List Int} (h : H a = some (.tup (ns.map V.int))) (g : Good ns) : isShs H (.ref a) = true := by
  simp only [isShs, h]; exact g.shs
theorem sum_bounds : ∀ {ns : List Int}, (∀ x ∈ ns, 0 ≤ x ∧ x ≤ 9) → 0 ≤ ns.sum ∧ ns.sum ≤ 9 * ns.length
  | [], _ => by decide
  | x :: r, h => by
    have h1 := h x List.mem_cons_self
    have h2 := sum_bounds (ns := r) fun y hy => h y (List.mem_cons_of_mem _ hy)
    rw [List.sum_cons, List.length_cons]
    omega
theorem Good.sum_pos {ns : List Int} (g : Good ns) : 0 < ns.sum ∧ ns.sum ≤ 45 := by
  obtain ⟨h1, h5, hx⟩ := g
  cases ns with
  | nil => exact absurd h1 (by decide)
  | cons x r =>
    have a1 := hx x List.mem_cons_self
    have a2 := sum_bounds (ns := r) fun y hy => ⟨by have := (hx y (List.mem_cons_of_mem _ hy)).1; omega, (hx y (List.mem_cons_of_mem _ hy)).2⟩
    rw [List.sum_cons]
    rw [List.length_cons] at h5
    omega
def pick (ns ks : List Int) : List Int := ks.map fun k => ns.getD k.toNat 0
def spTotal : Sp := fun vs H Q _ => ∃ (a : Addr) (ns : List Int), vs = [.ref a] ∧ H a = some (.tup (ns.map V.int)) ∧ Good ns ∧ ∀ H', Same H H' → Q (.int ns.sum) H'
/-- [shares[kind] for kind in some] -/
theorem at_kind {ns : List Int} {k : Int} (h0 : 0 ≤ k) (h1 : k < ns.length) : atI (ns.map V.int) k = some (.int (ns.getD k.toNat 0)) := by
  refine at_of (j := k.toNat) (by omega) ?_
  have hk : k.toNat < ns.length := by omega
  rw [List.getElem?_map, List.getElem?_eq_getElem hk, List.getD_eq_getElem?_getD, List.getElem?_eq_getElem hk]
  rfl
def spPart : Sp := fun vs H Q _ => ∃ (a c : Addr) (ns ks : List Int), vs = [.ref a, .ref c] ∧ H a = some (.tup (ns.map V.int)) ∧ Good ns ∧ H c = some (.tup (ks.map V.int)) ∧ ks.length ≤ 1000 ∧ Rise ks ∧ (∀ k ∈ ks, 0 ≤ k ∧ k < ns.length) ∧
  ∀ H' p, Same H H' → H p = none → H' p = some (.tup (low (pick ns ks).sum ns.sum)) → Q (.ref p) H'
/-! ### what is shown -/
theorem shown_int {i : Int} (h : i.natAbs.log2 < 1920) : (PyData.shown (.int i)).length ≤ 1921 := by
  have e := int_text_length_le (k := 1920) (by decide) h
  show (Str.ofString (toString i)).length ≤ _
  rw [PySem.ofString_length]
  exact e
theorem sh_int {i : Int} (h : i.natAbs.log2 < 1920) : KG.ShowOk (.int i) := ⟨decide_eq_true h, rfl, (by show (0 : Nat) ≤ 20; decide), Nat.le_trans (shown_int h) (by decide)⟩
theorem sh_two {i j : Int} (hi : i.natAbs.log2 < 1920) (hj : j.natAbs.log2 < 1920) : KG.ShowOk (.tuple [.int i, .int j]) := by
  refine ⟨?_, rfl, by show 0 + 1 ≤ 20; decide, ?_⟩
  · show (decide (i.natAbs.log2 < 1920) && (decide (j.natAbs.log2 < 1920) && true)) = true
    rw [decide_eq_true hi, decide_eq_true hj]; rfl
  · have e := tupleText_len_le [PyData.shown (.int i), PyData.shown (.int j)]
    have e1 := shown_int hi
    have e2 := shown_int hj
    show (tupleText [PyData.shown (.int i), PyData.shown (.int j)]).length ≤ _
    refine Nat.le_trans e (Nat.le_trans ?_ (show 4000 ≤ sizeLine by decide))
    simp only [List.map_cons, List.map_nil, List.sum_cons, List.sum_nil, List.length_cons, List.length_nil]
    omega
theorem log_of {i : Int} {n : Nat} (h : i.natAbs < 2 ^ n) (h0 : 0 < n) (hn : n ≤ 1920) : i.natAbs.log2 < 1920 := Nat.lt_of_lt_of_le (PySem.Flt.log2_lt_of h0 h) hn
theorem log_small {i : Int} (h : i.natAbs ≤ 1000000) : i.natAbs.log2 < 1920 := log_of (n := 20) (Nat.lt_of_le_of_lt h (by decide)) (by decide) (by decide)
/-- some kinds, written as a tuple -/
def KindsAt (m : Nat) (H : Hp) (q : Addr) : Prop := ∃ ks : List Int, H q = some (.tup (ks.map V.int)) ∧ ks.length ≤ 1000 ∧ Rise ks ∧ ∀ k ∈ ks, 0 ≤ k ∧ k < m
theorem KindsAt.mono {m : Nat} {H H' : Hp} {q : Addr} (h : KindsAt m H q) (s : Same H H') : KindsAt m H' q := by
  obtain ⟨ks, e, r⟩ := h
  exact ⟨ks, s _ _ e, r⟩
theorem KindsAt.kp {m : Nat} {b : Addr} {o : List V} {H H' : Hp} {q : Addr} (h : KindsAt m H q) (eb : H b = some (.lst o)) (s : Kp b H H') : KindsAt m H' q := by
  obtain ⟨ks, e, r⟩ := h
  exact ⟨ks, s _ _ (ne_of e eb (by intro z; cases z)) e, r⟩
theorem rise_range (n : Nat) : Rise ((List.range n).map fun i : Nat => (i : Int)) := by
  refine List.pairwise_map.mpr (List.Pairwise.imp ?_ List.pairwise_lt_range)
  intro a b h
  exact Int.ofNat_lt.mpr h
theorem rg_kinds {H : Hp} {q : Addr} {n : Nat} (hn : n ≤ 1000) (e : H q = some (.tup (rgV 0 n))) : KindsAt n H q := by
  refine ⟨(List.range n).map fun i : Nat => (i : Int), ?_, ?_, rise_range n, ?_⟩
  · rw [e]
    unfold rgV
    rw [List.map_map, show ((n : Int) - 0).toNat = n by omega]
    congr 2
    refine List.map_congr_left fun i _ => ?_
    show V.int (0 + (i : Int)) = V.int (i : Int)
    rw [Int.zero_add]
  · rw [List.length_map, List.length_range]; exact hn
  · intro k hk
    obtain ⟨i, hi, rfl⟩ := List.mem_map.mp hk
    have := List.mem_range.mp hi
    omega
theorem low_small {t b : Int} (ht : t.natAbs ≤ 1000000) (h0 : 0 < b) (hb : b ≤ 1000000) : (t / (Int.gcd t b : Int)).natAbs.log2 < 1920 ∧ (b / (Int.gcd t b : Int)).natAbs.log2 < 1920 := by
  have g := gcd_pos (t := t) h0
  have d : ∀ x : Int, x.natAbs ≤ 1000000 → (x / (Int.gcd t b : Int)).natAbs ≤ 1000000 := fun x hx => by
    have h1 : (x / (Int.gcd t b : Int)).natAbs ≤ x.natAbs := Int.natAbs_ediv_le_natAbs _ _
    omega
  exact ⟨log_small (d t ht), log_small (d b (by omega))⟩
def sp_law (K : PySem.W.Frag) : Sp := fun vs H Q _ => ∃ (a : Addr) (ns : List Int), vs = [.ref a] ∧ SqL K H a (ns.map V.int) ∧ ns.length ≤ 63 ∧ ∀ H', Q (.bl true) H'
theorem start_law (K : PySem.W.Frag) (H : Hp) (a : Addr) (ns : List Int) (hl : ns.length ≤ 63) (_ : Only H) (hS : SqL K H a (ns.map V.int)) : sp_law K [.ref a] H (fun v _ => v = .bl true) fun _ _ _ => False := ⟨a, ns, rfl, hS, hl, fun _ => rfl⟩
theorem pick_bounds {ss ks : List Int} (g : Good ss) (hk : ∀ k ∈ ks, 0 ≤ k ∧ k < ss.length) : ∀ x ∈ pick ss ks, 0 ≤ x ∧ x ≤ 9 := fun x hx => by
  obtain ⟨k, hk', rfl⟩ := List.mem_map.mp hx
  have h := hk k hk'
  have hl : k.toNat < ss.length := by omega
  rw [List.getD_eq_getElem?_getD, List.getElem?_eq_getElem hl]
  have := g.2.2 ss[k.toNat] (List.getElem_mem hl)
  show 0 ≤ ss[k.toNat] ∧ ss[k.toNat] ≤ 9
  omega
end KGX

namespace KGX
open PySem PySem.Spec PyProof.Rows L2
/-! ### fractions -/
def frB : List V → Bool
  | [.int t, .int b] => decide (1 ≤ b) && decide (Int.gcd t b = 1)
  | _ => false
def isFr (H : Hp) : V → Bool
  | .ref a => match H a with
    | some (.tup xs) => frB xs
    | _ => false
  | _ => false
theorem isFr_not {H : Hp} {x : V} (h : NotTup H x) : isFr H x = false := by
  cases x with
  | ref a => rcases h with ⟨y, z⟩ | ⟨y, z⟩ <;> simp only [isFr, z]
  | _ => rfl
theorem isFr_tup {H : Hp} {a : Addr} {xs : List V} (h : H a = some (.tup xs)) : isFr H (.ref a) = frB xs := by simp only [isFr, h]
theorem frB_len {xs : List V} (h : xs.length ≠ 2) : frB xs = false := by
  match xs, h with
  | [], _ => rfl
  | [x], _ => cases x <;> rfl
  | [_, _], h => exact absurd rfl h
  | x :: y :: z :: r, _ => cases x <;> first | rfl | (cases y <;> rfl)
theorem frB_not {x y : V} (h : whole x = false ∨ whole y = false) : frB [x, y] = false := by
  cases x with
  | int i =>
    cases y with
    | int j => rcases h with h | h <;> exact nomatch h
    | _ => rfl
  | _ => rfl
def spIsFr (K : PySem.W.Frag) : Sp := fun vs H Q _ => ∃ x, vs = [x] ∧ Thing K H x ∧ Q (.bl (isFr H x)) H
/-- a fraction of a size that can be reckoned with -/
def Fr (a b : Int) : Prop := 1 ≤ b ∧ Int.gcd a b = 1 ∧ a.natAbs < 2 ^ 4000 ∧ b.natAbs < 2 ^ 4000
theorem Fr.is {H : Hp} {p : Addr} {a b : Int} (h : Fr a b) (e : H p = some (.tup [.int a, .int b])) : isFr H (.ref p) = true := by
  rw [isFr_tup e]
  show (decide (1 ≤ b) && decide (Int.gcd a b = 1)) = true
  rw [decide_eq_true h.1, decide_eq_true h.2.1]; rfl
theorem thing_two {K : PySem.W.Frag} {H : Hp} {p : Addr} {a b : Int} (e : H p = some (.tup [.int a, .int b])) : Thing K H (.ref p) := thing_ints (ns := [a, b]) e
/-- two fractions handed in -/
def sp2 (g : Int → Int → Int → Int → VK → Hp → Prop) : Sp := fun vs H Q _ => ∃ p q a b c d, vs = [.ref p, .ref q] ∧ H p = some (.tup [.int a, .int b]) ∧ H q = some (.tup [.int c, .int d]) ∧ Fr a b ∧ Fr c d ∧ g a b c d Q H
/-- a new fraction -/
def newFr (t b : Int) : VK → Hp → Prop := fun Q H => ∀ H' r, Same H H' → H r = none → H' r = some (.tup (low t b)) → Q (.ref r) H'
def spChkFr : Sp := sp2 fun _ _ _ _ Q H => Q .non H
def spAdded : Sp := sp2 fun a b c d => newFr (a * d + c * b) (b * d)
def spLessened : Sp := sp2 fun a b c d => newFr (a * d - c * b) (b * d)
def spMultiplied : Sp := sp2 fun a b c d => newFr (a * c) (b * d)
def spIsLess : Sp := sp2 fun a b c d Q H => Q (.bl (decide (a * d < c * b))) H
theorem mulW {i j : Int} (hi : i.natAbs < 2 ^ 4000) (hj : j.natAbs < 2 ^ 4000) : CMulW i j := wide_mul hi hj (by decide) (by decide) (by decide)
theorem log_prod {b d : Int} (hb : b.natAbs < 2 ^ 4000) (hd : d.natAbs < 2 ^ 4000) : (b * d).natAbs.log2 < 9000 := by
  have h := wide_lt hb hd
  exact Nat.lt_of_lt_of_le (PySem.Flt.log2_lt_of (by decide) h) (by decide)
theorem pos_prod {b d : Int} (hb : 1 ≤ b) (hd : 1 ≤ d) : 0 < b * d := Int.mul_pos (by omega) (by omega)
/-! ### lowest terms -/
theorem low_mul {t b y : Int} (hb : 0 < b) (hy : 0 < y) : low (t * y) (b * y) = low t b := by
  have e : (Int.gcd (t * y) (b * y) : Int) = (Int.gcd t b : Int) * y := by
    rw [Int.gcd_mul_right]
    have : (y.natAbs : Int) = y := by omega
    rw [Int.natCast_mul, this]
  have g := gcd_pos (t := t) hb
  unfold low
  rw [e, Int.mul_ediv_mul_of_pos_left _ _ hy, Int.mul_ediv_mul_of_pos_left _ _ hy]
theorem low_fr {t b : Int} (hb : 0 < b) : 1 ≤ b / (Int.gcd t b : Int) ∧ Int.gcd (t / (Int.gcd t b : Int)) (b / (Int.gcd t b : Int)) = 1 := by
  have g := gcd_pos (t := t) hb
  have gl := gcd_le (t := t) hb
  refine ⟨?_, ?_⟩
  · exact (Int.le_ediv_iff_mul_le g).mpr (by omega)
  · exact Int.gcd_ediv_gcd_ediv_gcd (by omega)
theorem natAbs_div_le {x g : Int} : (x / g).natAbs ≤ x.natAbs := Int.natAbs_ediv_le_natAbs _ _
/-! ### numbers drawn -/
def spNum : Sp := fun vs H Q _ => ∃ (b : Addr) (n : Int), vs = [.ref b] ∧ H b = some (.lst [.int n]) ∧ ∀ H' n' v, Kp b H H' → H' b = some (.lst [.int n']) → v.natAbs ≤ 10 ^ 19 → Q (.int v) H'
def spTruth : Sp := fun vs H Q _ => ∃ x y, vs = [.bl x, .bl y] ∧ Q (.bl (decide (x = y))) H
/-- two pairs handed in, whatever they are -/
def spPlus : Sp := fun vs H Q _ => ∃ p q a b c d, vs = [.ref p, .ref q] ∧ H p = some (.tup [.int a, .int b]) ∧ H q = some (.tup [.int c, .int d]) ∧ 1 ≤ b ∧ 1 ≤ d ∧
  a.natAbs < 2 ^ 4000 ∧ b.natAbs < 2 ^ 4000 ∧ c.natAbs < 2 ^ 4000 ∧ d.natAbs < 2 ^ 4000 ∧ newFr (a * d + c * b) (b * d) Q H
/-- a size, kept below -/
theorem sz_mul {i j : Int} {m n : Nat} (hi : i.natAbs < 2 ^ m) (hj : j.natAbs < 2 ^ n) : (i * j).natAbs < 2 ^ (m + n) := wide_lt hi hj
theorem sz_add {i j : Int} {n : Nat} (hi : i.natAbs < 2 ^ n) (hj : j.natAbs < 2 ^ n) : (i + j).natAbs < 2 ^ (n + 1) := by
  rw [Nat.pow_succ]; omega
theorem sz_sub {i j : Int} {n : Nat} (hi : i.natAbs < 2 ^ n) (hj : j.natAbs < 2 ^ n) : (i - j).natAbs < 2 ^ (n + 1) := by
  rw [Nat.pow_succ]; omega
theorem sz_le {i : Int} {m n : Nat} (hi : i.natAbs < 2 ^ m) (h : m ≤ n) : i.natAbs < 2 ^ n := Nat.lt_of_lt_of_le hi (Nat.pow_le_pow_right (by decide) h)
theorem low_show {t b : Int} {n : Nat} (ht : t.natAbs < 2 ^ n) (hb : b.natAbs < 2 ^ n) (h0 : 0 < n) (hn : n ≤ 1920) : KG.ShowOk (.tuple [.int (t / (Int.gcd t b : Int)), .int (b / (Int.gcd t b : Int))]) :=
  sh_two (log_of (Nat.lt_of_le_of_lt natAbs_div_le ht) h0 hn) (log_of (Nat.lt_of_le_of_lt natAbs_div_le hb) h0 hn)
end KGX

namespace KGX
open PySem PySem.Spec PyProof.Rows L2
/-! ### things of whatever kind, off the box at b; l: lists, else dicts may be in them -/
def keyD : Key → PyData
  | .inl i => .int i
  | .inr x => .str x
mutual
inductive Dq (l : Bool) (b : Addr) (H : Hp) : V → PyData → Prop
  | non : Dq l b H .non .none
  | bl (x : Bool) : Dq l b H (.bl x) (.bool x)
  | int (i : Int) : Dq l b H (.int i) (.int i)
  | str (x : Str) : Dq l b H (.str x) (.str x)
  | lst {a : Addr} {xs : List V} {ds : List PyData} : l = true → a ≠ b → H a = some (.lst xs) → DqAll l b H xs ds → Dq l b H (.ref a) (.list ds)
  | tup {a : Addr} {xs : List V} {ds : List PyData} : H a = some (.tup xs) → DqAll l b H xs ds → Dq l b H (.ref a) (.tuple ds)
  | dct {a : Addr} {kvs : List (Key × Int)} : l = false → H a = some (.dK (kvs.map fun p => (p.1, V.int p.2))) → Dq l b H (.ref a) (.dict (kvs.map fun p => (keyD p.1, PyData.int p.2)))
inductive DqAll (l : Bool) (b : Addr) (H : Hp) : List V → List PyData → Prop
  | nil : DqAll l b H [] []
  | cons {v : V} {vs : List V} {d : PyData} {ds : List PyData} : Dq l b H v d → DqAll l b H vs ds → DqAll l b H (v :: vs) (d :: ds)
end
section
variable {l : Bool} {b : Addr} {H H' : Hp} {o : List V}
mutual
theorem Dq.kp (eb : H b = some (.lst o)) (k : Kp b H H') : ∀ {v : V} {d : PyData}, Dq l b H v d → Dq l b H' v d
  | _, _, .non => .non
  | _, _, .bl x => .bl x
  | _, _, .int x => .int x
  | _, _, .str x => .str x
  | _, _, .lst h1 h2 h3 h4 => .lst h1 h2 (k _ _ h2 h3) (DqAll.kp eb k h4)
  | _, _, .tup h1 h2 => .tup (k _ _ (ne_of h1 eb (by intro z; cases z)) h1) (DqAll.kp eb k h2)
  | _, _, .dct h1 h2 => .dct h1 (k _ _ (ne_of h2 eb (by intro z; cases z)) h2)
theorem DqAll.kp (eb : H b = some (.lst o)) (k : Kp b H H') : ∀ {vs : List V} {ds : List PyData}, DqAll l b H vs ds → DqAll l b H' vs ds
  | _, _, .nil => .nil
  | _, _, .cons h1 h2 => .cons (Dq.kp eb k h1) (DqAll.kp eb k h2)
end
mutual
theorem Dq.mono (k : Same H H') : ∀ {v : V} {d : PyData}, Dq l b H v d → Dq l b H' v d
  | _, _, .non => .non
  | _, _, .bl x => .bl x
  | _, _, .int x => .int x
  | _, _, .str x => .str x
  | _, _, .lst h1 h2 h3 h4 => .lst h1 h2 (k _ _ h3) (DqAll.mono k h4)
  | _, _, .tup h1 h2 => .tup (k _ _ h1) (DqAll.mono k h2)
  | _, _, .dct h1 h2 => .dct h1 (k _ _ h2)
theorem DqAll.mono (k : Same H H') : ∀ {vs : List V} {ds : List PyData}, DqAll l b H vs ds → DqAll l b H' vs ds
  | _, _, .nil => .nil
  | _, _, .cons h1 h2 => .cons (Dq.mono k h1) (DqAll.mono k h2)
end
theorem Dq.kn {K : PySem.W.Frag} {v : V} {d : PyData} (h : Dq l b H v d) : Kn K H v := by
  cases h with
  | non => trivial
  | bl x => trivial
  | int x => trivial
  | str x => trivial
  | lst h1 h2 h3 h4 => exact .inl ⟨_, h3⟩
  | tup h1 h2 => exact .inr (.inl ⟨_, h1⟩)
  | dct h1 h2 => exact .inr (.inr ⟨_, h2⟩)
theorem DqAll.kn {K : PySem.W.Frag} : ∀ {vs : List V} {ds : List PyData}, DqAll l b H vs ds → ∀ y ∈ vs, Kn K H y
  | _, _, .nil, _, hy => nomatch hy
  | _, _, .cons h1 h2, y, hy => by
    rcases List.mem_cons.mp hy with rfl | hy
    · exact h1.kn
    · exact DqAll.kn h2 y hy
theorem Dq.thing {K : PySem.W.Frag} {v : V} {d : PyData} (h : Dq l b H v d) : Thing K H v := by
  cases h with
  | non => exact .inr trivial
  | bl x => exact .inr trivial
  | int x => exact .inr trivial
  | str x => exact .inr trivial
  | lst h1 h2 h3 h4 => exact .inr (.inl ⟨_, h3⟩)
  | tup h1 h2 => exact .inl ⟨_, _, rfl, h1, h2.kn⟩
  | dct h1 h2 => exact .inr (.inr ⟨_, h2⟩)
theorem DqAll.append : ∀ {vs ws : List V} {ds es : List PyData}, DqAll l b H vs ds → DqAll l b H ws es → DqAll l b H (vs ++ ws) (ds ++ es)
  | _, _, _, _, .nil, h => h
  | _, _, _, _, .cons h1 h2, h => .cons h1 (DqAll.append h2 h)
theorem DqAll.ints : ∀ (ns : List Int), DqAll l b H (ns.map V.int) (ns.map PyData.int)
  | [] => .nil
  | i :: r => .cons (.int i) (DqAll.ints r)
mutual
theorem Dq.noDict : ∀ {v : V} {d : PyData}, Dq true b H v d → d.hasDict = false
  | _, _, .non => rfl
  | _, _, .bl x => rfl
  | _, _, .int x => rfl
  | _, _, .str x => rfl
  | _, _, .lst h1 h2 h3 h4 => by show PyData.hasDictAll _ = false; exact DqAll.noDict h4
  | _, _, .tup h1 h2 => by show PyData.hasDictAll _ = false; exact DqAll.noDict h2
theorem DqAll.noDict : ∀ {vs : List V} {ds : List PyData}, DqAll true b H vs ds → PyData.hasDictAll ds = false
  | _, _, .nil => rfl
  | _, _, .cons h1 h2 => by
    show (PyData.hasDict _ || PyData.hasDictAll _) = false
    rw [Dq.noDict h1, DqAll.noDict h2]; rfl
end
end
section
variable {X : Cx} {pins : List (Addr × Obj)} {σ : L2.St} {H : Hp} {s : Shared} {l : Bool} {b : Addr}
theorem pairs_read {h : Heap} : ∀ {es : List DictEntry} {vs : List (Key × Value)} {kvs : List (Key × Int)}, PySem.Pairs (mixKind X.prog X.w) es vs → KV (kvs.map fun p => (p.1, V.int p.2)) vs →
    ReadsAll h (es.map (·.key)) ((kvs.map fun p => (keyD p.1, PyData.int p.2)).map (·.1)) [] ∧ ReadsAll h (es.map (·.val)) ((kvs.map fun p => (keyD p.1, PyData.int p.2)).map (·.2)) []
  | _, _, [], hp, hk => by
    cases hk
    cases hp
    exact ⟨.nil, .nil⟩
  | _, _, (k, i) :: r, hp, hk => by
    cases hk with
    | cons h1 h2 =>
      cases hp with
      | @cons ent _ _ _ k1 k2 k3 =>
        obtain ⟨r1, r2⟩ := pairs_read (h := h) k3 h2
        obtain ⟨e1, e2⟩ := h1
        obtain ⟨t, e2⟩ := e2
        rw [← e1] at k1
        refine ⟨?_, ?_⟩
        · have hk2 : Reads h ent.key (keyD k) [] := by
            rcases keyIs_shape (show keyIs k _ = true from k1) with ⟨i', t', rfl, e⟩ | ⟨x', t', rfl, e⟩
            · rw [e]; exact .int _ _
            · rw [e]; exact .str _ _
          exact ReadsAll.cons (as := []) hk2 r1
        · rw [List.map_cons, k2, e2]
          exact ReadsAll.cons (as := []) (.int _ _) r2
mutual
theorem Dq.reads (I : Inv X pins σ H s) : ∀ {d : PyData} {v : V} {u : Value}, Dq l b H v d → RelV v u → ∃ as, Reads s.heap u d as ∧ (l = false → sysModules ∉ as)
  | _, _, u, .non, r => by
    cases (show u = Value.none from r)
    exact ⟨_, .none, fun _ z => nomatch z⟩
  | _, _, u, .bl x, r => by
    cases (show u = Value.bool x from r)
    exact ⟨_, .bool x, fun _ z => nomatch z⟩
  | _, _, u, .int i, r => by
    obtain ⟨t, rfl⟩ := (show ∃ t, u = Value.int i t from r)
    exact ⟨_, .int i t, fun _ z => nomatch z⟩
  | _, _, u, .str x, r => by
    obtain ⟨t, rfl⟩ := (show ∃ t, u = Value.str x t from r)
    exact ⟨_, .str x t, fun _ z => nomatch z⟩
  | _, _, u, .lst (a := a) h1 h2 h3 h4, r => by
    cases (show u = Value.ref a from r)
    obtain ⟨its, rv, ⟨o, n, ho, hc, _, hd⟩, _⟩ := I.list (.inl (.inl h3))
    obtain ⟨as, hr, _⟩ := DqAll.reads I h4 rv
    exact ⟨_, .list ho hc hd hr, fun z => by rw [h1] at z; exact nomatch z⟩
  | _, _, u, .tup (a := a) h1 h2, r => by
    cases (show u = Value.ref a from r)
    obtain ⟨its, rv, ⟨o, ho, hc, n, hd⟩, _⟩ := I.tuple (.inl (.inl h1))
    obtain ⟨as, hr, hn⟩ := DqAll.reads I h2 rv
    exact ⟨_, .tuple ho hc hd hr, hn⟩
  | _, _, u, .dct (a := a) (kvs := kvs) h1 h2, r => by
    cases (show u = Value.ref a from r)
    obtain ⟨_, hsys, vs, hk, o, es, ep, e1, e2, e3, _, hp, _⟩ := I.hok a _ h2
    obtain ⟨r1, r2⟩ := pairs_read (X := X) (h := s.heap) hp hk
    refine ⟨_, .dict e1 e2.1 e3 r1 r2, fun _ z => ?_⟩
    have z' : sysModules = a := by simpa using z
    rw [← z'] at hsys
    simp at hsys
theorem DqAll.reads (I : Inv X pins σ H s) : ∀ {ds : List PyData} {vs : List V} {us : List Value}, DqAll l b H vs ds → Vals vs us → ∃ as, ReadsAll s.heap us ds as ∧ (l = false → sysModules ∉ as)
  | _, _, _, .nil, r => by
    cases r
    exact ⟨_, .nil, fun _ z => nomatch z⟩
  | _, _, _, .cons h1 h2, r => by
    cases r with
    | cons r1 r2 =>
      obtain ⟨as, q1, n1⟩ := Dq.reads I h1 r1
      obtain ⟨bs, q2, n2⟩ := DqAll.reads I h2 r2
      refine ⟨_, .cons q1 q2, fun z y => ?_⟩
      rcases List.mem_append.mp y with y | y
      · exact n1 z y
      · exact n2 z y
end
/-- it can be shown in so many signs, at such a depth -/
def Small (m k : Nat) (d : PyData) : Prop := d.showable = true ∧ d.shown.length ≤ m ∧ d.depth ≤ k
/-- repr of a thing -/
def rReprQ : List V → Hp → VK → Prop := fun xs H Q => ∃ x l b d, xs = [x] ∧ Dq l b H x d ∧ Small 100000 20 d ∧ Q (.str d.shown) H
theorem call_reprQ {k : Nat} (gd : X.A.guards = some []) (hr : Room k X.A) : CallR X (.builtin "repr") rReprQ := by
  intro pins s σ H xs us Q I r h
  obtain ⟨x, l, b, d, rfl, hd, ⟨hs, hl, hz⟩, q⟩ := h
  obtain ⟨u, rfl, ru⟩ := vals1 r
  have un := hr.un
  have hl' : d.shown.length ≤ sizeLine := Nat.le_trans hl (by decide)
  obtain ⟨as, rd, hn⟩ := Dq.reads I hd ru
  have hsm : d.hasDict = true → sysModules ∉ as := fun z => by
    cases l with
    | false => exact hn rfl
    | true => rw [Dq.noDict hd] at z; exact nomatch z
  cases hd with
  | non => cases (show u = Value.none from ru); exact PySem.P.repr_of_none ⟨.str _, H, I.tok _, ⟨_, rfl⟩, q⟩
  | bl b => cases (show u = Value.bool b from ru); exact PySem.P.repr_of_bool ⟨.str _, H, I.tok _, ⟨_, rfl⟩, q⟩
  | int i => obtain ⟨t, rfl⟩ := (show ∃ t, u = Value.int i t from ru); exact PySem.P.repr_of_int (of_decide_eq_true hs) ⟨.str _, H, I.tok _, ⟨_, rfl⟩, q⟩
  | str y => obtain ⟨t, rfl⟩ := (show ∃ t, u = Value.str y t from ru); exact PySem.P.repr_of_str ⟨.str _, H, I.tok _, ⟨_, rfl⟩, q⟩ hl'
  | @lst a ys ds h1 h2 h3 h4 =>
    cases (show u = Value.ref a from ru)
    exact repr_of_reads' rd hs hsm gd (by omega) (fun _ _ z => z) (fun h' u tk hk => ⟨.str _, H, I.kept hk, ⟨_, rfl⟩, q⟩) hl'
  | @tup a ys ds h1 h2 =>
    cases (show u = Value.ref a from ru)
    exact repr_of_reads' rd hs hsm gd (by omega) (fun _ _ z => z) (fun h' u tk hk => ⟨.str _, H, I.kept hk, ⟨_, rfl⟩, q⟩) hl'
  | @dct a kvs h1 h2 =>
    cases (show u = Value.ref a from ru)
    exact repr_of_reads' rd hs hsm gd (by omega) (fun _ _ z => z) (fun h' u tk hk => ⟨.str _, H, I.kept hk, ⟨_, rfl⟩, q⟩) hl'
/-- xs == [] -/
def rEqNil (K : PySem.W.Frag) : R2 := fun x y H Q => ∃ l m xs, x = .ref l ∧ y = .ref m ∧ SqL K H l xs ∧ SqL K H m [] ∧ Q (.bl xs.isEmpty) H
theorem op_eqNil {k : Nat} (hr : Room k X.A) : OpR X (compareOp .Eq) (rEqNil X.K) := by
  intro pins s σ H x y v u Q I rx ry h
  obtain ⟨l, m, xs, rfl, rfl, h1, h2, q⟩ := h
  cases rx
  cases ry
  have un := hr.un
  obtain ⟨its, r1, p1, _⟩ := I.list h1
  obtain ⟨its2, r2, p2, _⟩ := I.list h2
  cases r2
  cases xs with
  | nil =>
    cases r1
    exact SeqAt.eq_listAt (e := fun _ => true) p1.isList p2.isList rfl (by omega) (fun j h1 h2 => absurd h1 (by simp)) ⟨.bl true, H, I, rfl, q⟩
  | cons x r =>
    cases r1
    exact SeqAt.eq_list_lengthsAt p1.isList p2.isList (by simp) (by omega) ⟨.bl false, H, I, rfl, q⟩
end
end KGX

namespace KGX
open PySem PySem.Spec PyProof.Rows L2
theorem Small.mono {m k m' k' : Nat} {d : PyData} (h : Small m k d) (hm : m ≤ m') (hk : k ≤ k') : Small m' k' d := ⟨h.1, Nat.le_trans h.2.1 hm, Nat.le_trans h.2.2 hk⟩
theorem small_int {i : Int} {n : Nat} (h : i.natAbs < 2 ^ n) (h0 : 0 < n) (hn : n ≤ 1920) : Small (n + 1) 0 (.int i) := by
  have e0 := PySem.Flt.log2_lt_of h0 h
  have e := int_text_length_le (k := n) h0 e0
  refine ⟨decide_eq_true (Nat.lt_of_lt_of_le e0 hn), ?_, Nat.le_refl _⟩
  show (Str.ofString (toString i)).length ≤ _
  rw [PySem.ofString_length]
  exact e
theorem all_show {m k : Nat} : ∀ {ds : List PyData}, (∀ d ∈ ds, Small m k d) → PyData.showableAll ds = true ∧ ((PyData.shownAll ds).map (·.length)).sum ≤ m * ds.length ∧ PyData.depthAll ds ≤ k ∧ (PyData.shownAll ds).length = ds.length
  | [], _ => ⟨rfl, Nat.le_refl _, Nat.zero_le _, rfl⟩
  | d :: r, h => by
    obtain ⟨a1, a2, a3⟩ := h d List.mem_cons_self
    obtain ⟨b1, b2, b3, b4⟩ := all_show (ds := r) fun x hx => h x (List.mem_cons_of_mem _ hx)
    refine ⟨?_, ?_, ?_, ?_⟩
    · show (PyData.showable d && PyData.showableAll r) = true
      rw [a1, b1]; rfl
    · show (PyData.shown d).length + ((PyData.shownAll r).map (·.length)).sum ≤ m * (r.length + 1)
      rw [Nat.mul_add, Nat.mul_one]
      omega
    · exact Nat.max_le.mpr ⟨a3, b3⟩
    · show (PyData.shownAll r).length + 1 = r.length + 1
      rw [b4]
theorem mul_le_n {m a n : Nat} (h : a ≤ n) : m * a + 2 * a + 3 ≤ (m + 2) * n + 3 := by
  have h1 : m * a ≤ m * n := Nat.mul_le_mul_left m h
  rw [Nat.add_mul]
  omega
theorem small_tup {m k n : Nat} {ds : List PyData} (hn : ds.length ≤ n) (h : ∀ d ∈ ds, Small m k d) : Small ((m + 2) * n + 3) (k + 1) (.tuple ds) := by
  obtain ⟨a1, a2, a3, a4⟩ := all_show h
  refine ⟨a1, ?_, ?_⟩
  · have e := tupleText_len_le (PyData.shownAll ds)
    show (tupleText (PyData.shownAll ds)).length ≤ _
    rw [a4] at e
    exact Nat.le_trans e (Nat.le_trans (by omega) (mul_le_n (m := m) hn))
  · show PyData.depthAll ds + 1 ≤ k + 1
    omega
theorem small_lst {m k n : Nat} {ds : List PyData} (hn : ds.length ≤ n) (h : ∀ d ∈ ds, Small m k d) : Small ((m + 2) * n + 3) (k + 1) (.list ds) := by
  obtain ⟨a1, a2, a3, a4⟩ := all_show h
  refine ⟨a1, ?_, ?_⟩
  · have e := listText_len_le (PyData.shownAll ds)
    show (listText (PyData.shownAll ds)).length ≤ _
    rw [a4] at e
    exact Nat.le_trans e (Nat.le_trans (by omega) (mul_le_n (m := m) hn))
  · show PyData.depthAll ds + 1 ≤ k + 1
    omega
/-- a part of a thing; a thing -/
def ItAt (l : Bool) (b : Addr) (H : Hp) (x : V) : Prop := ∃ d, Dq l b H x d ∧ Small 2000 6 d
def ThAt (b : Addr) (H : Hp) (x : V) : Prop := ∃ l d, Dq l b H x d ∧ Small 100000 20 d
section
variable {l : Bool} {b : Addr} {H H' : Hp} {o : List V} {x : V}
theorem ItAt.mono (h : ItAt l b H x) (s : Same H H') : ItAt l b H' x := by
  obtain ⟨d, h1, h2⟩ := h
  exact ⟨d, h1.mono s, h2⟩
theorem ItAt.kp (h : ItAt l b H x) (eb : H b = some (.lst o)) (k : Kp b H H') : ItAt l b H' x := by
  obtain ⟨d, h1, h2⟩ := h
  exact ⟨d, h1.kp eb k, h2⟩
theorem ThAt.mono (h : ThAt b H x) (s : Same H H') : ThAt b H' x := by
  obtain ⟨l, d, h1, h2⟩ := h
  exact ⟨l, d, h1.mono s, h2⟩
theorem ThAt.kp (h : ThAt b H x) (eb : H b = some (.lst o)) (k : Kp b H H') : ThAt b H' x := by
  obtain ⟨l, d, h1, h2⟩ := h
  exact ⟨l, d, h1.kp eb k, h2⟩
theorem ItAt.th (h : ItAt l b H x) : ThAt b H x := by
  obtain ⟨d, h1, h2⟩ := h
  exact ⟨l, d, h1, h2.mono (by decide) (by decide)⟩
theorem its_all : ∀ {xs : List V}, (∀ x ∈ xs, ItAt l b H x) → ∃ ds, DqAll l b H xs ds ∧ ds.length = xs.length ∧ ∀ d ∈ ds, Small 2000 6 d
  | [], _ => ⟨[], .nil, rfl, fun _ h => nomatch h⟩
  | x :: r, h => by
    obtain ⟨d, h1, h2⟩ := h x List.mem_cons_self
    obtain ⟨ds, g1, g2, g3⟩ := its_all (xs := r) fun y hy => h y (List.mem_cons_of_mem _ hy)
    refine ⟨d :: ds, .cons h1 g1, by rw [List.length_cons, List.length_cons, g2], fun e he => ?_⟩
    rcases List.mem_cons.mp he with rfl | he
    · exact h2
    · exact g3 e he
theorem th_tup {a : Addr} {xs : List V} (e : H a = some (.tup xs)) (hl : xs.length ≤ 40) (h : ∀ x ∈ xs, ItAt l b H x) : ThAt b H (.ref a) := by
  obtain ⟨ds, g1, g2, g3⟩ := its_all h
  exact ⟨l, _, .tup e g1, (small_tup (n := 40) (by omega) g3).mono (by decide) (by decide)⟩
theorem th_lst {a : Addr} {xs : List V} (hb : a ≠ b) (e : H a = some (.lst xs)) (hl : xs.length ≤ 40) (h : ∀ x ∈ xs, ItAt true b H x) : ThAt b H (.ref a) := by
  obtain ⟨ds, g1, g2, g3⟩ := its_all h
  exact ⟨true, _, .lst rfl hb e g1, (small_lst (n := 40) (by omega) g3).mono (by decide) (by decide)⟩
theorem it_int {i : Int} (h : i.natAbs < 2 ^ 200) : ItAt l b H (.int i) := ⟨_, .int i, (small_int (n := 200) h (by decide) (by decide)).mono (by decide) (by decide)⟩
theorem it_ints {ns : List Int} (h : ∀ i ∈ ns, i.natAbs < 2 ^ 200) : ∀ x ∈ ns.map V.int, ItAt l b H x := fun x hx => by
  obtain ⟨i, hi, rfl⟩ := List.mem_map.mp hx
  exact it_int (h i hi)
theorem it_bl (x : Bool) : ItAt l b H (.bl x) := ⟨_, .bl x, by cases x <;> exact ⟨rfl, by decide, by decide⟩⟩
theorem it_non : ItAt l b H .non := ⟨_, .non, ⟨rfl, by decide, by decide⟩⟩
/-- a short row of ints, as a tuple, as a list -/
theorem it_tup {a : Addr} {ns : List Int} (e : H a = some (.tup (ns.map V.int))) (hl : ns.length ≤ 4) (h : ∀ i ∈ ns, i.natAbs < 2 ^ 200) : ItAt l b H (.ref a) := by
  refine ⟨_, .tup e (DqAll.ints ns), (small_tup (m := 201) (k := 0) (n := 4) (by rw [List.length_map]; exact hl) fun d hd => ?_).mono (by decide) (by decide)⟩
  obtain ⟨i, hi, rfl⟩ := List.mem_map.mp hd
  exact small_int (h i hi) (by decide) (by decide)
theorem it_lst {a : Addr} {ns : List Int} (hb : a ≠ b) (e : H a = some (.lst (ns.map V.int))) (hl : ns.length ≤ 4) (h : ∀ i ∈ ns, i.natAbs < 2 ^ 200) : ItAt true b H (.ref a) := by
  refine ⟨_, .lst rfl hb e (DqAll.ints ns), (small_lst (m := 201) (k := 0) (n := 4) (by rw [List.length_map]; exact hl) fun d hd => ?_).mono (by decide) (by decide)⟩
  obtain ⟨i, hi, rfl⟩ := List.mem_map.mp hd
  exact small_int (h i hi) (by decide) (by decide)
/-- a tuple of what is known -/
theorem it_of {a : Addr} {xs : List V} {ds : List PyData} (e : H a = some (.tup xs)) (h : DqAll l b H xs ds) (s : Small 2000 6 (.tuple ds)) : ItAt l b H (.ref a) := ⟨_, .tup e h, s⟩
end
theorem it_str {l : Bool} {b : Addr} {H : Hp} {i : Int} (h : i.natAbs < 2 ^ 110) : ItAt l b H (.str (toString i)) := by
  have e0 := PySem.Flt.log2_lt_of (by decide) h
  have e := int_text_length_le (k := 110) (by decide) e0
  refine ⟨_, .str _, rfl, ?_, Nat.zero_le _⟩
  have h1 : (Str.ofString (toString i)).length ≤ 111 := by rw [PySem.ofString_length]; exact e
  have h2 := StrLaws.reprText_len (Str.ofString (toString i)) (fun c hc => by
    rw [show (Str.ofString (toString i)).cps.toList = (toString i).toList.map Char.toNat from PyProof.Rows.signs_ofString _] at hc
    obtain ⟨ch, _, rfl⟩ := List.mem_map.mp hc
    exact Nat.lt_of_lt_of_le (UInt32.toNat_lt ch.val) (by decide))
  show (reprText (Str.ofString (toString i))).length ≤ 2000
  omega
theorem at_in {xs : List V} {i : Int} (h0 : 0 ≤ i) (h1 : i < xs.length) : ∃ x, atI xs i = some x ∧ x ∈ xs := by
  have hk : i.toNat < xs.length := by omega
  exact ⟨xs[i.toNat], at_of (j := i.toNat) (by omega) (List.getElem?_eq_getElem hk), List.getElem_mem hk⟩
def spOdd : Sp := fun vs H Q _ => ∃ (b : Addr) (n : Int), vs = [.ref b] ∧ H b = some (.lst [.int n]) ∧ ∀ H' x n' l, Kp b H H' → H' b = some (.lst [.int n']) → ItAt l b H' x → Q x H'
def spBent : Sp := fun vs H Q _ => ∃ (b r : Addr) (n : Int) (ns : List Int) (x : V) (l : Bool), vs = [.ref b, .ref r, x] ∧ H b = some (.lst [.int n]) ∧ H r = some (.tup (ns.map V.int)) ∧ 1 ≤ ns.length ∧ ns.length ≤ 5 ∧
  (∀ i ∈ ns, i.natAbs < 2 ^ 110) ∧ ItAt l b H x ∧ ∀ H' y n', Kp b H H' → H' b = some (.lst [.int n']) → ThAt b H' y → Q y H'
theorem rTimes_by {K : PySem.W.Frag} {H : Hp} {Q : VK} {l : Addr} {k : Int} {xs : List V} (h : SqT K H l xs) (hx : H l = some (.tup xs)) (hne : xs ≠ []) (h1 : 1 ≤ k) (h2 : k ≤ 1000) (h3 : xs.length ≤ 1000)
    (q : ∀ p H', Same H H' → H' p = some (.tup (List.replicate k.toNat xs).flatten) → Q (.ref p) H') : KG.rTimes K (.ref l) (.int k) H Q := by
  refine ⟨l, k, xs, rfl, rfl, h, hne, h1, h2, h3, fun e => ?_, fun _ p hp => q p _ (same_new hp) upd_same⟩
  refine q l H (Same.refl _) ?_
  subst e
  rw [hx]
  show _ = some (HO.tup (xs ++ []))
  rw [List.append_nil]
end KGX

namespace KGX
theorem rat_num {t b : Int} (h : 0 < b) : ((t : Rat) / (b : Rat)).num = t / (Int.gcd t b : Int) := by
  rw [← Rat.divInt_eq_div, Rat.num_divInt, Int.sign_eq_one_of_pos h, Int.one_mul, Int.gcd_comm]
theorem rat_den {t b : Int} (h : 0 < b) : (((t : Rat) / (b : Rat)).den : Int) = b / (Int.gcd t b : Int) := by
  rw [← Rat.divInt_eq_div, Rat.den_divInt]
  rw [if_neg (by omega), Int.gcd_comm]
  rw [Int.natCast_ediv]
  congr 1
  omega
theorem rat_self (x : Rat) : x = (x.num : Rat) / ((x.den : Int) : Rat) := by
  rw [← Rat.divInt_eq_div]; exact (Rat.num_divInt_den x).symm
theorem den_pos (x : Rat) : 0 < (x.den : Int) := by have := x.den_pos; omega
theorem den_ne (x : Rat) : ((x.den : Int) : Rat) ≠ 0 := by
  have := den_pos x
  exact_mod_cast (show (x.den : Int) ≠ 0 by omega)
theorem cast_ne {b : Int} (h : 0 < b) : (b : Rat) ≠ 0 := by
  intro z
  have : b = 0 := by exact_mod_cast z
  omega
theorem rat_add (x y : Rat) : ((x.num * y.den + y.num * x.den : Int) : Rat) / ((x.den * y.den : Int) : Rat) = x + y := by
  have h1 := den_ne x
  have h2 := den_ne y
  have e1 := rat_self x
  have e2 := rat_self y
  rw [Rat.intCast_add, Rat.intCast_mul, Rat.intCast_mul, Rat.intCast_mul]
  generalize (x.num : Rat) = a at *
  generalize ((x.den : Int) : Rat) = b at *
  generalize (y.num : Rat) = c at *
  generalize ((y.den : Int) : Rat) = d at *
  subst e1 e2
  grind
theorem rat_sub (x y : Rat) : ((x.num * y.den - y.num * x.den : Int) : Rat) / ((x.den * y.den : Int) : Rat) = x - y := by
  have h1 := den_ne x
  have h2 := den_ne y
  have e1 := rat_self x
  have e2 := rat_self y
  rw [Rat.intCast_sub, Rat.intCast_mul, Rat.intCast_mul, Rat.intCast_mul]
  generalize (x.num : Rat) = a at *
  generalize ((x.den : Int) : Rat) = b at *
  generalize (y.num : Rat) = c at *
  generalize ((y.den : Int) : Rat) = d at *
  subst e1 e2
  grind
theorem rat_mul (x y : Rat) : ((x.num * y.num : Int) : Rat) / ((x.den * y.den : Int) : Rat) = x * y := by
  have h1 := den_ne x
  have h2 := den_ne y
  have e1 := rat_self x
  have e2 := rat_self y
  rw [Rat.intCast_mul, Rat.intCast_mul]
  generalize (x.num : Rat) = a at *
  generalize ((x.den : Int) : Rat) = b at *
  generalize (y.num : Rat) = c at *
  generalize ((y.den : Int) : Rat) = d at *
  subst e1 e2
  grind
theorem rat_lt (x y : Rat) : decide (x.num * y.den < y.num * x.den) = decide (x < y) := by
  rw [decide_eq_decide]; exact (Rat.lt_iff x y).symm
/-! ### sizes -/
def Sz (n : Nat) (x : Rat) : Prop := x.num.natAbs < 2 ^ n ∧ x.den < 2 ^ n
theorem Sz.mono {m n : Nat} {x : Rat} (h : Sz m x) (l : m ≤ n) : Sz n x :=
  ⟨Nat.lt_of_lt_of_le h.1 (Nat.pow_le_pow_right (by decide) l), Nat.lt_of_lt_of_le h.2 (Nat.pow_le_pow_right (by decide) l)⟩
theorem sz_div {t b : Int} {n : Nat} (h : 0 < b) (ht : t.natAbs < 2 ^ n) (hb : b.natAbs < 2 ^ n) : Sz n ((t : Rat) / (b : Rat)) := by
  refine ⟨?_, ?_⟩
  · rw [rat_num h]; exact Nat.lt_of_le_of_lt (Int.natAbs_ediv_le_natAbs _ _) ht
  · have e := rat_den (t := t) h
    have l : (b / (Int.gcd t b : Int)).natAbs ≤ b.natAbs := Int.natAbs_ediv_le_natAbs _ _
    omega
theorem nat_mul_lt {a b m n : Nat} (ha : a < 2 ^ m) (hb : b < 2 ^ n) : a * b < 2 ^ (m + n) := by
  rw [Nat.pow_add]
  exact Nat.mul_lt_mul'' ha hb
theorem Sz.add {m n : Nat} {x y : Rat} (hx : Sz m x) (hy : Sz n y) : Sz (m + n + 1) (x + y) := by
  rw [← rat_add]
  have a1 := nat_mul_lt hx.1 hy.2
  have a2 := nat_mul_lt hy.1 hx.2
  have a3 := nat_mul_lt hx.2 hy.2
  refine sz_div (Int.mul_pos (den_pos x) (den_pos y)) ?_ ?_
  · rw [Nat.add_comm n m] at a2
    have := Int.natAbs_add_le (x.num * y.den) (y.num * x.den)
    rw [Int.natAbs_mul, Int.natAbs_mul] at this
    simp only [Int.natAbs_natCast] at this
    rw [Nat.pow_succ]; omega
  · rw [Int.natAbs_mul]; simp only [Int.natAbs_natCast]; rw [Nat.pow_succ]; omega
theorem Sz.neg {m : Nat} {x : Rat} (hx : Sz m x) : Sz m (-x) := ⟨by rw [Rat.neg_num, Int.natAbs_neg]; exact hx.1, by rw [Rat.neg_den]; exact hx.2⟩
theorem Sz.sub {m n : Nat} {x y : Rat} (hx : Sz m x) (hy : Sz n y) : Sz (m + n + 1) (x - y) := by
  rw [Rat.sub_eq_add_neg]; exact hx.add hy.neg
theorem Sz.mul {m n : Nat} {x y : Rat} (hx : Sz m x) (hy : Sz n y) : Sz (m + n) (x * y) := by
  rw [← rat_mul]
  have a1 := nat_mul_lt hx.1 hy.1
  have a3 := nat_mul_lt hx.2 hy.2
  refine sz_div (Int.mul_pos (den_pos x) (den_pos y)) ?_ ?_
  · rw [Int.natAbs_mul]; exact a1
  · rw [Int.natAbs_mul]; simp only [Int.natAbs_natCast]; exact a3
theorem sz_int {t : Int} {n : Nat} (ht : t.natAbs < 2 ^ n) (h0 : 0 < n) : Sz n (t : Rat) := by
  refine ⟨by rw [Rat.num_intCast]; exact ht, ?_⟩
  rw [Rat.den_intCast]
  exact Nat.one_lt_two_pow (by omega)
/-! ### until all have come -/
section
variable (g : Rat → Rat)
/-- over all parts T of ws: g of c and T together, of an odd number less of an even one -/
def altS : List Rat → Rat → Rat
  | [], c => - g c
  | x :: ws, c => altS ws c - altS ws (c + x)
end
/-- each weight times that of the others -/
def dsum (g : Rat → Rat) : List Rat → List Rat → Rat → Rat
  | _, [], _ => 0
  | pre, x :: ws, c => x * altS g (pre ++ ws) c + dsum g (pre ++ [x]) ws c
theorem altS_app (g : Rat → Rat) (y : Rat) : ∀ (ws : List Rat) (c : Rat), altS g (ws ++ [y]) c = altS g ws c - altS g ws (c + y)
  | [], c => rfl
  | x :: ws, c => by
    show altS g (ws ++ [y]) c - altS g (ws ++ [y]) (c + x) = (altS g ws c - altS g ws (c + x)) - (altS g ws (c + y) - altS g ws (c + y + x))
    rw [altS_app g y ws c, altS_app g y ws (c + x), show c + x + y = c + y + x by grind]
    grind
theorem dsum_pre (g : Rat → Rat) (y : Rat) : ∀ (ws pre : List Rat) (c : Rat), dsum g (y :: pre) ws c = dsum g pre ws c - dsum g pre ws (c + y)
  | [], _, c => by show (0 : Rat) = 0 - 0; grind
  | x :: ws, pre, c => by
    show x * altS g (y :: (pre ++ ws)) c + dsum g (y :: (pre ++ [x])) ws c = x * altS g (pre ++ ws) c + dsum g (pre ++ [x]) ws c - (x * altS g (pre ++ ws) (c + y) + dsum g (pre ++ [x]) ws (c + y))
    rw [dsum_pre g y ws (pre ++ [x]) c]
    show x * (altS g (pre ++ ws) c - altS g (pre ++ ws) (c + y)) + _ = _
    grind
def per (t : Rat) (y : Rat) : Rat := t / y
theorem dsum_pos (t : Rat) : ∀ (ws : List Rat) (c : Rat), 0 < c → (∀ x ∈ ws, 0 < x) → dsum (per t) [] ws c = (ws.sum + c) * altS (per t) ws c + if ws = [] then t else 0
  | [], c, h, _ => by
    have h0 : c ≠ 0 := by grind
    show (0 : Rat) = (0 + c) * (-(t / c)) + t
    grind
  | x :: ws, c, h, hw => by
    have hx := hw x List.mem_cons_self
    have i1 := dsum_pos t ws c h (fun y hy => hw y (List.mem_cons_of_mem _ hy))
    have i2 := dsum_pos t ws (c + x) (by grind) (fun y hy => hw y (List.mem_cons_of_mem _ hy))
    show x * altS (per t) ws c + dsum (per t) [x] ws c = _
    rw [dsum_pre, i1, i2]
    rw [if_neg (show ¬ (x :: ws = []) by simp), List.sum_cons]
    show _ = (x + ws.sum + c) * (altS (per t) ws c - altS (per t) ws (c + x)) + 0
    grind
theorem dsum_zero (t : Rat) : ∀ (ws : List Rat), (∀ x ∈ ws, 0 < x) → dsum (per t) [] ws 0 = ws.sum * altS (per t) ws 0 - if ws = [] then 0 else t
  | [], _ => by show (0 : Rat) = 0 * _ - 0; grind
  | x :: ws, hw => by
    have hx := hw x List.mem_cons_self
    have i1 := dsum_zero t ws (fun y hy => hw y (List.mem_cons_of_mem _ hy))
    have i2 := dsum_pos t ws (0 + x) (by grind) (fun y hy => hw y (List.mem_cons_of_mem _ hy))
    show x * altS (per t) ws 0 + dsum (per t) [x] ws 0 = _
    rw [dsum_pre, i1, i2]
    rw [if_neg (show ¬ (x :: ws = []) by simp), List.sum_cons]
    show _ = (x + ws.sum) * (altS (per t) ws 0 - altS (per t) ws (0 + x)) - t
    by_cases e : ws = []
    · rw [if_pos e, if_pos e]; grind
    · rw [if_neg e, if_neg e]; grind
open PySem PySem.Spec PyProof.Rows L2
/-! ### fractions as numbers -/
def frV (x : Rat) : List V := [.int x.num, .int (x.den : Int)]
theorem low_eq {t b : Int} (h : 0 < b) : low t b = frV ((t : Rat) / (b : Rat)) := by
  unfold low frV
  rw [rat_num h, rat_den h]
def newR (x : Rat) : VK → Hp → Prop := fun Q H => ∀ H' r, Same H H' → H r = none → H' r = some (.tup (frV x)) → Q (.ref r) H'
theorem frV_gcd (x : Rat) : Int.gcd x.num (x.den : Int) = 1 := x.reduced
theorem Sz.fr {x : Rat} (h : Sz 4000 x) : Fr x.num (x.den : Int) := ⟨den_pos x, frV_gcd x, h.1, by rw [Int.natAbs_natCast]; exact h.2⟩
section
variable {H : Hp} {Q : VK} {E : XK} {p q : Addr} {x y : Rat}
theorem less_by (ep : H p = some (.tup (frV x))) (eq : H q = some (.tup (frV y))) (sx : Sz 4000 x) (sy : Sz 4000 y) (k : Q (.bl (decide (x < y))) H) : spIsLess [.ref p, .ref q] H Q E :=
  ⟨p, q, _, _, _, _, rfl, ep, eq, sx.fr, sy.fr, by show Q (.bl (decide (x.num * y.den < y.num * x.den))) H; rw [rat_lt]; exact k⟩
end
theorem low_add (x y : Rat) : low (x.num * (y.den : Int) + y.num * (x.den : Int)) ((x.den : Int) * (y.den : Int)) = frV (x + y) := by rw [low_eq (Int.mul_pos (den_pos x) (den_pos y)), rat_add]
theorem low_sub (x y : Rat) : low (x.num * (y.den : Int) - y.num * (x.den : Int)) ((x.den : Int) * (y.den : Int)) = frV (x - y) := by rw [low_eq (Int.mul_pos (den_pos x) (den_pos y)), rat_sub]
theorem low_times (x y : Rat) : low (x.num * y.num) ((x.den : Int) * (y.den : Int)) = frV (x * y) := by rw [low_eq (Int.mul_pos (den_pos x) (den_pos y)), rat_mul]
theorem low_plus (x : Rat) {c d : Int} (hd : 0 < d) : low (x.num * d + c * (x.den : Int)) ((x.den : Int) * d) = frV (x + (c : Rat) / (d : Rat)) := by
  rw [low_eq (Int.mul_pos (den_pos x) hd)]
  congr 1
  have e1 := rat_self x
  have h1 := den_ne x
  have h2 := cast_ne hd
  rw [Rat.intCast_add, Rat.intCast_mul, Rat.intCast_mul, Rat.intCast_mul]
  generalize (x.num : Rat) = a at *
  generalize ((x.den : Int) : Rat) = b at *
  generalize (c : Rat) = c at *
  generalize (d : Rat) = d at *
  subst e1
  grind
theorem log_den {x : Rat} {n : Nat} (h : Sz n x) (h0 : 0 < n) (hn : n ≤ 1920) : KG.ShowOk (.tuple [.int x.num, .int (x.den : Int)]) :=
  sh_two (log_of h.1 h0 hn) (log_of (by rw [Int.natAbs_natCast]; exact h.2) h0 hn)
theorem dp_fr {K : PySem.W.Frag} {H : Hp} {p : Addr} {x : Rat} (h : H p = some (.tup (frV x))) : Dp K H (.ref p) (.tuple [.int x.num, .int (x.den : Int)]) :=
  .tup (.inl (.inl h)) (.cons (.int _) (.cons (.int _) .nil))
/-! ### a display with one key, a tuple -/
def tDispT1 (tk tv : TE) : TE := fun σ H Q => ∀ p, H p = none → tk σ (upd H p (.dT [])) fun x H1 => tv σ H1 fun y H2 => H2 p = some (.dT []) ∧ ∃ (k : List Key) (b : Addr), x = .ref b ∧ H2 b = some (.tup (k.map kV)) ∧ Q (.ref p) (upd H2 p (.dT [(k, y)]))
theorem pe_dispT1 {X : Cx} {pos : Pos} {k v : Expr} {tk tv : TE} (hu : X.A.units + 1 < cLine) (hk : PE X k tk) (hv : PE X v tv) : PE X (.Dict [some k] [v] pos) (tDispT1 tk tv) := by
  refine ⟨fun pins s σ H Q I q => ?_⟩
  have hn := I.hok.fresh (Nat.le_refl s.heap.objs.size)
  have I1 := I.laid (a := s.heap.objs.size) (o := .dT []) (h' := s.heap.push { cls := .type "dict", data := .dict #[] }) (t' := s.toks) (fun _ _ q => Heap.get?_push_of_some _ q) (Nat.le_refl _) (dt_empty s.heap I.big)
  have hsh := zip_pairTrees [some k] [v] X.env pos rfl rfl
  have hne : pairTrees [some k] [v] X.env pos ≠ [] := fun z => by
    have := pairTrees_length [some k] [v] X.env pos rfl rfl
    rw [z] at this
    exact nomatch this
  have hl : (pairTrees [some k] [v] X.env pos).length ≤ 15 := by rw [pairTrees_length [some k] [v] X.env pos rfl rfl]; show 1 ≤ 15; decide
  rw [arm_eval_Dict, hsh, dictDisplay_pairs _ hne (by omega)]
  refine wpAny_bind (wpAny_standAt (wpAny_bind (wpAny_subDictH (knd := tupleKind (mixKind X.prog X.w)) (by show X.A.units < cLine; omega) hl ?_)))
  refine thn ((pps_cons hk hv pps_nil : PPs X pos [some k] [v] [(tk, tv)]).run pins _ σ _ (fun ps H2 => match ps with
    | [(x, y)] => H2 s.heap.objs.size = some (.dT []) ∧ ∃ (k : List Key) (b : Addr), x = .ref b ∧ H2 b = some (.tup (k.map kV)) ∧ Q (.ref s.heap.objs.size) (upd H2 s.heap.objs.size (.dT [(k, y)]))
    | _ => False) I1 (q _ hn)) ?_
  rintro ws s2 ⟨ps, H2, I2, rel, hq⟩
  match ps, ws, rel, hq with
  | [(x, y)], _, .cons (b := (u1, u2)) ⟨r1, r2⟩ .nil, ⟨e, kk, b, ex, eb, q2⟩ =>
    subst ex
    cases (show u1 = Value.ref b from r1)
    obtain ⟨z, hd, xs, r0, dd⟩ := dt_of I2.hok e
    cases r0
    refine ⟨[(kk, b, u2)], ⟨rfl, rfl, key_of I2.hok eb, trivial⟩, dd, fun h' tk dd' hs => wpAny_pure ⟨.ref s.heap.objs.size, _, ?_, rfl, q2⟩⟩
    obtain ⟨o, es, ep, ho, h2, h3, h4, _, h5⟩ := dd'
    refine d_write I2 (by rw [e]; exact True.intro) hs ⟨o, ho⟩ ⟨by show 1 ≤ sizeLine; decide, hd, _, .cons ⟨rfl, ?_, r2⟩ .nil, o, es, ep, ho, h2, h3, h4, h5⟩
    rw [upd_ne (ne_of eb e (fun z => nomatch z))]
    exact eb
end KGX

namespace KGX
open PySem PySem.Spec PyProof.Rows L2
/-! ### all some kinds -/
def rg (n : Nat) : List Int := (List.range n).map fun i : Nat => (i : Int)
theorem rgV_rg (n : Nat) : rgV 0 (n : Int) = (rg n).map V.int := by
  unfold rgV rg
  rw [List.map_map, show ((n : Int) - 0).toNat = n by omega]
  refine List.map_congr_left fun i _ => ?_
  show V.int (0 + (i : Int)) = V.int (i : Int)
  rw [Int.zero_add]
def allSub (ks : List Int) : List (List Int) := ks.foldl (fun f k => f ++ f.map (· ++ [k])) [[]]
theorem allSub_app (ks : List Int) (k : Int) : allSub (ks ++ [k]) = allSub ks ++ (allSub ks).map (· ++ [k]) := by
  unfold allSub
  rw [List.foldl_append]
  rfl
theorem allSub_len : ∀ (m : Nat) (ks : List Int), ks.length = m → (allSub ks).length = 2 ^ m
  | 0, ks, h => by rw [List.eq_nil_of_length_eq_zero h]; rfl
  | m + 1, ks, h => by
    rcases List.eq_nil_or_concat ks with rfl | ⟨r, k, rfl⟩
    · exact nomatch h
    · rw [List.concat_eq_append] at h ⊢
      rw [List.length_append] at h
      rw [allSub_app, List.length_append, List.length_map, allSub_len m r (by simpa using h), Nat.pow_succ]
      omega
theorem allSub_le : ∀ (m : Nat) (ks : List Int), ks.length = m → ∀ S ∈ allSub ks, S.length ≤ m
  | 0, ks, h => by
    rw [List.eq_nil_of_length_eq_zero h]
    intro S hS
    rw [List.mem_singleton.mp hS]
    exact Nat.le_refl _
  | m + 1, ks, h => by
    rcases List.eq_nil_or_concat ks with rfl | ⟨r, k, rfl⟩
    · exact nomatch h
    · rw [List.concat_eq_append] at h ⊢
      have hr : r.length = m := by rw [List.length_append] at h; simpa using h
      rw [allSub_app]
      intro S hS
      rcases List.mem_append.mp hS with hS | hS
      · have := allSub_le m r hr S hS; omega
      · obtain ⟨T, hT, rfl⟩ := List.mem_map.mp hS
        have := allSub_le m r hr T hT
        rw [List.length_append, List.length_singleton]; omega
/-- what is to be known of the somes of up to five kinds -/
def okSub (n : Nat) : Bool :=
  (List.range (2 ^ n)).all fun i =>
    let S := (allSub (rg n)).getD i []
    decide (S.length ≤ 5) && S.all (fun k => decide (0 ≤ k) && decide (k < n)) && decide (S.Pairwise (· < ·)) && S.all (fun k => ((allSub (rg n)).take i).contains (S.filter (fun j => decide (j ≠ k)))) && !((allSub (rg n)).take i).contains S && (i == 0 || !S.isEmpty)
theorem okSub_all : ∀ n, n ≤ 5 → okSub n = true
  | 0, _ | 1, _ | 2, _ | 3, _ | 4, _ | 5, _ => by decide +kernel
  | n + 6, h => by omega
theorem rg_succ (n : Nat) : rg (n + 1) = rg n ++ [(n : Int)] := by unfold rg; rw [List.range_succ, List.map_append]; rfl
theorem rg_len (n : Nat) : (rg n).length = n := by unfold rg; rw [List.length_map, List.length_range]
structure SubAt (n i : Nat) (S : List Int) : Prop where
  len : S.length ≤ 5
  mem : ∀ k ∈ S, 0 ≤ k ∧ k < n
  rise : Rise S
  fewer : ∀ k ∈ S, S.filter (fun j => decide (j ≠ k)) ∈ (allSub (rg n)).take i
  new : S ∉ (allSub (rg n)).take i
  one : i ≠ 0 → S ≠ []
theorem sub_at {n i : Nat} {S : List Int} (h : n ≤ 5) (e : (allSub (rg n))[i]? = some S) : SubAt n i S := by
  have o := okSub_all n h
  have hi := (List.getElem?_eq_some_iff.mp e).1
  rw [allSub_len n _ (rg_len n)] at hi
  have o1 := List.all_eq_true.mp o i (List.mem_range.mpr hi)
  have eS : (allSub (rg n)).getD i [] = S := by rw [List.getD_eq_getElem?_getD, e]; rfl
  simp only [eS, Bool.and_eq_true, decide_eq_true_eq, List.all_eq_true, Bool.or_eq_true, Bool.not_eq_true', List.contains_eq_mem, List.isEmpty_eq_false_iff, beq_iff_eq, decide_eq_false_iff_not] at o1
  obtain ⟨⟨⟨⟨⟨o1, o2⟩, o3⟩, o4⟩, o5⟩, o6⟩ := o1
  exact ⟨o1, o2, o3, o4, o5, fun z => o6.resolve_left z⟩
theorem sub_all {n : Nat} {S : List Int} (h : n ≤ 5) (e : S ∈ allSub (rg n)) : ∃ i, i < 2 ^ n ∧ (allSub (rg n))[i]? = some S ∧ SubAt n i S := by
  obtain ⟨i, hi, e⟩ := List.mem_iff_getElem.mp e
  have e' : (allSub (rg n))[i]? = some S := by rw [List.getElem?_eq_getElem hi, e]
  refine ⟨i, ?_, e', sub_at h e'⟩
  rw [allSub_len n _ (rg_len n)] at hi
  exact hi
theorem sub_nil {n : Nat} : (allSub (rg n))[0]? = some [] := by
  induction n with
  | zero => rfl
  | succ n ih =>
    have : rg (n + 1) = rg n ++ [(n : Int)] := by unfold rg; rw [List.range_succ, List.map_append]; rfl
    rw [this, allSub_app, List.getElem?_append_left, ih]
    rw [allSub_len n _ (rg_len n)]
    exact Nat.two_pow_pos n
theorem sub_last {n : Nat} : (allSub (rg n))[2 ^ n - 1]? = some (rg n) := by
  induction n with
  | zero => rfl
  | succ n ih =>
    have : rg (n + 1) = rg n ++ [(n : Int)] := by unfold rg; rw [List.range_succ, List.map_append]; rfl
    have hp := Nat.two_pow_pos n
    rw [this, allSub_app, List.getElem?_append_right (by rw [allSub_len n _ (rg_len n), Nat.pow_succ]; omega), allSub_len n _ (rg_len n), List.getElem?_map, show 2 ^ (n + 1) - 1 - 2 ^ n = 2 ^ n - 1 by rw [Nat.pow_succ]; omega, ih]
    rfl
theorem rg_mem {n : Nat} : rg n ∈ allSub (rg n) := List.mem_of_getElem? sub_last
/-! ### means by who is left -/
theorem sumR_app : ∀ (xs ys : List Rat), (xs ++ ys).sum = xs.sum + ys.sum
  | [], ys => by show ys.sum = 0 + ys.sum; grind
  | x :: xs, ys => by
    have ih := sumR_app xs ys
    show x + (xs ++ ys).sum = (x + xs.sum) + ys.sum
    rw [ih]; grind
theorem sumZ_app : ∀ (xs ys : List Int), (xs ++ ys).sum = xs.sum + ys.sum
  | [], ys => by show ys.sum = 0 + ys.sum; omega
  | x :: xs, ys => by
    have ih := sumZ_app xs ys
    show x + (xs ++ ys).sum = (x + xs.sum) + ys.sum
    rw [ih]; omega
theorem cast_sum : ∀ (xs : List Int), ((xs.sum : Int) : Rat) = (xs.map fun x : Int => (x : Rat)).sum
  | [] => rfl
  | x :: xs => by
    have ih := cast_sum xs
    show ((x + xs.sum : Int) : Rat) = (x : Rat) + (xs.map fun x : Int => (x : Rat)).sum
    rw [Rat.intCast_add, ih]
/-- the share of a kind -/
def sh (ns : List Int) (k : Int) : Int := ns.getD k.toNat 0
def wts (ns S : List Int) : List Rat := S.map fun k => (sh ns k : Rat)
theorem wts_pick (ns S : List Int) : wts ns S = (pick ns S).map fun x : Int => (x : Rat) := by unfold wts pick sh; rw [List.map_map]; rfl
theorem wts_sum (ns S : List Int) : (wts ns S).sum = (((pick ns S).sum : Int) : Rat) := by rw [wts_pick, cast_sum]
/-- over all somes of S: of an odd number less of an even one -/
def sgn (g : Rat → Rat) (ns : List Int) (c : Rat) (T : List Int) : Rat := if T.length % 2 = 1 then g (c + (wts ns T).sum) else - g (c + (wts ns T).sum)
theorem sgn_app (g : Rat → Rat) (ns : List Int) (c : Rat) (T : List Int) (k : Int) : sgn g ns c (T ++ [k]) = - sgn g ns (c + (sh ns k : Rat)) T := by
  unfold sgn
  have e : c + (wts ns (T ++ [k])).sum = c + (sh ns k : Rat) + (wts ns T).sum := by
    unfold wts
    rw [List.map_append, sumR_app]
    show c + ((T.map fun k => (sh ns k : Rat)).sum + ((sh ns k : Rat) + 0)) = _
    grind
  rw [e, List.length_append, List.length_singleton]
  by_cases h : T.length % 2 = 1
  · rw [if_neg (by omega), if_pos h]
  · rw [if_pos (by omega), if_neg h]; grind
theorem neg_sum (f : List Int → Rat) : ∀ (l : List (List Int)), (l.map fun T => - f T).sum = - (l.map f).sum
  | [] => by show (0 : Rat) = -0; grind
  | T :: l => by
    have ih := neg_sum f l
    show - f T + (l.map fun T => - f T).sum = - (f T + (l.map f).sum)
    rw [ih]; grind
theorem sgn_sum (g : Rat → Rat) (ns : List Int) : ∀ (m : Nat) (S : List Int) (c : Rat), S.length = m → ((allSub S).map (sgn g ns c)).sum = altS g (wts ns S) c
  | 0, S, c, h => by
    rw [List.eq_nil_of_length_eq_zero h]
    show (if (0 % 2 = 1) then g (c + 0) else - g (c + 0)) + 0 = - g c
    rw [if_neg (by decide), show c + 0 = c by grind]; grind
  | m + 1, S, c, h => by
    rcases List.eq_nil_or_concat S with rfl | ⟨r, k, rfl⟩
    · exact nomatch h
    · rw [List.concat_eq_append] at h ⊢
      have hr : r.length = m := by rw [List.length_append] at h; simpa using h
      have e1 : wts ns (r ++ [k]) = wts ns r ++ [(sh ns k : Rat)] := by unfold wts; rw [List.map_append]; rfl
      rw [allSub_app, List.map_append, sumR_app, List.map_map, e1, altS_app, sgn_sum g ns m r c hr, ← sgn_sum g ns m r (c + (sh ns k : Rat)) hr]
      have e2 : (sgn g ns c ∘ fun x => x ++ [k]) = fun T => - sgn g ns (c + (sh ns k : Rat)) T := by
        funext T; exact sgn_app g ns c T k
      rw [e2, neg_sum]; grind
/-- the mean until all of S have come -/
def fV (ns S : List Int) : Rat := altS (per (ns.sum : Rat)) (wts ns S) 0
theorem per_zero (t : Rat) : per t 0 = 0 := by
  show t / 0 = 0
  rw [Rat.div_def, Rat.inv_zero, Rat.mul_zero]
theorem fV_nil (ns : List Int) : fV ns [] = 0 := by
  show - per _ 0 = 0
  rw [per_zero]; grind
theorem dsum_filter (g : Rat → Rat) (ns : List Int) : ∀ (post pre : List Int), (pre ++ post).Nodup → dsum g (wts ns pre) (wts ns post) 0 = (post.map fun k => (sh ns k : Rat) * altS g (wts ns ((pre ++ post).filter (fun j => decide (j ≠ k)))) 0).sum
  | [], pre, _ => rfl
  | k :: r, pre, h => by
    have hk : ∀ x ∈ pre, x ≠ k := fun x hx z => by
      subst z
      exact (List.nodup_append.mp h).2.2 x hx x List.mem_cons_self rfl
    have hk2 : ∀ x ∈ r, x ≠ k := fun x hx z => by
      subst z
      exact (List.nodup_cons.mp (List.nodup_append.mp h).2.1).1 hx
    have e : (pre ++ k :: r).filter (fun j => decide (j ≠ k)) = pre ++ r := by
      rw [List.filter_append, List.filter_cons_of_neg (by simp), List.filter_eq_self.mpr (fun x hx => decide_eq_true (hk x hx)), List.filter_eq_self.mpr (fun x hx => decide_eq_true (hk2 x hx))]
    have e2 : pre ++ k :: r = (pre ++ [k]) ++ r := by simp
    have ih := dsum_filter g ns r (pre ++ [k]) (by rw [← e2]; exact h)
    rw [← e2] at ih
    show (sh ns k : Rat) * altS g (wts ns pre ++ wts ns r) 0 + dsum g (wts ns pre ++ [(sh ns k : Rat)]) (wts ns r) 0 = (sh ns k : Rat) * altS g (wts ns ((pre ++ k :: r).filter (fun j => decide (j ≠ k)))) 0 + _
    rw [e]
    have e3 : wts ns pre ++ [(sh ns k : Rat)] = wts ns (pre ++ [k]) := by unfold wts; rw [List.map_append]; rfl
    have e4 : wts ns pre ++ wts ns r = wts ns (pre ++ r) := by unfold wts; rw [List.map_append]
    rw [e3, e4, ih]
    rfl
theorem rise_nodup {S : List Int} (h : Rise S) : S.Nodup := h.imp fun z => by omega
/-- what is due -/
theorem fV_rec {ns S : List Int} (hS : Rise S) (h0 : S ≠ []) (hw : ∀ k ∈ S, 0 < sh ns k) :
    (ns.sum : Rat) + (S.map fun k => (sh ns k : Rat) * fV ns (S.filter (fun j => decide (j ≠ k)))).sum = (((pick ns S).sum : Int) : Rat) * fV ns S := by
  have h1 := dsum_filter (per (ns.sum : Rat)) ns S [] (rise_nodup hS)
  have h2 := dsum_zero (ns.sum : Rat) (wts ns S) (fun x hx => by
    obtain ⟨k, hk, rfl⟩ := List.mem_map.mp hx
    exact_mod_cast hw k hk)
  have h3 : wts ns S ≠ [] := fun z => h0 (List.map_eq_nil_iff.mp z)
  rw [if_neg h3, wts_sum] at h2
  have h4 : wts ns [] = [] := rfl
  rw [h4, h2] at h1
  show (ns.sum : Rat) + (S.map fun k => (sh ns k : Rat) * altS (per (ns.sum : Rat)) (wts ns (S.filter (fun j => decide (j ≠ k)))) 0).sum = _ * altS (per (ns.sum : Rat)) (wts ns S) 0
  have h5 : (S.map fun k => (sh ns k : Rat) * altS (per (ns.sum : Rat)) (wts ns (([] ++ S).filter (fun j => decide (j ≠ k)))) 0).sum = (S.map fun k => (sh ns k : Rat) * altS (per (ns.sum : Rat)) (wts ns (S.filter (fun j => decide (j ≠ k)))) 0).sum := rfl
  rw [h5] at h1
  rw [← h1]; grind
theorem altS_sz {t : Int} (ht : 0 ≤ t) (ht2 : t ≤ 63) : ∀ (zs : List Int) (c : Int), (∀ x ∈ zs, 0 ≤ x) → 0 ≤ c → c + zs.sum ≤ 63 → Sz (7 * 2 ^ zs.length - 1) (altS (per (t : Rat)) (zs.map fun x : Int => (x : Rat)) (c : Rat))
  | [], c, _, h0, h1 => by
    have h1 : c + 0 ≤ 63 := h1
    show Sz 6 (-(per (t : Rat) (c : Rat)))
    refine Sz.neg ?_
    by_cases hc : c = 0
    · subst hc
      rw [show ((0 : Int) : Rat) = 0 from rfl, per_zero]
      exact ⟨by decide, by decide⟩
    · refine sz_div (t := t) (b := c) (by omega) ?_ ?_ <;> omega
  | x :: zs, c, hx, h0, h1 => by
    have x0 := hx x List.mem_cons_self
    rw [List.sum_cons] at h1
    have s0 : ∀ zs : List Int, (∀ x ∈ zs, 0 ≤ x) → 0 ≤ zs.sum := by
      intro zs
      induction zs with
      | nil => intro _; decide
      | cons y r ih =>
        intro h
        have a := h y List.mem_cons_self
        have b := ih fun z hz => h z (List.mem_cons_of_mem _ hz)
        rw [List.sum_cons]; omega
    have z0 := s0 zs fun z hz => hx z (List.mem_cons_of_mem _ hz)
    have a := altS_sz ht ht2 zs c (fun z hz => hx z (List.mem_cons_of_mem _ hz)) h0 (by omega)
    have b := altS_sz ht ht2 zs (c + x) (fun z hz => hx z (List.mem_cons_of_mem _ hz)) (by omega) (by omega)
    rw [Rat.intCast_add] at b
    have r := a.sub b
    show Sz _ (altS (per (t : Rat)) (zs.map fun x : Int => (x : Rat)) (c : Rat) - altS (per (t : Rat)) (zs.map fun x : Int => (x : Rat)) ((c : Rat) + (x : Rat)))
    refine r.mono ?_
    rw [List.length_cons, Nat.pow_succ]
    have := Nat.two_pow_pos zs.length
    omega
theorem fV_sz {ns S : List Int} (g : Good ns) (hS : S.length ≤ 5) (hm : ∀ k ∈ S, 0 ≤ k ∧ k < ns.length) : Sz 223 (fV ns S) := by
  have b := sum_bounds (pick_bounds g hm)
  have s := g.sum_pos
  have pl : (pick ns S).length = S.length := by rw [pick, List.length_map]
  have r := altS_sz (t := ns.sum) (by omega) (by omega) (pick ns S) 0 (fun x hx => (pick_bounds g hm x hx).1) (by omega) (by omega)
  unfold fV
  rw [wts_pick]
  refine r.mono ?_
  rw [pl]
  have : 2 ^ S.length ≤ 2 ^ 5 := Nat.pow_le_pow_right (by decide) hS
  omega
theorem sh_good {ns : List Int} (g : Good ns) {k : Int} (h : 0 ≤ k ∧ k < ns.length) : 1 ≤ sh ns k ∧ sh ns k ≤ 9 := by
  have hl : k.toNat < ns.length := by omega
  unfold sh
  rw [List.getD_eq_getElem?_getD, List.getElem?_eq_getElem hl]
  exact g.2.2 ns[k.toNat] (List.getElem_mem hl)
theorem pick_pos {ns S : List Int} (g : Good ns) (h0 : S ≠ []) (hm : ∀ k ∈ S, 0 ≤ k ∧ k < ns.length) (hl : S.length ≤ 5) : 0 < (pick ns S).sum ∧ (pick ns S).sum ≤ 45 := by
  have b := sum_bounds (pick_bounds g hm)
  have pl : (pick ns S).length = S.length := by rw [pick, List.length_map]
  refine ⟨?_, by omega⟩
  cases S with
  | nil => exact absurd rfl h0
  | cons k r =>
    have b2 := sum_bounds (pick_bounds (ks := r) g fun k hk => hm k (List.mem_cons_of_mem _ hk))
    have := sh_good g (hm k List.mem_cons_self)
    show 0 < sh ns k + (pick ns r).sum
    omega
end KGX

namespace KGX
open PySem PySem.Spec PyProof.Rows L2
/-! ### comprehensions -/
/-- what was made so far -/
def LcI (H1 : Hp) (D : Addr) (ys : List V) : Hp → Prop := fun H => Same H1 H ∧ H D = some (.lst ys)
theorem LcI.put {H1 H H4 : Hp} {D : Addr} {ys : List V} {y : V} (h : LcI H1 D ys H) (hD : H1 D = none) (hl : ys.length ≤ 1000) (s : Same H H4) :
    ∃ acc, H4 D = some (.lst acc) ∧ acc.length < sizeLine ∧ LcI H1 D (ys ++ [y]) (upd H4 D (.lst (acc ++ [y]))) := by
  refine ⟨ys, s _ _ h.2, small1000 hl, ?_, upd_same⟩
  intro b o e
  rw [upd_ne (ne_of_none e hD)]
  exact s _ _ (h.1 _ _ e)
theorem LcI.stay {H1 H H3 : Hp} {D : Addr} {ys : List V} (h : LcI H1 D ys H) (s : Same H H3) : LcI H1 D ys H3 := ⟨h.1.trans s, s _ _ h.2⟩
theorem take_step {α : Type} {xs : List α} {i : Nat} {x : α} (h : xs[i]? = some x) : xs.take (i + 1) = xs.take i ++ [x] := by rw [List.take_add_one, h]; rfl
theorem map_at {xs : List Int} {i : Nat} {y : V} (h : (xs.map V.int)[i]? = some y) : ∃ k, xs[i]? = some k ∧ y = .int k ∧ k ∈ xs := by
  rw [List.getElem?_map] at h
  cases hz : xs[i]? with
  | none => rw [hz] at h; exact nomatch h
  | some k => rw [hz] at h; exact ⟨k, rfl, (Option.some.inj h).symm, List.mem_of_getElem? hz⟩
theorem ref_at {xs : List Addr} {i : Nat} {y : V} (h : (xs.map V.ref)[i]? = some y) : ∃ q, xs[i]? = some q ∧ y = .ref q ∧ q ∈ xs := by
  rw [List.getElem?_map] at h
  cases hz : xs[i]? with
  | none => rw [hz] at h; exact nomatch h
  | some k => rw [hz] at h; exact ⟨k, rfl, (Option.some.inj h).symm, List.mem_of_getElem? hz⟩
/-! ### rows of tuples -/
def Tups (H : Hp) (qs : List Addr) (Ss : List (List Int)) : Prop := Paired (fun q S => H q = some (.tup (S.map V.int))) qs Ss
theorem Tups.mono {H H' : Hp} {qs : List Addr} {Ss : List (List Int)} (h : Tups H qs Ss) (s : Same H H') : Tups H' qs Ss := Paired.mapP h fun _ _ z => s _ _ z
theorem Tups.upd {H : Hp} {D : Addr} {o o' : List V} {qs : List Addr} {Ss : List (List Int)} (h : Tups H qs Ss) (e : H D = some (.lst o)) : Tups (upd H D (.lst o')) qs Ss := Paired.mapP h fun _ _ z => by
  rw [upd_ne (ne_of z e (by intro w; cases w))]; exact z
theorem paired_at {α β : Type} {F : α → β → Prop} : ∀ {l₁ : List α} {l₂ : List β} {i : Nat} {a : α}, Paired F l₁ l₂ → l₁[i]? = some a → ∃ b, l₂[i]? = some b ∧ F a b
  | _, _, 0, _, .cons h _, e => by cases e; exact ⟨_, rfl, h⟩
  | _, _, i + 1, _, .cons _ t, e => paired_at (i := i) t e
  | _, _, _, _, .nil, e => by simp at e
theorem paired_app {α β : Type} {F : α → β → Prop} : ∀ {l₁ m₁ : List α} {l₂ m₂ : List β}, Paired F l₁ l₂ → Paired F m₁ m₂ → Paired F (l₁ ++ m₁) (l₂ ++ m₂)
  | _, _, _, _, .nil, q => q
  | _, _, _, _, .cons h t, q => .cons h (paired_app t q)
/-! ### papers: a dict by somes -/
def kOf (S : List Int) : List Key := S.map Sum.inl
theorem kOf_kV (S : List Int) : (kOf S).map kV = S.map V.int := by unfold kOf; rw [List.map_map]; rfl
theorem kOf_inj {S T : List Int} (h : kOf S = kOf T) : S = T := by
  unfold kOf at h
  exact List.map_inj_right (fun a b z => Sum.inl.inj z) |>.mp h
def kvOf : List (List Int) → List Addr → List (List Key × V) := List.zipWith fun S p => (kOf S, .ref p)
def PapAt (H : Hp) (d : Addr) (Ss : List (List Int)) (f : List Int → Rat) : Prop := ∃ ps : List Addr, H d = some (.dT (kvOf Ss ps)) ∧ Paired (fun S p => H p = some (.tup (frV (f S)))) Ss ps
theorem PapAt.mono {H H' : Hp} {d : Addr} {Ss : List (List Int)} {f : List Int → Rat} (h : PapAt H d Ss f) (s : Same H H') : PapAt H' d Ss f := by
  obtain ⟨ps, e, r⟩ := h
  exact ⟨ps, s _ _ e, Paired.mapP r fun _ _ z => s _ _ z⟩
theorem kv_get {H : Hp} {f : List Int → Rat} : ∀ {Ss : List (List Int)} {ps : List Addr} {S : List Int}, Paired (fun S p => H p = some (.tup (frV (f S)))) Ss ps → S ∈ Ss → ∃ p, valV (kvOf Ss ps) (kOf S) = some (.ref p) ∧ H p = some (.tup (frV (f S)))
  | _, _, S, .cons (a := T) (b := p) h t, hm => by
    by_cases e : T = S
    · subst e
      exact ⟨p, valV_pos (p := (kOf T, V.ref p)) rfl, h⟩
    · obtain ⟨p', e1, e2⟩ := kv_get t ((List.mem_cons.mp hm).resolve_left fun z => e z.symm)
      exact ⟨p', by rw [← e1]; exact valV_neg (p := (kOf T, V.ref p)) fun z => e (kOf_inj z), e2⟩
  | _, _, _, .nil, hm => nomatch hm
theorem kv_none {H : Hp} {f : List Int → Rat} : ∀ {Ss : List (List Int)} {ps : List Addr} {S : List Int}, Paired (fun S p => H p = some (.tup (frV (f S)))) Ss ps → S ∉ Ss → valV (kvOf Ss ps) (kOf S) = none
  | _, _, S, .cons (a := T) (b := p) h t, hm => by
    have e : T ≠ S := fun z => hm (z ▸ List.mem_cons_self)
    rw [← kv_none t fun z => hm (List.mem_cons_of_mem _ z)]
    exact valV_neg (p := (kOf T, V.ref p)) fun z => e (kOf_inj z)
  | _, _, _, .nil, _ => rfl
theorem kvOf_app {F : List Int → Addr → Prop} {S : List Int} {p : Addr} : ∀ {Ss : List (List Int)} {ps : List Addr}, Paired F Ss ps → kvOf (Ss ++ [S]) (ps ++ [p]) = kvOf Ss ps ++ [(kOf S, .ref p)]
  | _, _, .nil => rfl
  | _, _, .cons (l₁ := l) (l₂ := m) _ t => by
    show _ :: kvOf (l ++ [S]) (m ++ [p]) = _
    rw [kvOf_app t]
    rfl
theorem kvOf_len {F : List Int → Addr → Prop} : ∀ {Ss : List (List Int)} {ps : List Addr}, Paired F Ss ps → (kvOf Ss ps).length = Ss.length
  | _, _, .nil => rfl
  | _, _, .cons _ t => by
    show (kvOf _ _).length + 1 = _ + 1
    rw [kvOf_len t]
/-- d[S] -/
theorem PapAt.get {H : Hp} {d b : Addr} {Ss : List (List Int)} {f : List Int → Rat} {S : List Int} (h : PapAt H d Ss f) (hm : S ∈ Ss) (eb : H b = some (.tup (S.map V.int))) : ∃ p, DGet H d (.ref b) (some (.ref p)) ∧ H p = some (.tup (frV (f S))) := by
  obtain ⟨ps, e, r⟩ := h
  obtain ⟨p, e1, e2⟩ := kv_get r hm
  refine ⟨p, ?_, e2⟩
  rw [← e1]
  exact DGet.t e (by rw [kOf_kV]; exact eb)
/-- d[S] = x, S not yet there -/
theorem PapAt.put {H : Hp} {d b p : Addr} {Ss : List (List Int)} {f : List Int → Rat} {S : List Int} (h : PapAt H d Ss f) (hm : S ∉ Ss) (hl : Ss.length ≤ 1000) (eb : H b = some (.tup (S.map V.int))) (ep : H p = some (.tup (frV (f S)))) :
    ∃ H', DPut H d (.ref b) (.ref p) H' ∧ PapAt H' d (Ss ++ [S]) f ∧ Kp d H H' := by
  obtain ⟨ps, e, r⟩ := h
  refine ⟨_, DPut.t e (k := kOf S) (by rw [kOf_kV]; exact eb) (by rw [kvOf_len r]; exact small1000 hl), ⟨ps ++ [p], ?_, ?_⟩, fun a o n z => by rw [upd_ne n]; exact z⟩
  · rw [upd_same, putK_new _ (kv_none r hm), kvOf_app r]
  · have ne : ∀ q : Addr, ∀ xs, H q = some (.tup xs) → q ≠ d := fun q xs z => ne_of z e (by intro w; cases w)
    refine Paired.snoc (Paired.mapP r fun S p z => ?_) ?_
    · rw [upd_ne (ne p _ z)]; exact z
    · rw [upd_ne (ne p _ ep)]; exact ep
/-! ### promises -/
def spAllKinds : Sp := fun vs H Q _ => ∃ (a : Addr) (ns : List V), vs = [.ref a] ∧ H a = some (.tup ns) ∧ ns.length ≤ 1000 ∧ ∀ H' p, Same H H' → H p = none → H' p = some (.tup ((rg ns.length).map V.int)) → Q (.ref p) H'
/-- a list of new tuples -/
def newTups (Ss : List (List Int)) : VK → Hp → Prop := fun Q H => ∀ H' L qs, Same H H' → H L = none → H' L = some (.lst (qs.map V.ref)) → Tups H' qs Ss → Q (.ref L) H'
def spAllSome : Sp := fun vs H Q _ => ∃ (c : Addr) (ks : List Int), vs = [.ref c] ∧ H c = some (.tup (ks.map V.int)) ∧ ks.length ≤ 5 ∧ newTups (allSub ks) Q H
def spLawAllSome : Sp := fun vs H Q _ => ∃ (n : Nat), vs = [.int n] ∧ n ≤ 5 ∧ newTups (allSub (rg n)) Q H
def spShareOf (K : PySem.W.Frag) : Sp := fun vs H Q _ => ∃ (a c : Addr) (ns ks : List Int), vs = [.ref a, .ref c] ∧ H a = some (.tup (ns.map V.int)) ∧ H c = some (.tup (ks.map V.int)) ∧ ks.length ≤ 1000 ∧ (∀ k ∈ ks, 0 ≤ k ∧ k < ns.length) ∧
  ∀ H', Same H H' → Q (.int (pick ns ks).sum) H'
def spMeanAll : Sp := fun vs H Q _ => ∃ (a : Addr) (ns : List Int), vs = [.ref a] ∧ H a = some (.tup (ns.map V.int)) ∧ Good ns ∧ newR (fV ns (rg ns.length)) Q H
def spLawPaper : Sp := fun vs H Q _ => ∃ (a : Addr) (ns : List Int), vs = [.ref a] ∧ H a = some (.tup (ns.map V.int)) ∧ Good ns ∧ ∀ H' d, Same H H' → H d = none → PapAt H' d (allSub (rg ns.length)) (fV ns) → Q (.ref d) H'
end KGX
namespace KGX
open PySem PySem.Spec PyProof.Rows L2
/-! ### rows of ints, compared -/
theorem dp_ints {K : PySem.W.Frag} {H : Hp} : ∀ (S : List Int), DpAll K H (S.map V.int) (S.map PyData.int)
  | [] => .nil
  | k :: r => .cons (.int k) (dp_ints r)
theorem lay_ints : ∀ (S : List Int), PyData.canLayAll0 (S.map PyData.int) = true
  | [] => rfl
  | k :: r => by
    show (PyData.canLay0 (.int k) && PyData.canLayAll0 (r.map PyData.int)) = true
    rw [lay_ints r]; rfl
theorem depth_ints : ∀ (S : List Int), PyData.depthAll (S.map PyData.int) = 0
  | [] => rfl
  | k :: r => by
    show max 0 (PyData.depthAll (r.map PyData.int)) = 0
    rw [depth_ints r]; rfl
theorem shaped_ints (S : List Int) : SeqAt.shaped (.tuple (S.map PyData.int)) = true := by
  show (PyData.canLayAll0 (S.map PyData.int) && decide (PyData.depthAll (S.map PyData.int) + 1 ≤ 64)) = true
  rw [lay_ints, depth_ints]; rfl
theorem eqvAll_ints : ∀ (S T : List Int), PyData.eqvAll (S.map PyData.int) (T.map PyData.int) = decide (S = T)
  | [], [] => rfl
  | [], _ :: _ => rfl
  | _ :: _, [] => rfl
  | k :: r, j :: t => by
    show (PyData.eqv (.int k) (.int j) && PyData.eqvAll (r.map PyData.int) (t.map PyData.int)) = _
    rw [eqvAll_ints r t]
    show ((k == j) && decide (r = t)) = _
    by_cases h : k = j
    · subst h; simp
    · simp [h]
theorem eqv_ints (S T : List Int) : PyData.eqv (.tuple (S.map PyData.int)) (.tuple (T.map PyData.int)) = decide (S = T) := eqvAll_ints S T
theorem dp_tup {K : PySem.W.Frag} {H : Hp} {a : Addr} {S : List Int} (h : H a = some (.tup (S.map V.int))) : Dp K H (.ref a) (.tuple (S.map PyData.int)) := .tup (.inl (.inl h)) (dp_ints S)
end KGX
namespace KGX
open PySem PySem.Spec PyProof.Rows L2
theorem rat_over (x : Rat) {A : Int} (h : 0 < A) : ((x.num : Int) : Rat) / (((x.den : Int) * A : Int) : Rat) = x / (A : Rat) := by
  have e1 := rat_self x
  have h1 := den_ne x
  have h2 := cast_ne h
  rw [Rat.intCast_mul]
  generalize (x.num : Rat) = a at *
  generalize ((x.den : Int) : Rat) = b at *
  generalize (A : Rat) = c at *
  subst e1
  grind
theorem low_over (x : Rat) {A : Int} (h : 0 < A) : low x.num ((x.den : Int) * A) = frV (x / (A : Rat)) := by rw [low_eq (Int.mul_pos (den_pos x) h), rat_over x h]
theorem div_of {x y A : Rat} (h : A ≠ 0) (e : x = A * y) : x / A = y := by subst e; grind
theorem rat_scaled (x : Rat) (k : Int) : ((x.num * k : Int) : Rat) / ((x.den : Int) : Rat) = (k : Rat) * x := by
  have e1 := rat_self x
  have h1 := den_ne x
  rw [Rat.intCast_mul]
  generalize (x.num : Rat) = a at *
  generalize ((x.den : Int) : Rat) = b at *
  generalize (k : Rat) = c at *
  subst e1
  grind
/-- what has been put together of the due number -/
def psum (ns S : List Int) (f : List Int → Rat) (j : Nat) : Rat := (ns.sum : Rat) + ((S.take j).map fun k => (sh ns k : Rat) * f (S.filter (fun i => decide (i ≠ k)))).sum
theorem psum_zero (ns S : List Int) (f : List Int → Rat) : psum ns S f 0 = (ns.sum : Rat) := by unfold psum; rw [List.take_zero]; show _ + (0 : Rat) = _; grind
theorem psum_succ {ns S : List Int} {f : List Int → Rat} {j : Nat} {k : Int} (h : S[j]? = some k) : psum ns S f (j + 1) = psum ns S f j + (sh ns k : Rat) * f (S.filter (fun i => decide (i ≠ k))) := by
  unfold psum
  rw [take_step h, List.map_append, sumR_app]
  show _ + (_ + ((sh ns k : Rat) * f (S.filter (fun i => decide (i ≠ k))) + 0)) = _
  grind
theorem filter_step {S : List Int} {i : Nat} {x : Int} (k : Int) (h : S[i]? = some x) : (S.take (i + 1)).filter (fun j => decide (j ≠ k)) = (S.take i).filter (fun j => decide (j ≠ k)) ++ if x = k then [] else [x] := by
  rw [take_step h, List.filter_append]
  congr 1
  by_cases e : x = k
  · rw [if_pos e, List.filter_cons_of_neg (by simp [e])]; rfl
  · rw [if_neg e, List.filter_cons_of_pos (by simp [e])]; rfl
theorem frV_zero : frV 0 = [.int 0, .int 1] := rfl
theorem frV_int (t : Int) : frV (t : Rat) = [.int t, .int 1] := by unfold frV; rw [Rat.num_intCast, Rat.den_intCast]; rfl
end KGX

namespace KGX
open PySem PySem.Spec PyProof.Rows L2
/-! ### rows of ints: which are in -/
theorem inV_ints (k : Int) : ∀ ks : List Int, inV (.int k) (ks.map V.int) = decide (k ∈ ks)
  | [] => rfl
  | j :: r => by
    show ((j == k) || inV (.int k) (r.map V.int)) = _
    rw [inV_ints k r]
    by_cases h : j = k
    · subst h; simp
    · have h' : k ≠ j := fun z => h z.symm
      simp [h, h']
theorem flat_ints (ks : List Int) : (ks.map V.int).all flatV = true := by
  rw [List.all_map, List.all_eq_true]; intro x _; rfl
theorem sumZ_one {f : Int → Int} {x : Int} : ∀ {L : List Int}, L.Nodup → (L.map fun k => if k = x then f k else 0).sum = if x ∈ L then f x else 0
  | [], _ => rfl
  | j :: r, h => by
    have h2 := List.nodup_cons.mp h
    have ih := sumZ_one (f := f) (x := x) h2.2
    show (if j = x then f j else 0) + (r.map fun k => if k = x then f k else 0).sum = _
    rw [ih]
    by_cases e : j = x
    · subst e
      rw [if_pos rfl, if_neg h2.1, if_pos List.mem_cons_self]; omega
    · rw [if_neg e]
      by_cases m : x ∈ r
      · rw [if_pos m, if_pos (List.mem_cons_of_mem _ m)]; omega
      · rw [if_neg m, if_neg (fun z => (List.mem_cons.mp z).elim (fun w => e w.symm) m)]; rfl
theorem sumZ_add (f g : Int → Int) : ∀ (L : List Int), (L.map fun k => f k + g k).sum = (L.map f).sum + (L.map g).sum
  | [] => rfl
  | j :: r => by
    have ih := sumZ_add f g r
    show (f j + g j) + (r.map fun k => f k + g k).sum = (f j + (r.map f).sum) + (g j + (r.map g).sum)
    rw [ih]; omega
theorem sumZ_mem {f : Int → Int} {L : List Int} (hL : L.Nodup) : ∀ {ks : List Int}, ks.Nodup → (∀ k ∈ ks, k ∈ L) → (L.map fun k => if k ∈ ks then f k else 0).sum = (ks.map f).sum
  | [], _, _ => by
    have : ∀ L : List Int, (L.map fun k => if k ∈ ([] : List Int) then f k else 0).sum = 0 := by
      intro L
      induction L with
      | nil => rfl
      | cons j r ih =>
        show (if j ∈ ([] : List Int) then f j else 0) + (r.map fun k => if k ∈ ([] : List Int) then f k else 0).sum = 0
        rw [ih, if_neg (by simp)]; rfl
    exact this L
  | x :: r, h, hm => by
    have h2 := List.nodup_cons.mp h
    have ih := sumZ_mem (f := f) hL h2.2 fun k hk => hm k (List.mem_cons_of_mem _ hk)
    have e : (L.map fun k => if k ∈ x :: r then f k else 0) = L.map fun k => (if k = x then f k else 0) + (if k ∈ r then f k else 0) := by
      refine List.map_congr_left fun k _ => ?_
      by_cases e : k = x
      · subst e
        rw [if_pos List.mem_cons_self, if_pos rfl, if_neg h2.1]; omega
      · rw [if_neg e]
        by_cases m : k ∈ r
        · rw [if_pos m, if_pos (List.mem_cons_of_mem _ m)]; omega
        · rw [if_neg m, if_neg (fun z => (List.mem_cons.mp z).elim e m)]; rfl
    rw [e, sumZ_add, sumZ_one hL, if_pos (hm x List.mem_cons_self), ih]; rfl
theorem sumZ_filter (f : Int → Int) (p : Int → Bool) : ∀ (L : List Int), ((L.filter p).map f).sum + (L.map fun k => if p k = true then 0 else f k).sum = (L.map f).sum
  | [] => rfl
  | j :: r => by
    have ih := sumZ_filter f p r
    by_cases e : p j = true
    · rw [List.filter_cons_of_pos e]
      show (f j + ((r.filter p).map f).sum) + ((if p j = true then 0 else f j) + (r.map fun k => if p k = true then 0 else f k).sum) = f j + (r.map f).sum
      rw [if_pos e]; omega
    · rw [List.filter_cons_of_neg e]
      show ((r.filter p).map f).sum + ((if p j = true then 0 else f j) + (r.map fun k => if p k = true then 0 else f k).sum) = f j + (r.map f).sum
      rw [if_neg e]; omega
theorem rg_at {n i : Nat} (h : i < n) : (rg n)[i]? = some (i : Int) := by
  unfold rg
  rw [List.getElem?_map, List.getElem?_range h]; rfl
theorem rg_nodup (n : Nat) : (rg n).Nodup := rise_nodup (rise_range n)
theorem mem_rg {n : Nat} {k : Int} : k ∈ rg n ↔ 0 ≤ k ∧ k < n := by
  unfold rg
  rw [List.mem_map]
  constructor
  · rintro ⟨i, hi, rfl⟩
    have := List.mem_range.mp hi
    omega
  · rintro ⟨h0, h1⟩
    exact ⟨k.toNat, List.mem_range.mpr (by omega), by omega⟩
theorem pick_all (ns : List Int) : pick ns (rg ns.length) = ns := by
  refine List.ext_getElem? fun i => ?_
  unfold pick
  rw [List.getElem?_map]
  by_cases h : i < ns.length
  · rw [rg_at h]
    show some (ns.getD (i : Int).toNat 0) = _
    rw [Int.toNat_natCast, List.getD_eq_getElem?_getD, List.getElem?_eq_getElem h]; rfl
  · rw [List.getElem?_eq_none (by rw [rg_len]; omega), List.getElem?_eq_none (by omega)]; rfl
/-- some kinds and the others -/
theorem pick_both {ns ks : List Int} (hR : Rise ks) (hK : ∀ k ∈ ks, 0 ≤ k ∧ k < ns.length) : (pick ns ks).sum + (pick ns ((rg ns.length).filter fun k => !decide (k ∈ ks))).sum = ns.sum := by
  have e1 := sumZ_filter (fun k => ns.getD k.toNat 0) (fun k => !decide (k ∈ ks)) (rg ns.length)
  have e2 : ((rg ns.length).map fun k => if (!decide (k ∈ ks)) = true then 0 else ns.getD k.toNat 0) = (rg ns.length).map fun k => if k ∈ ks then ns.getD k.toNat 0 else 0 := by
    refine List.map_congr_left fun k _ => ?_
    by_cases m : k ∈ ks
    · rw [decide_eq_true m, if_pos m]; rfl
    · rw [decide_eq_false m, if_neg m]; rfl
  have e3 := sumZ_mem (f := fun k => ns.getD k.toNat 0) (rg_nodup ns.length) (rise_nodup hR) (fun k hk => mem_rg.mpr (hK k hk))
  have e4 := pick_all ns
  unfold pick at e4 ⊢
  rw [e2, e3, e4] at e1
  omega
/-! ### shares as texts -/
/-- how a share is written -/
def dg (n : Int) : Str := toString n
def txt (ns : List Int) : Str := Txt.join " " (ns.map dg)
def digs : List Str := [1, 2, 3, 4, 5, 6, 7, 8, 9].map dg
theorem dig {p : Int → Prop} (h : p 1 ∧ p 2 ∧ p 3 ∧ p 4 ∧ p 5 ∧ p 6 ∧ p 7 ∧ p 8 ∧ p 9) {n : Int} (h1 : 1 ≤ n) (h2 : n ≤ 9) : p n := by
  obtain ⟨a1, a2, a3, a4, a5, a6, a7, a8, a9⟩ := h
  rcases (show n = 1 ∨ n = 2 ∨ n = 3 ∨ n = 4 ∨ n = 5 ∨ n = 6 ∨ n = 7 ∨ n = 8 ∨ n = 9 by omega) with rfl | rfl | rfl | rfl | rfl | rfl | rfl | rfl | rfl <;> assumption
theorem dig_in {n : Int} (h1 : 1 ≤ n) (h2 : n ≤ 9) : inV (.str (dg n)) (digs.map V.str) = true := dig (p := fun n => inV (.str (dg n)) (digs.map V.str) = true) (by decide +kernel) h1 h2
theorem dig_int {n : Int} (h1 : 1 ≤ n) (h2 : n ≤ 9) : PySem.intText? (dg n) = some n := dig (p := fun n => PySem.intText? (dg n) = some n) (by decide +kernel) h1 h2
theorem dig_one {n : Int} (h1 : 1 ≤ n) (h2 : n ≤ 9) : (dg n).length = 1 := dig (p := fun n => (dg n).length = 1) (by decide +kernel) h1 h2
theorem dig_blank {n : Int} (h1 : 1 ≤ n) (h2 : n ≤ 9) : 32 ∉ TL.tl (dg n) := dig (p := fun n => 32 ∉ TL.tl (dg n)) (by decide +kernel) h1 h2
theorem split_txt {ns : List Int} (g : Good ns) : Txt.split (txt ns) " " = ns.map dg := by
  refine TL.split_join (s := 32) (S := []) (by decide +kernel) (by decide +kernel) (fun z => ?_) (fun p hp => ?_)
  · have := g.1
    rw [List.map_eq_nil_iff.mp z] at this
    exact absurd this (by decide)
  · obtain ⟨n, hn, rfl⟩ := List.mem_map.mp hp
    exact dig_blank (g.2.2 n hn).1 (g.2.2 n hn).2
theorem txt_sum {ns : List Int} (g : Good ns) : ((ns.map dg).map (·.length)).sum = ns.length := by
  have : ∀ ns : List Int, (∀ x ∈ ns, 1 ≤ x ∧ x ≤ 9) → ((ns.map dg).map (·.length)).sum = ns.length := by
    intro ns
    induction ns with
    | nil => intro _; rfl
    | cons x r ih =>
      intro h
      have := h x List.mem_cons_self
      show (dg x).length + ((r.map dg).map (·.length)).sum = r.length + 1
      rw [ih fun y hy => h y (List.mem_cons_of_mem _ hy), dig_one this.1 this.2]; omega
  exact this ns g.2.2
theorem txt_len {ns : List Int} (g : Good ns) : (txt ns).length ≤ 10 := by
  have e := StrLaws.join_length_le " " (ns.map dg)
  rw [txt_sum g, List.length_map] at e
  unfold txt
  rw [TL.join_eq]
  have h5 := g.2.1
  have h1 : (" " : Str).length = 1 := by decide +kernel
  rw [h1] at e
  omega
def spShow (K : PySem.W.Frag) : Sp := fun vs H Q _ => ∃ (a : Addr) (ns : List Int), vs = [.ref a] ∧ H a = some (.tup (ns.map V.int)) ∧ Good ns ∧ ∀ H', Same H H' → Q (.str (txt ns)) H'
def spShareWord : Sp := fun vs H Q _ => ∃ z, vs = [.str z] ∧ ∀ H', Same H H' → Q (.bl (inV (.str z) (digs.map V.str))) H'
def spRead0 : Sp := fun vs H Q _ => ∃ (ns : List Int), vs = [.str (txt ns)] ∧ Good ns ∧ ∀ H' p, Same H H' → H p = none → H' p = some (.tup (ns.map V.int)) → Q (.ref p) H'
end KGX
namespace KGX
open PySem PySem.Spec PyProof.Rows L2
theorem fr_ne {x y : Rat} (h : x = y) : PyData.eqv (.tuple [.int x.num, .int (x.den : Int)]) (.tuple [.int y.num, .int (y.den : Int)]) = true := by
  subst h
  have := eqv_ints [x.num, (x.den : Int)] [x.num, (x.den : Int)]
  rw [decide_eq_true rfl] at this
  exact this
theorem shaped_fr (x : Rat) : SeqAt.shaped (.tuple [.int x.num, .int (x.den : Int)]) = true := shaped_ints [x.num, (x.den : Int)]
theorem iteNT {b : Bool} {A B : Prop} (hb : b = true) (h : B) : if (!b) = true then A else B := by subst hb; exact iteF h
theorem lt_more {x : Rat} {c d : Int} (hc : 0 < c) (hd : 0 < d) : x < x + (c : Rat) / (d : Rat) := by
  have h1 : (0 : Rat) < (c : Rat) := by exact_mod_cast hc
  have h2 : (0 : Rat) < (d : Rat) := by exact_mod_cast hd
  have h3 : 0 < (c : Rat) / (d : Rat) := by
    rw [Rat.div_def]
    exact Rat.mul_pos h1 (Rat.inv_pos.mpr h2)
  grind
theorem lt_sub_zero (x y : Rat) : decide (x < y) = decide (x - y < 0) := by
  rw [decide_eq_decide]
  constructor <;> intro h <;> grind
theorem fr_one : Fr 1 (10 ^ 20) := ⟨by decide, by decide, Nat.lt_of_lt_of_le (show (1 : Int).natAbs < 2 ^ 70 by decide) (Nat.pow_le_pow_right (by decide) (by decide)), Nat.lt_of_lt_of_le (show ((10 : Int) ^ 20).natAbs < 2 ^ 70 by decide) (Nat.pow_le_pow_right (by decide) (by decide))⟩
theorem fr_unit : Fr 1 1 := ⟨by decide, by decide, Nat.lt_of_lt_of_le (show (1 : Int).natAbs < 2 ^ 70 by decide) (Nat.pow_le_pow_right (by decide) (by decide)), Nat.lt_of_lt_of_le (show (1 : Int).natAbs < 2 ^ 70 by decide) (Nat.pow_le_pow_right (by decide) (by decide))⟩
theorem frV_one : frV 1 = [.int 1, .int 1] := rfl
theorem both_one {p o t : Int} (h : p + o = t) (ht : 0 < t) : (p : Rat) / (t : Rat) + (o : Rat) / (t : Rat) = 1 := by
  have h2 := cast_ne ht
  have h3 : (p : Rat) + (o : Rat) = (t : Rat) := by rw [← h, Rat.intCast_add]
  generalize (p : Rat) = p at *
  generalize (o : Rat) = o at *
  generalize (t : Rat) = t at *
  subst h3
  grind
theorem part_back {p t : Int} (ht : 0 < t) : (p : Rat) / (t : Rat) * (t : Rat) = (p : Rat) := by
  have h2 := cast_ne ht
  generalize (p : Rat) = p at *
  generalize (t : Rat) = t at *
  grind
/-- three fractions drawn -/
def FrIn (n : Nat) (H : Hp) (p : Addr) : Prop := ∃ x : Rat, Sz n x ∧ H p = some (.tup (frV x))
theorem FrIn.kp {n : Nat} {H H' : Hp} {b p : Addr} {o : List V} (h : FrIn n H p) (eb : H b = some (.lst o)) (k : Kp b H H') : FrIn n H' p := by
  obtain ⟨x, z, e⟩ := h
  exact ⟨x, z, k _ _ (ne_of e eb (by intro w; cases w)) e⟩
end KGX
namespace KGX
open PySem PySem.Spec PyProof.Rows L2
theorem less_at {x y : Rat} {Q : VK} {H : Hp} (h : Q (.bl (decide (x < y))) H) : (fun (a b c d : Int) (Q : VK) (H : Hp) => Q (.bl (decide (a * d < c * b))) H) x.num (x.den : Int) y.num (y.den : Int) Q H := by
  show Q (.bl (decide (x.num * y.den < y.num * x.den))) H
  rw [rat_lt]; exact h
end KGX

namespace KGX
open PySem PySem.Spec PyProof.Rows L2
def topS (i : Nat) : Stmt := PySem.Challenge.pw_kindsgathered_k01_shares_and_fractions_k.main.body.getD i (.Pass ⟨0, 0, 0, 0⟩)
abbrev s_is_whole : Stmt := topS 1
theorem sc_is_whole : FnScope ["thing"] ["thing"] (defScope s_is_whole) := ⟨rfl, rfl, rfl, by decide +kernel, rfl, by decide +kernel, by decide +kernel⟩
abbrev s_is_whole_within : Stmt := topS 2
theorem sc_is_whole_within : FnScope ["thing", "least", "most"] ["thing", "least", "most"] (defScope s_is_whole_within) := ⟨rfl, rfl, rfl, by decide +kernel, rfl, by decide +kernel, by decide +kernel⟩
abbrev s_greatest_divisor : Stmt := topS 4
theorem sc_greatest_divisor : FnScope ["top", "bottom", "one", "other"] ["top", "bottom"] (defScope s_greatest_divisor) := ⟨rfl, rfl, rfl, by decide +kernel, rfl, by decide +kernel, by decide +kernel⟩
abbrev s_is_fraction : Stmt := topS 5
theorem sc_is_fraction : FnScope ["thing", "top", "bottom"] ["thing"] (defScope s_is_fraction) := ⟨rfl, rfl, rfl, by decide +kernel, rfl, by decide +kernel, by decide +kernel⟩
abbrev s_is_shares : Stmt := topS 9
theorem sc_is_shares : FnScope ["thing", "share"] ["thing"] (defScope s_is_shares) := ⟨rfl, rfl, rfl, by decide +kernel, rfl, by decide +kernel, by decide +kernel⟩
abbrev s__law_cell : Stmt := topS 11
theorem sc__law_cell : FnScope ["_law_script", "_law_k"] ["_law_script", "_law_k"] (defScope s__law_cell) := ⟨rfl, rfl, rfl, by decide +kernel, rfl, by decide +kernel, by decide +kernel⟩
abbrev s__law_mix : Stmt := topS 12
theorem sc__law_mix : FnScope ["_law_cell_here", "_law_k", "_law_some", "_law_stir"] ["_law_cell_here", "_law_k"] (defScope s__law_mix) := ⟨rfl, rfl, rfl, by decide +kernel, rfl, by decide +kernel, by decide +kernel⟩
abbrev s__law_box : Stmt := topS 13
theorem sc__law_box : FnScope ["_law_script", "_law_k", "_law_cell_here", "_law_number", "_law_j"] ["_law_script", "_law_k"] (defScope s__law_box) := ⟨rfl, rfl, rfl, by decide +kernel, rfl, by decide +kernel, by decide +kernel⟩
abbrev s__law_take : Stmt := topS 14
theorem sc__law_take : FnScope ["_law_box_here", "_law_many", "_law_left", "_law_digit"] ["_law_box_here", "_law_many"] (defScope s__law_take) := ⟨rfl, rfl, rfl, by decide +kernel, rfl, by decide +kernel, by decide +kernel⟩
abbrev s__law_whole : Stmt := topS 15
theorem sc__law_whole : FnScope ["_law_thing"] ["_law_thing"] (defScope s__law_whole) := ⟨rfl, rfl, rfl, by decide +kernel, rfl, by decide +kernel, by decide +kernel⟩
abbrev s__law_truth : Stmt := topS 16
theorem sc__law_truth : FnScope ["_law_found", "_law_due"] ["_law_found", "_law_due"] (defScope s__law_truth) := ⟨rfl, rfl, rfl, by decide +kernel, rfl, by decide +kernel, by decide +kernel⟩
abbrev s__law_drawn_shares : Stmt := topS 17
theorem sc__law_drawn_shares : FnScope ["_law_box_here", "_law_most", "_law_top", "_law_many", "_law_kind", "_law_place"] ["_law_box_here", "_law_most", "_law_top"] (defScope s__law_drawn_shares) := ⟨rfl, rfl, rfl, by decide +kernel, rfl, by decide +kernel, by decide +kernel⟩
abbrev s__law_common : Stmt := topS 18
theorem sc__law_common : FnScope ["_law_one", "_law_other"] ["_law_one", "_law_other"] (defScope s__law_common) := ⟨rfl, rfl, rfl, by decide +kernel, rfl, by decide +kernel, by decide +kernel⟩
abbrev s__law_made : Stmt := topS 19
theorem sc__law_made : FnScope ["_law_top", "_law_bottom", "_law_both"] ["_law_top", "_law_bottom"] (defScope s__law_made) := ⟨rfl, rfl, rfl, by decide +kernel, rfl, by decide +kernel, by decide +kernel⟩
abbrev s__law_odd : Stmt := topS 20
theorem sc__law_odd : FnScope ["_law_box_here", "_law_some"] ["_law_box_here"] (defScope s__law_odd) := ⟨rfl, rfl, rfl, by decide +kernel, rfl, by decide +kernel, by decide +kernel⟩
abbrev s__law_are_shares : Stmt := topS 21
theorem sc__law_are_shares : FnScope ["_law_thing", "_law_one"] ["_law_thing"] (defScope s__law_are_shares) := ⟨rfl, rfl, rfl, by decide +kernel, rfl, by decide +kernel, by decide +kernel⟩
abbrev s__law_is_fraction : Stmt := topS 22
theorem sc__law_is_fraction : FnScope ["_law_thing"] ["_law_thing"] (defScope s__law_is_fraction) := ⟨rfl, rfl, rfl, by decide +kernel, rfl, by decide +kernel, by decide +kernel⟩
abbrev s__law_bent : Stmt := topS 23
theorem sc__law_bent : FnScope ["_law_box_here", "_law_row", "_law_odd_here", "_law_at", "_law_one", "_law_news", "_law_kind"] ["_law_box_here", "_law_row", "_law_odd_here"] (defScope s__law_bent) := ⟨rfl, rfl, rfl, by decide +kernel, rfl, by decide +kernel, by decide +kernel⟩
abbrev s_law : Stmt := topS 24
theorem sc_law : FnScope ["_law_script", "_law_k", "_law_box_here", "_law_shares", "_law_odd_here", "_law_size", "_law_top", "_law_bottom", "_law_good", "_law_by", "_law_things", "_law_lap", "_law_thing", "_law_as_it_was"] ["_law_script"] (defScope s_law) := ⟨rfl, rfl, rfl, by decide +kernel, rfl, by decide +kernel, by decide +kernel⟩
theorem bt_isinstance : bootBuiltins "isinstance" = some (.builtin "isinstance") := by decide +kernel
theorem bt_int : bootBuiltins "int" = some (.type "int") := by decide +kernel
theorem bt_bool : bootBuiltins "bool" = some (.type "bool") := by decide +kernel
theorem bt_abs : bootBuiltins "abs" = some (.builtin "abs") := by decide +kernel
theorem bt_tuple : bootBuiltins "tuple" = some (.type "tuple") := by decide +kernel
theorem bt_len : bootBuiltins "len" = some (.builtin "len") := by decide +kernel
theorem bt_all : bootBuiltins "all" = some (.builtin "all") := by decide +kernel
theorem bt_range : bootBuiltins "range" = some (.type "range") := by decide +kernel
theorem bt_divmod : bootBuiltins "divmod" = some (.builtin "divmod") := by decide +kernel
theorem bt_str : bootBuiltins "str" = some (.type "str") := by decide +kernel
theorem bt_list : bootBuiltins "list" = some (.type "list") := by decide +kernel
theorem bt_max : bootBuiltins "max" = some (.builtin "max") := by decide +kernel
theorem bt_min : bootBuiltins "min" = some (.builtin "min") := by decide +kernel
theorem bt_repr : bootBuiltins "repr" = some (.builtin "repr") := by decide +kernel
/-- what the top has left -/
structure Tx (K : PySem.W.Frag) (mg : Str → Option Value) where
  a_is_whole : Addr
  d_is_whole : FuncData
  F_is_whole : Fun K "is_whole" "is_whole" s_is_whole a_is_whole d_is_whole
  g_is_whole : mg "is_whole" = some (.ref a_is_whole)
  b_is_whole : Binds K d_is_whole ["thing"] []
  a_is_whole_within : Addr
  d_is_whole_within : FuncData
  F_is_whole_within : Fun K "is_whole_within" "is_whole_within" s_is_whole_within a_is_whole_within d_is_whole_within
  g_is_whole_within : mg "is_whole_within" = some (.ref a_is_whole_within)
  b_is_whole_within : Binds K d_is_whole_within ["thing", "least", "most"] []
  a_greatest_divisor : Addr
  d_greatest_divisor : FuncData
  F_greatest_divisor : Fun K "greatest_divisor" "greatest_divisor" s_greatest_divisor a_greatest_divisor d_greatest_divisor
  g_greatest_divisor : mg "greatest_divisor" = some (.ref a_greatest_divisor)
  b_greatest_divisor : Binds K d_greatest_divisor ["top", "bottom"] []
  a_is_fraction : Addr
  d_is_fraction : FuncData
  F_is_fraction : Fun K "is_fraction" "is_fraction" s_is_fraction a_is_fraction d_is_fraction
  g_is_fraction : mg "is_fraction" = some (.ref a_is_fraction)
  b_is_fraction : Binds K d_is_fraction ["thing"] []
  a_is_shares : Addr
  d_is_shares : FuncData
  F_is_shares : Fun K "is_shares" "is_shares" s_is_shares a_is_shares d_is_shares
  g_is_shares : mg "is_shares" = some (.ref a_is_shares)
  b_is_shares : Binds K d_is_shares ["thing"] []
  a__law_cell : Addr
  d__law_cell : FuncData
  F__law_cell : Fun K "_law_cell" "_law_cell" s__law_cell a__law_cell d__law_cell
  g__law_cell : mg "_law_cell" = some (.ref a__law_cell)
  b__law_cell : Binds K d__law_cell ["_law_script", "_law_k"] []
  a__law_mix : Addr
  d__law_mix : FuncData
  F__law_mix : Fun K "_law_mix" "_law_mix" s__law_mix a__law_mix d__law_mix
  g__law_mix : mg "_law_mix" = some (.ref a__law_mix)
  b__law_mix : Binds K d__law_mix ["_law_cell_here", "_law_k"] []
  a__law_box : Addr
  d__law_box : FuncData
  F__law_box : Fun K "_law_box" "_law_box" s__law_box a__law_box d__law_box
  g__law_box : mg "_law_box" = some (.ref a__law_box)
  b__law_box : Binds K d__law_box ["_law_script", "_law_k"] []
  a__law_take : Addr
  d__law_take : FuncData
  F__law_take : Fun K "_law_take" "_law_take" s__law_take a__law_take d__law_take
  g__law_take : mg "_law_take" = some (.ref a__law_take)
  b__law_take : Binds K d__law_take ["_law_box_here", "_law_many"] []
  a__law_whole : Addr
  d__law_whole : FuncData
  F__law_whole : Fun K "_law_whole" "_law_whole" s__law_whole a__law_whole d__law_whole
  g__law_whole : mg "_law_whole" = some (.ref a__law_whole)
  b__law_whole : Binds K d__law_whole ["_law_thing"] []
  a__law_truth : Addr
  d__law_truth : FuncData
  F__law_truth : Fun K "_law_truth" "_law_truth" s__law_truth a__law_truth d__law_truth
  g__law_truth : mg "_law_truth" = some (.ref a__law_truth)
  b__law_truth : Binds K d__law_truth ["_law_found", "_law_due"] []
  a__law_drawn_shares : Addr
  d__law_drawn_shares : FuncData
  F__law_drawn_shares : Fun K "_law_drawn_shares" "_law_drawn_shares" s__law_drawn_shares a__law_drawn_shares d__law_drawn_shares
  g__law_drawn_shares : mg "_law_drawn_shares" = some (.ref a__law_drawn_shares)
  b__law_drawn_shares : Binds K d__law_drawn_shares ["_law_box_here", "_law_most", "_law_top"] []
  a__law_common : Addr
  d__law_common : FuncData
  F__law_common : Fun K "_law_common" "_law_common" s__law_common a__law_common d__law_common
  g__law_common : mg "_law_common" = some (.ref a__law_common)
  b__law_common : Binds K d__law_common ["_law_one", "_law_other"] []
  a__law_made : Addr
  d__law_made : FuncData
  F__law_made : Fun K "_law_made" "_law_made" s__law_made a__law_made d__law_made
  g__law_made : mg "_law_made" = some (.ref a__law_made)
  b__law_made : Binds K d__law_made ["_law_top", "_law_bottom"] []
  a__law_odd : Addr
  d__law_odd : FuncData
  F__law_odd : Fun K "_law_odd" "_law_odd" s__law_odd a__law_odd d__law_odd
  g__law_odd : mg "_law_odd" = some (.ref a__law_odd)
  b__law_odd : Binds K d__law_odd ["_law_box_here"] []
  a__law_are_shares : Addr
  d__law_are_shares : FuncData
  F__law_are_shares : Fun K "_law_are_shares" "_law_are_shares" s__law_are_shares a__law_are_shares d__law_are_shares
  g__law_are_shares : mg "_law_are_shares" = some (.ref a__law_are_shares)
  b__law_are_shares : Binds K d__law_are_shares ["_law_thing"] []
  a__law_is_fraction : Addr
  d__law_is_fraction : FuncData
  F__law_is_fraction : Fun K "_law_is_fraction" "_law_is_fraction" s__law_is_fraction a__law_is_fraction d__law_is_fraction
  g__law_is_fraction : mg "_law_is_fraction" = some (.ref a__law_is_fraction)
  b__law_is_fraction : Binds K d__law_is_fraction ["_law_thing"] []
  a__law_bent : Addr
  d__law_bent : FuncData
  F__law_bent : Fun K "_law_bent" "_law_bent" s__law_bent a__law_bent d__law_bent
  g__law_bent : mg "_law_bent" = some (.ref a__law_bent)
  b__law_bent : Binds K d__law_bent ["_law_box_here", "_law_row", "_law_odd_here"] []
  a_law : Addr
  d_law : FuncData
  F_law : Fun K "law" "law" s_law a_law d_law
  g_law : mg "law" = some (.ref a_law)
  b_law : Binds K d_law ["_law_script"] []
  m_isinstance : mg "isinstance" = none
  m_int : mg "int" = none
  m_bool : mg "bool" = none
  m_abs : mg "abs" = none
  m_tuple : mg "tuple" = none
  m_len : mg "len" = none
  m_all : mg "all" = none
  m_range : mg "range" = none
  m_divmod : mg "divmod" = none
  m_str : mg "str" = none
  m_list : mg "list" = none
  m_max : mg "max" = none
  m_min : mg "min" = none
  m_repr : mg "repr" = none
  t_MOST_KINDS : Tok
  c_MOST_KINDS : mg "MOST_KINDS" = some (.int 5 t_MOST_KINDS)
  t_MOST_SHARE : Tok
  c_MOST_SHARE : mg "MOST_SHARE" = some (.int 9 t_MOST_SHARE)
section
variable {P : Program} {w : World} {K : PySem.W.Frag} {mg : Str → Option Value} {base : Heap}
theorem ok_is_whole (T : Tx K mg) : FnOk P w K mg base CX0 1 T.a_is_whole T.d_is_whole ["thing"] (sp_is_whole K) := by
  refine T.F_is_whole.ok sc_is_whole (fun vs H Q E h => ?_) (fun cdv A outer s H vs Q E hr h => ?_)
  · obtain ⟨x, rfl, _⟩ := h; rfl
  obtain ⟨x, rfl, hx, q⟩ := h
  refine ⟨_, (pss_one (ps_ret (pe_and (pe_callB (r := rIsi K) call_isi (by rfl) T.m_isinstance bt_isinstance (pa_cons (pv 0) (pa_cons (pe_bltn (v := .ty "int") (by rfl) T.m_int bt_int rfl) pa_nil))) (pe_one (pe_not (pe_callB (r := rIsi K) call_isi (by rfl) T.m_isinstance bt_isinstance (pa_cons (pv 0) (pa_cons (pe_bltn (v := .ty "bool") (by rfl) T.m_bool bt_bool rfl) pa_nil)))))))), ?_⟩
  cases x with
  | non => exact ⟨_, rfl, _, _, _, _, false, rfl, .ty "int", .base .non, kit_ty (by decide +kernel), false, rfl, iteF q⟩
  | str y => exact ⟨_, rfl, _, _, _, _, false, rfl, .ty "int", .base (.str y), kit_ty (by decide +kernel), false, rfl, iteF q⟩
  | int i => exact ⟨_, rfl, _, _, _, _, true, rfl, .ty "int", .base (.int i), kit_ty (by decide +kernel), true, rfl, iteT ⟨_, rfl, _, _, _, _, false, rfl, .ty "bool", .base (.int i), kit_ty (by decide +kernel), false, rfl, q⟩⟩
  | bl y => exact ⟨_, rfl, _, _, _, _, true, rfl, .ty "int", .base (.bl y), kit_ty (by decide +kernel), true, rfl, iteT ⟨_, rfl, _, _, _, _, true, rfl, .ty "bool", .base (.bl y), kit_ty (by decide +kernel), true, rfl, q⟩⟩
  | ref a =>
    rcases hx with ⟨y, z⟩ | ⟨y, z⟩ | ⟨y, z⟩
    · exact ⟨_, rfl, _, _, _, _, false, rfl, .ty "int", .base (.lst z), kit_ty (by decide +kernel), false, rfl, iteF q⟩
    · exact ⟨_, rfl, _, _, _, _, false, rfl, .ty "int", .base (.tup z), kit_ty (by decide +kernel), false, rfl, iteF q⟩
    · exact ⟨_, rfl, _, _, _, _, false, rfl, .ty "int", .base (.dK z), kit_ty (by decide +kernel), false, rfl, iteF q⟩
  | byt y => exact hx.elim
  | flt y => exact hx.elim
  | ty y => exact hx.elim

theorem ok_is_whole_within (T : Tx K mg) : FnOk P w K mg base CX0 2 T.a_is_whole_within T.d_is_whole_within ["thing", "least", "most"] (sp_is_whole_within K) := by
  refine T.F_is_whole_within.ok sc_is_whole_within (fun vs H Q E h => ?_) (fun cdv A outer s H vs Q E hr h => ?_)
  · obtain ⟨x, lo, hi, rfl, _⟩ := h; rfl
  obtain ⟨x, lo, hi, rfl, hx, q⟩ := h
  refine ⟨_, (pss_one (ps_ret (pe_and (pe_call (ok_is_whole T) (hr.mono (by decide)) (by rfl) T.g_is_whole T.F_is_whole.kp T.b_is_whole .nil pass0 (pa_cons (pv 0) pa_nil)) (pe_one (pe_chain op_le op_le (pv 1) (pv 0) (pv 2)))))), ?_⟩
  refine ⟨x, rfl, x, rfl, hx, whole x, rfl, ?_⟩
  cases x with
  | int i =>
    refine iteT ⟨_, rfl, _, rfl, lo, i, rfl, rfl, _, rfl, ?_⟩
    have q : Q (.bl (decide (lo ≤ i) && decide (i ≤ hi))) H := q
    by_cases h1 : lo ≤ i
    · rw [decide_eq_true h1] at q ⊢
      exact iteT ⟨_, rfl, i, hi, rfl, rfl, q⟩
    · rw [decide_eq_false h1] at q ⊢
      exact iteF q
  | _ => exact iteF q

theorem ok_greatest_divisor (T : Tx K mg) : FnOk P w K mg base CX0 1 T.a_greatest_divisor T.d_greatest_divisor ["top", "bottom"] sp_greatest_divisor := by
  refine T.F_greatest_divisor.ok sc_greatest_divisor (fun vs H Q E h => ?_) (fun cdv A outer s H vs Q E hr h => ?_)
  · obtain ⟨a, b, rfl, _⟩ := h; rfl
  obtain ⟨a, b, rfl, hb, q⟩ := h
  refine ⟨_, (pss_cons (ps_par (i := 2) (j := 3) (by rfl) sc_greatest_divisor.nd rfl rfl (by decide) rfl rfl (pa_cons (pe_callB call_abs (by rfl) T.m_abs bt_abs (pa_cons (pv 0) pa_nil)) (pa_cons (pv 1) pa_nil)) (by rfl))
      (pss_cons (ps_while PassesOwn.never (pt_cmpR op_gt (pv 3) pe_int (nomark _)) (pss_one (ps_par (i := 2) (j := 3) (by rfl) sc_greatest_divisor.nd rfl rfl (by decide) rfl rfl (pa_cons (pv 3) (pa_cons (pe_op op_mod (pv 2) (pv 3)) pa_nil)) (by rfl))))
      (pss_one (ps_ret (pv 2))))), ?_⟩
  refine ⟨_, rfl, a, rfl, _, rfl, _, _, rfl, ?_⟩
  refine while_by (fun σ H' => ∃ x y : Int, σ = [some (.int a), some (.int b), some (.int x), some (.int y)] ∧ 0 ≤ x ∧ 0 ≤ y ∧ Int.gcd x y = Int.gcd a b ∧ H' = H) (fun σ _ => match σ with | [_, _, _, some (.int y)] => y.toNat | _ => 0) ?_ ?_ ?_
  · refine ⟨_, b, rfl, ?_, hb, ?_, rfl⟩
    · rw [abs_eq]; omega
    · rw [abs_eq]; rfl
  · rintro σ H' ⟨x, y, rfl, hx, hy, e, rfl⟩
    refine ⟨_, rfl, _, _, rfl, rfl, _, rfl, ?_⟩
    by_cases h0 : 0 < y
    · rw [decide_eq_true h0]
      refine iteT ⟨_, rfl, _, rfl, _, rfl, x, y, rfl, rfl, h0, _, _, rfl, ⟨y, x % y, rfl, hy, Int.emod_nonneg _ (by omega), ?_, rfl⟩, ?_⟩
      · rw [gcd_step x y hx (by omega), e]
      · show (x % y).toNat < y.toNat
        have := Int.emod_lt_of_pos x (show 0 < y by omega)
        omega
    · rw [decide_eq_false h0]
      have e0 : y = 0 := by omega
      subst e0
      refine iteF ⟨_, rfl, ?_⟩
      rw [Int.gcd_zero_right] at e
      have e2 : x = (Int.gcd a b : Int) := by omega
      rw [e2]
      exact q
  · rintro σ H' Q Q' m ⟨v, h1, i, j, h2, h3, k, h4, h5⟩
    exact ⟨v, h1, i, j, h2, h3, k, h4, m _ _ h5⟩

theorem ok_is_fraction (T : Tx K mg) : FnOk P w K mg base CX0 2 T.a_is_fraction T.d_is_fraction ["thing"] (spIsFr K) := by
  refine T.F_is_fraction.ok sc_is_fraction (fun vs H Q E h => ?_) (fun cdv A outer s H vs Q E hr h => ?_)
  · obtain ⟨x, rfl, _⟩ := h; rfl
  obtain ⟨x, rfl, ht, q⟩ := h
  refine ⟨_, (pss_cons (ps_if (PW.pt (pw_or (pt_not (pt_val (pe_callB (r := rIsi K) call_isi (by rfl) T.m_isinstance bt_isinstance (pa_cons (pv 0) (pa_cons (pe_bltn (v := .ty "tuple") (by rfl) T.m_tuple bt_tuple rfl) pa_nil))))) (pw_or1 (pt_cmpR op_ne (pe_callB (r := Evl.rLenS K) call_len_seq (by rfl) T.m_len bt_len (pa_cons (pv 0) pa_nil)) pe_int (nomark _))))) (pss_one (ps_ret pe_bl)) pss_nil)
      (pss_cons (ps_asg (pv 0) (pg_tup (by rfl) (pgs_cons (pg_name (i := 1) sc_is_fraction.nd rfl (Or.inl rfl)) (pgs_cons (pg_name (i := 2) sc_is_fraction.nd rfl (Or.inl rfl)) pgs_nil))))
      (pss_cons (ps_if (PW.pt (pw_or (pt_not (pt_val (pe_call (ok_is_whole T) (hr.mono (by decide)) (by rfl) T.g_is_whole T.F_is_whole.kp T.b_is_whole .nil pass0 (pa_cons (pv 1) pa_nil)))) (pw_or (pt_not (pt_val (pe_call (ok_is_whole T) (hr.mono (by decide)) (by rfl) T.g_is_whole T.F_is_whole.kp T.b_is_whole .nil pass0 (pa_cons (pv 2) pa_nil)))) (pw_or1 (pt_cmpR op_lt (pv 2) pe_int (nomark _)))))) (pss_one (ps_ret pe_bl)) pss_nil)
      (pss_one (ps_ret (pe_cmpR op_eq (pe_call (ok_greatest_divisor T) (hr.mono (by decide)) (by rfl) T.g_greatest_divisor T.F_greatest_divisor.kp T.b_greatest_divisor .nil pass0 (pa_cons (pv 1) (pa_cons (pv 2) pa_nil))) pe_int (nomark _))))))), ?_⟩
  rcases ht with ⟨a, xs, rfl, ha, hk⟩ | hn
  · rw [isFr_tup ha] at q
    obtain ⟨t, u, c1, c2, c3⟩ := isi_tup (K := K) ha
    refine ⟨_, rfl, _, _, t, u, true, rfl, c1, c2, c3, _, rfl, iteF ?_⟩
    refine ⟨_, rfl, a, xs, rfl, .inr (.inl (.inl ha)), rfl, _, rfl, ?_⟩
    by_cases h2 : xs.length = 2
    · match xs, h2, ha, hk, q with
      | [x, y], _, ha, hk, q =>
        refine iteF ⟨_, rfl, a, _, rfl, .inl (.inl ha), rfl, _, _, rfl, _, _, rfl, rfl, ?_⟩
        have kx : Kn K H x := hk x (by simp)
        have ky : Kn K H y := hk y (by simp)
        refine ⟨_, rfl, x, rfl, kx, _, rfl, ?_⟩
        cases hx : whole x with
        | false =>
          refine iteT (iteT ?_)
          rw [frB_not (.inl hx)] at q
          exact q
        | true =>
          refine iteF ⟨_, rfl, y, rfl, ky, _, rfl, ?_⟩
          cases hy : whole y with
          | false =>
            refine iteT (iteT ?_)
            rw [frB_not (.inr hy)] at q
            exact q
          | true =>
            cases x with
            | int i =>
              cases y with
              | int j =>
                refine iteF ⟨_, rfl, j, 1, rfl, rfl, _, rfl, ?_⟩
                by_cases hj : 1 ≤ j
                · rw [decide_eq_false (show ¬ j < 1 by omega)]
                  refine iteF ⟨_, rfl, _, rfl, i, j, rfl, by omega, rfl, ?_⟩
                  have e : frB [.int i, .int j] = decide (V.int (Int.gcd i j : Int) = V.int 1) := by
                    show (decide (1 ≤ j) && decide (Int.gcd i j = 1)) = _
                    rw [decide_eq_true hj, Bool.true_and]
                    by_cases g : Int.gcd i j = 1
                    · rw [g]; rfl
                    · rw [decide_eq_false g, decide_eq_false (fun z => g (by have := V.int.inj z; omega))]
                  rw [e] at q
                  exact q
                · rw [decide_eq_true (show j < 1 by omega)]
                  refine iteT ?_
                  have e : frB [.int i, .int j] = false := by
                    show (decide (1 ≤ j) && decide (Int.gcd i j = 1)) = _
                    rw [decide_eq_false hj]; rfl
                  rw [e] at q
                  exact q
              | _ => exact nomatch hy
            | _ => exact nomatch hx
    · have e : (!decide (V.int (xs.length : Int) = V.int 2)) = true := by
        rw [decide_eq_false (fun z => h2 (by have := V.int.inj z; omega))]; rfl
      rw [e]
      refine iteT ?_
      rw [frB_len h2] at q
      exact q
  · obtain ⟨t, u, c1, c2, c3⟩ := isi_not (K := K) hn
    refine ⟨_, rfl, _, _, t, u, false, rfl, c1, c2, c3, _, rfl, iteT (iteT ?_)⟩
    rw [isFr_not hn] at q
    exact q

theorem ok_is_shares (T : Tx K mg) : FnOk P w K mg base CX0 3 T.a_is_shares T.d_is_shares ["thing"] (spShares K) := by
  refine T.F_is_shares.ok sc_is_shares (fun vs H Q E h => ?_) (fun cdv A outer s H vs Q E hr h => ?_)
  · obtain ⟨x, rfl, _⟩ := h; rfl
  obtain ⟨x, rfl, ht, q⟩ := h
  refine ⟨_, (pss_cons (ps_if (PW.pt (pw_or (pt_not (pt_val (pe_callB (r := rIsi K) call_isi (by rfl) T.m_isinstance bt_isinstance (pa_cons (pv 0) (pa_cons (pe_bltn (v := .ty "tuple") (by rfl) T.m_tuple bt_tuple rfl) pa_nil))))) (pw_or1 (pt_not (pt_chain op_le op_le pe_int (pe_callB (r := Evl.rLenS K) call_len_seq (by rfl) T.m_len bt_len (pa_cons (pv 0) pa_nil)) (pe_glob (v := .int 5) rfl T.c_MOST_KINDS ⟨_, rfl⟩)))))) (pss_one (ps_ret pe_bl)) pss_nil)
      (pss_one (ps_ret (pe_callB (r := rAll K) (cr_all rfl) (by rfl) T.m_all bt_all (pa_cons (pe_lc (own := [("share", 1)]) (g := gName 1) (tt := tYes) rfl sc_is_shares.nd (pi_tup (pv 0)) (blkOk_by (N := ["thing", "share"]) (sc := defScope s_is_shares) (by decide +kernel)) (fun _ _ _ _ _ => (pg_name (i := 1) sc_is_shares.nd rfl (Or.inl rfl))) (fun _ _ _ _ _ => pts_nil) (fun _ _ _ _ _ => (pe_call (ok_is_whole_within T) (hr.mono (by decide)) (by rfl) T.g_is_whole_within T.F_is_whole_within.kp T.b_is_whole_within .nil pass0 (pa_cons (pv 1) (pa_cons pe_int (pa_cons (pe_glob (v := .int 9) rfl T.c_MOST_SHARE ⟨_, rfl⟩) pa_nil)))))) pa_nil))))), ?_⟩
  rcases ht with ⟨a, xs, rfl, ha, hk⟩ | hn
  · have e0 : isShs H (.ref a) = shs xs := by simp only [isShs, ha]
    rw [e0] at q
    obtain ⟨t, u, c1, c2, c3⟩ := isi_tup (K := K) ha
    refine ⟨_, rfl, _, _, t, u, true, rfl, c1, c2, c3, _, rfl, iteF ?_⟩
    refine ⟨_, rfl, a, xs, rfl, .inr (.inl (.inl ha)), 1, _, rfl, rfl, _, rfl, ?_⟩
    by_cases h1 : 1 ≤ xs.length
    · rw [decide_eq_true (show (1 : Int) ≤ (xs.length : Int) by omega)]
      refine iteT ⟨_, 5, rfl, rfl, _, rfl, ?_⟩
      by_cases h5 : xs.length ≤ 5
      · rw [decide_eq_true (show (xs.length : Int) ≤ 5 by omega)]
        refine iteF ⟨_, rfl, a, rfl, ⟨xs, .inl (.inl ha)⟩, fun D hD => ?_⟩
        refine lc_tup (xs := xs) (fun i H' => Same H H' ∧ H' D = some (.lst ((xs.take i).map fun y => .bl (within 1 9 y)))) ⟨same_new hD, upd_same⟩ (fun i H' _ h => .inl (.inl (h.1 a _ ha))) ?_ ?_
        · rintro i y H' hi ⟨sm, eD⟩
          refine ⟨rfl, yesT ⟨_, rfl, y, 1, 9, rfl, (hk y (List.mem_of_getElem? hi)).mono sm, _, eD, ?_, ?_, ?_⟩⟩
          · rw [List.length_map, List.length_take]; exact small1000 (by omega)
          · intro b o eb
            rw [upd_ne (ne_of_none eb hD)]
            exact sm b o eb
          · rw [upd_same, List.take_add_one, hi, List.map_append]
            rfl
        · rintro H' ⟨sm, eD⟩
          rw [List.take_length] at eD
          refine ⟨D, xs.map (within 1 9), rfl, .inl (.inl ?_), ?_⟩
          · rw [eD, List.map_map]; rfl
          · have e1 : shs xs = (xs.map (within 1 9)).all id := by
              unfold shs
              rw [decide_eq_true h1, decide_eq_true h5, List.all_map]
              rfl
            rw [e1] at q
            exact q _ sm
      · rw [decide_eq_false (show ¬ (xs.length : Int) ≤ 5 by omega)]
        refine iteT ?_
        have e1 : shs xs = false := by
          unfold shs
          rw [decide_eq_false h5, Bool.and_false]; rfl
        rw [e1] at q
        exact q _ (Same.refl _)
    · rw [decide_eq_false (show ¬ (1 : Int) ≤ (xs.length : Int) by omega)]
      refine iteF ⟨_, rfl, iteT ?_⟩
      have e1 : shs xs = false := by
        unfold shs
        rw [decide_eq_false h1]; rfl
      rw [e1] at q
      exact q _ (Same.refl _)
  · obtain ⟨t, u, c1, c2, c3⟩ := isi_not (K := K) hn
    refine ⟨_, rfl, _, _, t, u, false, rfl, c1, c2, c3, _, rfl, iteT (iteT ?_)⟩
    rw [isShs_not hn] at q
    exact q _ (Same.refl _)

theorem ok__law_cell (T : Tx K mg) : FnOk P w K mg base CX0 1 T.a__law_cell T.d__law_cell ["_law_script", "_law_k"] (sp__law_cell K) := by
  refine T.F__law_cell.ok sc__law_cell (fun vs H Q E h => ?_) (fun cdv A outer s H vs Q E hr h => ?_)
  · obtain ⟨a, ns, k, rfl, _⟩ := h; rfl
  obtain ⟨a, ns, k, rfl, hS, q⟩ := h
  refine ⟨_, (pss_cons (ps_if (pt_cmpR op_lt (pv 1) (pe_callB (r := Evl.rLenS K) call_len_seq (by rfl) T.m_len bt_len (pa_cons (pv 0) pa_nil)) (nomark _)) (pss_one (ps_ret (pe_ix (r := rIxL K) ix_list (pv 0) (pv 1) (fun _ _ => rfl)))) pss_nil)
      (pss_one (ps_ret pe_int))), ?_⟩
  refine ⟨_, rfl, _, rfl, a, _, rfl, .inl hS, (k : Int), _, rfl, rfl, _, rfl, ite2 (fun e => ?_) (fun e => ?_)⟩
  · have hk : k < ns.length := by
      have := of_decide_eq_true e
      rw [List.length_map] at this
      omega
    refine ⟨_, rfl, _, rfl, a, _, (k : Int), .int ns[k], rfl, rfl, hS, atI_nat ?_, q _⟩
    rw [List.getElem?_map, List.getElem?_eq_getElem hk]
    rfl
  · exact q 0

theorem ok__law_mix (T : Tx K mg) : FnOk P w K mg base CX0 1 T.a__law_mix T.d__law_mix ["_law_cell_here", "_law_k"] sp__law_mix := by
  refine T.F__law_mix.ok sc__law_mix (fun vs H Q E h => ?_) (fun cdv A outer s H vs Q E hr h => ?_)
  · obtain ⟨a, k, rfl, _⟩ := h; rfl
  obtain ⟨c, k, rfl, hk, q⟩ := h
  refine ⟨_, (pss_cons (ps_set (i := 2) sc__law_mix.nd rfl (Or.inl rfl) (pe_lst (pa_cons pe_int (pa_cons pe_int (pa_cons pe_int (pa_cons pe_int (pa_cons pe_int (pa_cons pe_int (pa_cons pe_int (pa_cons pe_int (pa_cons pe_int (pa_cons pe_int (pa_cons pe_int (pa_cons pe_int (pa_cons pe_int pa_nil)))))))))))))))
      (pss_cons (ps_set (i := 3) sc__law_mix.nd rfl (Or.inl rfl) (pe_op op_mul (pe_op op_add (pe_op op_mod (pv 0) pe_int) pe_int) (pe_ix (r := rIxL K) ix_list (pv 2) (pe_op op_mod (pv 1) pe_int) (fun _ _ => rfl))))
      (pss_cons (ps_set (i := 3) sc__law_mix.nd rfl (Or.inl rfl) (pe_op op_add (pe_op op_add (pv 3) (pe_op op_mul pe_int (pv 1))) (pe_op op_mul pe_int (pe_op op_fdivW (pv 1) pe_int))))
      (pss_cons (ps_set (i := 3) sc__law_mix.nd rfl (Or.inl rfl) (pe_op op_mod (pv 3) pe_int))
      (pss_one (ps_ret (pe_op op_fdivW (pe_op op_mod (pe_op op_add (pe_op op_mul (pv 3) (pv 3)) (pe_op op_mul pe_int (pv 1))) pe_int) pe_int))))))), ?_⟩
  refine ⟨by decide, fun p hp => ?_⟩
  have hm : (k : Int) % 13 = ((k % 13 : Nat) : Int) := by omega
  have h13 : k % 13 < 13 := Nat.mod_lt _ (by decide)
  obtain ⟨z, hz⟩ : ∃ z : Int, ([V.int 48271, .int 69621, .int 16807, .int 39373, .int 30269, .int 40014, .int 40692, .int 50021, .int 61687, .int 71993, .int 83869, .int 95561, .int 30307])[k % 13]? = some (.int z) := by
    generalize k % 13 = m at h13
    match m, h13 with
    | 0, _ => exact ⟨_, rfl⟩
    | 1, _ => exact ⟨_, rfl⟩
    | 2, _ => exact ⟨_, rfl⟩
    | 3, _ => exact ⟨_, rfl⟩
    | 4, _ => exact ⟨_, rfl⟩
    | 5, _ => exact ⟨_, rfl⟩
    | 6, _ => exact ⟨_, rfl⟩
    | 7, _ => exact ⟨_, rfl⟩
    | 8, _ => exact ⟨_, rfl⟩
    | 9, _ => exact ⟨_, rfl⟩
    | 10, _ => exact ⟨_, rfl⟩
    | 11, _ => exact ⟨_, rfl⟩
    | 12, _ => exact ⟨_, rfl⟩
  have c1 := Int.emod_nonneg c (show (2147483647 : Int) ≠ 0 by decide)
  have c2 := Int.emod_lt_of_pos c (show (0 : Int) < 2147483647 by decide)
  refine ⟨_, rfl, c, 2147483647, rfl, rfl, (by show (0 : Int) < 2147483647; decide), _, _, rfl, rfl, _, rfl, _, rfl, k, 13, rfl, rfl, (by show (0 : Int) < 13; decide), p, _, _, .int z, rfl, rfl, .inl (.inl upd_same), at_of hm hz, _, z, rfl, rfl, .inl ⟨by omega, by omega⟩, ?_⟩
  refine ⟨_, rfl, _, rfl, 977, k, rfl, rfl, .inl ⟨by omega, by omega⟩, _, _, rfl, rfl, _, rfl, k, 13, rfl, rfl, ⟨by decide, by decide⟩, 7919, _, rfl, rfl, .inl ⟨by omega, by omega⟩, _, _, rfl, rfl, ?_⟩
  refine ⟨_, rfl, _, 1000000007, rfl, rfl, (by show (0 : Int) < 1000000007; decide), ?_⟩
  refine ⟨_, rfl, _, rfl, _, _, rfl, rfl, .inl ⟨Int.lt_of_lt_of_le (by decide) (Int.emod_nonneg _ (by decide)), Int.lt_trans (Int.emod_lt_of_pos _ (by decide)) (by decide)⟩, _, rfl, 48271, k, rfl, rfl, .inl ⟨by omega, by omega⟩, _, _, rfl, rfl, _, 1000000007, rfl, rfl, (by show (0 : Int) < 1000000007; decide), _, 7, rfl, rfl, ⟨by decide, by decide⟩, ?_⟩
  exact q _ _ (same_new hp)

theorem ok__law_box (T : Tx K mg) : FnOk P w K mg base CX0 2 T.a__law_box T.d__law_box ["_law_script", "_law_k"] (spBox K) := by
  refine T.F__law_box.ok sc__law_box (fun vs H Q E h => ?_) (fun cdv A outer s H vs Q E hr h => ?_)
  · obtain ⟨a, ns, k, rfl, _⟩ := h; rfl
  obtain ⟨a, ns, k, rfl, hS, q⟩ := h
  refine ⟨_, (pss_cons (ps_set (i := 2) sc__law_box.nd rfl (Or.inl rfl) (pe_call (ok__law_cell T) (hr.mono (by decide)) (by rfl) T.g__law_cell T.F__law_cell.kp T.b__law_cell .nil pass0 (pa_cons (pv 0) (pa_cons (pv 1) pa_nil))))
      (pss_cons (ps_if (pt_cmpR op_eq (pe_op op_mod (pv 2) pe_int) pe_int (nomark _)) (pss_one (ps_ret (pe_lst (pa_cons (pe_op op_fdiv (pe_callB call_abs (by rfl) T.m_abs bt_abs (pa_cons (pv 2) pa_nil)) pe_int) pa_nil)))) pss_nil)
      (pss_cons (ps_set (i := 3) sc__law_box.nd rfl (Or.inl rfl) pe_int)
      (pss_cons (ps_for PassesOwn.never rfl (pi_range1 (by rfl) T.m_range (pa_cons pe_int pa_nil)) (pg_name (i := 4) sc__law_box.nd rfl (Or.inl rfl)) (pss_one (ps_set (i := 3) sc__law_box.nd rfl (Or.inl rfl) (pe_op op_add (pe_op op_mul (pv 3) pe_int) (pe_call (ok__law_mix T) (hr.mono (by decide)) (by rfl) T.g__law_mix T.F__law_mix.kp T.b__law_mix .nil pass0 (pa_cons (pv 2) (pa_cons (pv 4) pa_nil)))))))
      (pss_one (ps_ret (pe_lst (pa_cons (pv 3) pa_nil)))))))), ?_⟩
  refine ⟨_, rfl, _, rfl, a, ns, k, rfl, hS, fun c => ?_⟩
  refine ⟨_, rfl, c, 2, rfl, rfl, (by show (0 : Int) < 2; decide), rfl, _, rfl, ite2 (fun _ => ?_) (fun _ => ?_)⟩
  · exact ⟨_, rfl, c, rfl, _, 2, rfl, rfl, ⟨by decide, by decide⟩, sz1, fun p hp => q _ p _ (same_new hp) hp upd_same⟩
  · refine ⟨40, rfl, by decide, by decide, for_range (n := 40) (fun i σ H' => ∃ n y, σ = [some (.ref a), some (.int k), some (.int c), some (.int n), y] ∧ Same H H') ⟨0, none, rfl, Same.refl _⟩ ?_ ?_⟩
    · rintro i σ H' hi ⟨n, y, rfl, sm⟩
      refine ⟨_, rfl, n, 142857143, rfl, rfl, .inr ⟨by decide, by decide⟩, _, rfl, _, rfl, c, i, ?_, by omega, fun H2 v sm2 => ?_⟩
      · rw [Int.zero_add]; rfl
      · exact ⟨_, _, rfl, rfl, _, _, rfl, sm.trans sm2⟩
    · rintro σ H' ⟨n, y, rfl, sm⟩
      exact ⟨_, rfl, sz1, fun p hp => q _ p _ (sm.trans (same_new hp)) (sm.free hp) upd_same⟩

theorem ok__law_take (T : Tx K mg) : FnOk P w K mg base CX0 1 T.a__law_take T.d__law_take ["_law_box_here", "_law_many"] spTake := by
  refine T.F__law_take.ok sc__law_take (fun vs H Q E h => ?_) (fun cdv A outer s H vs Q E hr h => ?_)
  · obtain ⟨b, n, m, rfl, _⟩ := h; rfl
  obtain ⟨b, n, m, rfl, hB, h0, hl, q⟩ := h
  refine ⟨_, (pss_cons (ps_asg (pe_callB call_divmodW (by rfl) T.m_divmod bt_divmod (pa_cons (pe_ix (r := rIxL K) ix_list (pv 0) pe_int (fun _ _ => rfl)) (pa_cons (pv 1) pa_nil))) (pg_tup (by rfl) (pgs_cons (pg_name (i := 2) sc__law_take.nd rfl (Or.inl rfl)) (pgs_cons (pg_name (i := 3) sc__law_take.nd rfl (Or.inl rfl)) pgs_nil))))
      (pss_cons (ps_asg (pv 2) (pg_sub (pv 0) pe_int set_list))
      (pss_one (ps_ret (pv 3))))), ?_⟩
  refine ⟨_, rfl, b, _, 0, _, rfl, rfl, .inl (.inl hB), rfl, _, rfl, n, m, rfl, noPy h0 hl, fun p hp => ?_⟩
  have nb : b ≠ p := ne_of_none hB hp
  refine ⟨p, _, rfl, .inl (.inl upd_same), rfl, _, _, rfl, _, _, rfl, rfl, ?_⟩
  refine ⟨_, rfl, _, rfl, b, [.int n], 0, 0, rfl, rfl, ?_, rfl, ?_⟩
  · rw [upd_ne nb]; exact hB
  · refine ⟨_, rfl, q _ (n / m) (n % m) ?_ upd_same (Int.emod_nonneg _ (by omega)) (Int.emod_lt_of_pos _ h0)⟩
    intro a o na ea
    rw [upd_ne na]
    exact same_new hp a o ea

theorem ok__law_whole (T : Tx K mg) : FnOk P w K mg base CX0 1 T.a__law_whole T.d__law_whole ["_law_thing"] (sp_is_whole K) := by
  refine T.F__law_whole.ok sc__law_whole (fun vs H Q E h => ?_) (fun cdv A outer s H vs Q E hr h => ?_)
  · obtain ⟨x, rfl, _⟩ := h; rfl
  obtain ⟨x, rfl, hx, q⟩ := h
  refine ⟨_, (pss_one (ps_ret (pe_and (pe_callB (r := rIsi K) call_isi (by rfl) T.m_isinstance bt_isinstance (pa_cons (pv 0) (pa_cons (pe_bltn (v := .ty "int") (by rfl) T.m_int bt_int rfl) pa_nil))) (pe_one (pe_not (pe_callB (r := rIsi K) call_isi (by rfl) T.m_isinstance bt_isinstance (pa_cons (pv 0) (pa_cons (pe_bltn (v := .ty "bool") (by rfl) T.m_bool bt_bool rfl) pa_nil)))))))), ?_⟩
  cases x with
  | non => exact ⟨_, rfl, _, _, _, _, false, rfl, .ty "int", .base .non, kit_ty (by decide +kernel), false, rfl, iteF q⟩
  | str y => exact ⟨_, rfl, _, _, _, _, false, rfl, .ty "int", .base (.str y), kit_ty (by decide +kernel), false, rfl, iteF q⟩
  | int i => exact ⟨_, rfl, _, _, _, _, true, rfl, .ty "int", .base (.int i), kit_ty (by decide +kernel), true, rfl, iteT ⟨_, rfl, _, _, _, _, false, rfl, .ty "bool", .base (.int i), kit_ty (by decide +kernel), false, rfl, q⟩⟩
  | bl y => exact ⟨_, rfl, _, _, _, _, true, rfl, .ty "int", .base (.bl y), kit_ty (by decide +kernel), true, rfl, iteT ⟨_, rfl, _, _, _, _, true, rfl, .ty "bool", .base (.bl y), kit_ty (by decide +kernel), true, rfl, q⟩⟩
  | ref a =>
    rcases hx with ⟨y, z⟩ | ⟨y, z⟩ | ⟨y, z⟩
    · exact ⟨_, rfl, _, _, _, _, false, rfl, .ty "int", .base (.lst z), kit_ty (by decide +kernel), false, rfl, iteF q⟩
    · exact ⟨_, rfl, _, _, _, _, false, rfl, .ty "int", .base (.tup z), kit_ty (by decide +kernel), false, rfl, iteF q⟩
    · exact ⟨_, rfl, _, _, _, _, false, rfl, .ty "int", .base (.dK z), kit_ty (by decide +kernel), false, rfl, iteF q⟩
  | byt y => exact hx.elim
  | flt y => exact hx.elim
  | ty y => exact hx.elim

theorem ok__law_truth (T : Tx K mg) : FnOk P w K mg base CX0 1 T.a__law_truth T.d__law_truth ["_law_found", "_law_due"] spTruth := by
  refine T.F__law_truth.ok sc__law_truth (fun vs H Q E h => ?_) (fun cdv A outer s H vs Q E hr h => ?_)
  · obtain ⟨x, y, rfl, _⟩ := h; rfl
  obtain ⟨x, y, rfl, q⟩ := h
  refine ⟨_, (pss_one (ps_ret (pe_and (pe_callB (r := rIsi K) call_isi (by rfl) T.m_isinstance bt_isinstance (pa_cons (pv 0) (pa_cons (pe_bltn (v := .ty "bool") (by rfl) T.m_bool bt_bool rfl) pa_nil))) (pe_one (pe_cmpR op_eq (pv 0) (pv 1) (nomark _)))))), ?_⟩
  refine ⟨_, rfl, _, _, _, _, true, rfl, .ty "bool", .base (.bl x), kit_ty (by decide +kernel), true, rfl, iteT ⟨_, rfl, _, rfl, rfl, ?_⟩⟩
  have e : decide (V.bl x = V.bl y) = decide (x = y) := by cases x <;> cases y <;> rfl
  rw [e]
  exact q

theorem ok__law_drawn_shares (T : Tx K mg) : FnOk P w K mg base CX0 2 T.a__law_drawn_shares T.d__law_drawn_shares ["_law_box_here", "_law_most", "_law_top"] spDrawn := by
  refine T.F__law_drawn_shares.ok sc__law_drawn_shares (fun vs H Q E h => ?_) (fun cdv A outer s H vs Q E hr h => ?_)
  · obtain ⟨b, n, most, top, rfl, _⟩ := h; rfl
  obtain ⟨b, n, most, top, rfl, hB, m1, m2, t1, t2, q⟩ := h
  refine ⟨_, (pss_cons (ps_set (i := 3) sc__law_drawn_shares.nd rfl (Or.inl rfl) (pe_op op_add pe_int (pe_call (ok__law_take T) (hr.mono (by decide)) (by rfl) T.g__law_take T.F__law_take.kp T.b__law_take .nil pass0 (pa_cons (pv 0) (pa_cons (pv 1) pa_nil)))))
      (pss_cons (ps_set (i := 4) sc__law_drawn_shares.nd rfl (Or.inr rfl) (pe_call (ok__law_take T) (hr.mono (by decide)) (by rfl) T.g__law_take T.F__law_take.kp T.b__law_take .nil pass0 (pa_cons (pv 0) (pa_cons pe_int pa_nil))))
      (pss_cons (ps_if (pt_cmpR op_eq (pv 4) pe_int (nomark _)) (pss_one (ps_ret (pe_op (r := KG.rTimes K) KG.op_times (pe_tup (pa_cons (pe_op op_add pe_int (pe_call (ok__law_take T) (hr.mono (by decide)) (by rfl) T.g__law_take T.F__law_take.kp T.b__law_take .nil pass0 (pa_cons (pv 0) (pa_cons (pv 2) pa_nil)))) pa_nil)) (pv 3)))) pss_nil)
      (pss_one (ps_ret (pe_callTy call_tuple_of (by rfl) T.m_tuple bt_tuple (pa_cons (pe_lc (own := [("_law_place", 5)]) (g := gName 5) (tt := tYes) rfl sc__law_drawn_shares.nd (pi_range1 (by rfl) T.m_range (pa_cons (pv 3) pa_nil)) (blkOk_by (N := ["_law_box_here", "_law_most", "_law_top", "_law_many", "_law_kind", "_law_place"]) (sc := defScope s__law_drawn_shares) (by decide +kernel)) (fun _ _ _ _ _ => (pg_name (i := 5) sc__law_drawn_shares.nd rfl (Or.inl rfl))) (fun _ _ _ _ _ => pts_nil) (fun _ _ _ _ _ => (pe_op op_add pe_int (pe_call (ok__law_take T) (hr.mono (by decide)) (by rfl) T.g__law_take T.F__law_take.kp T.b__law_take .nil pass0 (pa_cons (pv 0) (pa_cons (pe_ix (r := rIxL K) ix_list (pe_lst (pa_cons (pv 2) (pa_cons pe_int (pa_cons (pv 2) pa_nil)))) (pe_op op_sub (pv 4) pe_int) (fun _ _ => rfl)) pa_nil)))))) pa_nil))))))), ?_⟩
  refine ⟨_, rfl, _, rfl, b, n, most, rfl, hB, by omega, small_log' (by omega) (by omega), fun H1 n1 d1 k1 e1 z1 z2 => ⟨1, d1, rfl, rfl, ?_⟩⟩
  refine ⟨_, rfl, b, n1, 4, rfl, e1, by decide, by decide, fun H2 n2 d2 k2 e2 z3 z4 => ?_⟩
  refine ⟨_, rfl, rfl, _, rfl, ite2 (fun _ => ?_) (fun e => ?_)⟩
  · refine ⟨_, rfl, _, rfl, b, n2, top, rfl, e2, by omega, small_log' (by omega) (by omega), fun H3 n3 d3 k3 e3 z5 z6 => ⟨1, d3, rfl, rfl, sz1, fun p hp => ?_⟩⟩
    have kp : Kp b H (upd H3 p (.tup [.int (1 + d3)])) := k1.trans (k2.trans (k3.trans (Kp.of (same_new hp))))
    have nb : b ≠ p := ne_of_none e3 hp
    have eb : (upd H3 p (.tup [.int (1 + d3)])) b = some (.lst [.int n3]) := by rw [upd_ne nb]; exact e3
    have hn : H p = none := (k1.trans (k2.trans k3)).free e3 hp
    refine ⟨_, rfl, p, 1 + d1, [.int (1 + d3)], rfl, rfl, .inl (.inl upd_same), by simp, by omega, by omega, by show 1 ≤ 1000; decide, fun h1 => ?_, fun h2 p2 hp2 => ?_⟩
    · refine q _ p n3 [1 + d3] kp eb hn upd_same (Nat.le_refl _) (by show (1 : Int) ≤ most; omega) (fun x hx => ?_)
      rw [List.mem_singleton] at hx
      omega
    · have nb2 : b ≠ p2 := ne_of_none eb hp2
      refine q _ p2 n3 (List.replicate (1 + d1).toNat (1 + d3)) (kp.trans (Kp.of (same_new hp2))) ?_ (kp.free eb hp2) ?_ ?_ ?_ (fun x hx => ?_)
      · rw [upd_ne nb2]; exact eb
      · rw [upd_same, rep_map]
      · rw [List.length_replicate]; omega
      · rw [List.length_replicate]; omega
      · have := List.eq_of_mem_replicate hx
        omega
  · have hk0 : d2 ≠ 0 := fun z => e (decide_eq_true (by rw [z]))
    obtain ⟨m, hm, hm0, hm1⟩ := menu (show 1 ≤ d2 by omega) z4 t1
    refine ⟨_, rfl, 1 + d1, rfl, by omega, by omega, fun D hD => ?_⟩
    have kp0 : Kp b H H2 := k1.trans k2
    have hDb : D ≠ b := fun z => by rw [z, e2] at hD; exact nomatch hD
    refine lc_range (n := (1 + d1).toNat) (fun i H' => ∃ (ns : List Int) (n' : Int), H' D = some (.lst (ns.map V.int)) ∧ ns.length = i ∧ (∀ x ∈ ns, 1 ≤ x ∧ x ≤ top) ∧ H' b = some (.lst [.int n']) ∧ Kp b H2 H') ?_ ?_ ?_
    · exact ⟨[], n2, upd_same, rfl, (fun x hx => nomatch hx), by rw [upd_ne hDb.symm]; exact e2, Kp.of (same_new hD)⟩
    · rintro i H3 hi ⟨ns, n', eD, el, ha, eb, kp⟩
      refine ⟨rfl, yesT ⟨_, rfl, _, rfl, _, rfl, sz3, fun l hl => ⟨_, rfl, d2, 1, rfl, rfl, l, _, _, _, rfl, rfl, .inl (.inl upd_same), hm, ?_⟩⟩⟩
      have nlb : b ≠ l := ne_of_none eb hl
      have nlD : D ≠ l := ne_of_none eD hl
      refine ⟨b, n', m, rfl, by rw [upd_ne nlb]; exact eb, hm0, small_log' (by omega) (by omega), fun H5 n5 d5 k5 e5 w0 w1 => ⟨1, d5, rfl, rfl, ns.map V.int, ?_, ?_, ns ++ [1 + d5], n5, ?_, ?_, ?_, ?_, ?_⟩⟩
      · refine k5 D _ hDb ?_
        rw [upd_ne nlD]; exact eD
      · rw [List.length_map]; exact small1000 (by omega)
      · rw [upd_same, List.map_append]; rfl
      · rw [List.length_append, el]; rfl
      · intro x hx
        rcases List.mem_append.mp hx with hx | hx
        · exact ha x hx
        · rw [List.mem_singleton] at hx
          omega
      · rw [upd_ne hDb.symm]; exact e5
      · intro a o na ea
        have nD : a ≠ D := ne_of_none ea hD
        rw [upd_ne nD]
        exact k5 a o na (same_new hl a o (kp a o na ea))
    · rintro H3 ⟨ns, n', eD, el, ha, eb, kp⟩
      refine ⟨D, _, rfl, .inl ⟨.inl (.inl eD), fun p hp => ?_⟩⟩
      have nb : b ≠ p := ne_of_none eb hp
      exact q _ p n' ns (kp0.trans (kp.trans (Kp.of (same_new hp)))) (by rw [upd_ne nb]; exact eb) ((kp0.trans kp).free eb hp) upd_same (by omega) (by omega) ha

theorem ok__law_common (T : Tx K mg) : FnOk P w K mg base CX0 1 T.a__law_common T.d__law_common ["_law_one", "_law_other"] spGcd := by
  refine T.F__law_common.ok sc__law_common (fun vs H Q E h => ?_) (fun cdv A outer s H vs Q E hr h => ?_)
  · obtain ⟨a, b, rfl, _⟩ := h; rfl
  obtain ⟨a, b, rfl, ha, hb, q⟩ := h
  refine ⟨_, (pss_cons (ps_while PassesOwn.never (pt_cmpR op_ne (pv 1) pe_int (nomark _)) (pss_one (ps_par (i := 0) (j := 1) (by rfl) sc__law_common.nd rfl rfl (by decide) rfl rfl (pa_cons (pv 1) (pa_cons (pe_op op_mod (pv 0) (pv 1)) pa_nil)) (by rfl))))
      (pss_one (ps_ret (pv 0)))), ?_⟩
  refine while_by (fun σ H' => ∃ x y : Int, σ = [some (.int x), some (.int y)] ∧ 0 ≤ x ∧ 0 ≤ y ∧ Int.gcd x y = Int.gcd a b ∧ H' = H) (fun σ _ => match σ with | [_, some (.int y)] => y.toNat | _ => 0) ⟨a, b, rfl, ha, hb, rfl, rfl⟩ ?_ ?_
  · rintro σ H' ⟨x, y, rfl, hx, hy, e, rfl⟩
    refine ⟨_, rfl, rfl, _, rfl, ?_⟩
    by_cases h0 : y = 0
    · subst h0
      refine iteNS rfl ⟨_, rfl, ?_⟩
      rw [Int.gcd_zero_right] at e
      have e2 : x = (Int.gcd a b : Int) := by omega
      rw [e2]
      exact q
    · have hd : (!decide (V.int y = V.int 0)) = true := by
        rw [decide_eq_false (fun z => h0 (V.int.inj z))]; rfl
      rw [hd]
      refine iteT ⟨_, rfl, _, rfl, _, rfl, x, y, rfl, rfl, (by omega : 0 < y), _, _, rfl, ⟨y, x % y, rfl, hy, Int.emod_nonneg _ h0, ?_, rfl⟩, ?_⟩
      · rw [gcd_step x y hx (by omega), e]
      · show (x % y).toNat < y.toNat
        have := Int.emod_lt_of_pos x (show 0 < y by omega)
        omega
  · rintro σ H' Q Q' m ⟨v, h1, h2, k, h3, h4⟩
    exact ⟨v, h1, h2, k, h3, m _ _ h4⟩

theorem ok__law_made (T : Tx K mg) : FnOk P w K mg base CX0 2 T.a__law_made T.d__law_made ["_law_top", "_law_bottom"] spLow := by
  refine T.F__law_made.ok sc__law_made (fun vs H Q E h => ?_) (fun cdv A outer s H vs Q E hr h => ?_)
  · obtain ⟨a, b, rfl, _⟩ := h; rfl
  obtain ⟨t, b, rfl, hb, hl, q⟩ := h
  refine ⟨_, (pss_cons (ps_set (i := 2) sc__law_made.nd rfl (Or.inl rfl) (pe_call (ok__law_common T) (hr.mono (by decide)) (by rfl) T.g__law_common T.F__law_common.kp T.b__law_common .nil pass0 (pa_cons (pv 1) (pa_cons (pe_callB call_abs (by rfl) T.m_abs bt_abs (pa_cons (pv 0) pa_nil)) pa_nil))))
      (pss_one (ps_ret (pe_tup (pa_cons (pe_op op_fdivW (pv 0) (pv 2)) (pa_cons (pe_op op_fdivW (pv 1) (pv 2)) pa_nil)))))), ?_⟩
  refine ⟨_, rfl, _, rfl, t, rfl, b, _, rfl, (by omega), ?_, ?_⟩
  · rw [abs_eq]; omega
  have e : Int.gcd b (if t < 0 then -t else t) = Int.gcd t b := by
    rw [abs_eq, Int.gcd_comm]; rfl
  rw [e]
  refine ⟨_, rfl, _, rfl, t, _, rfl, rfl, gcd_div hb hl, _, rfl, _, rfl, b, _, rfl, rfl, gcd_div hb hl, sz2, fun p hp => ?_⟩
  exact q _ p (same_new hp) hp upd_same

theorem ok__law_odd (T : Tx K mg) : FnOk P w K mg base CX0 2 T.a__law_odd T.d__law_odd ["_law_box_here"] spOdd := by
  refine T.F__law_odd.ok sc__law_odd (fun vs H Q E h => ?_) (fun cdv A outer s H vs Q E hr h => ?_)
  · obtain ⟨b, n, rfl, _⟩ := h; rfl
  obtain ⟨b, n, rfl, hB, q⟩ := h
  refine ⟨_, (pss_cons (ps_set (i := 1) sc__law_odd.nd rfl (Or.inl rfl) (pe_lst (pa_cons pe_non (pa_cons pe_bl (pa_cons pe_bl (pa_cons (pe_un un_neg pe_int) (pa_cons pe_int (pa_cons pe_int (pa_cons pe_str (pa_cons pe_str (pa_cons (pe_tup pa_nil) (pa_cons (pe_lst pa_nil) (pa_cons (pe_tup (pa_cons pe_int pa_nil)) (pa_cons (pe_lst (pa_cons pe_int pa_nil)) (pa_cons (pe_tup (pa_cons pe_int (pa_cons pe_int pa_nil))) (pa_cons (pe_disp (pps_cons pe_str pe_int pps_nil) (by decide) rfl (by simp) (by decide)) (pa_cons pe_dnewK (pa_cons (pe_op op_pow pe_int pe_int) (pa_cons (pe_tup (pa_cons pe_int (pa_cons pe_int pa_nil))) (pa_cons (pe_tup (pa_cons pe_int (pa_cons pe_int pa_nil))) pa_nil))))))))))))))))))))
      (pss_one (ps_ret (pe_ix (r := rIxL K) ix_list (pe_op (r := rCat) op_cat (pv 1) (pe_lst (pa_cons (pe_tup (pa_cons (pe_tup (pa_cons pe_int (pa_cons pe_int pa_nil))) pa_nil)) (pa_cons (pe_tup (pa_cons pe_int (pa_cons pe_int pa_nil))) (pa_cons (pe_tup (pa_cons pe_int (pa_cons (pe_un un_neg pe_int) pa_nil))) (pa_cons (pe_tup (pa_cons pe_bl (pa_cons pe_int pa_nil))) (pa_cons (pe_tup (pa_cons pe_int (pa_cons pe_int (pa_cons pe_int pa_nil)))) (pa_cons (pe_tup (pa_cons (pe_lst (pa_cons pe_int pa_nil)) pa_nil)) pa_nil)))))))) (pe_call (ok__law_take T) (hr.mono (by decide)) (by rfl) T.g__law_take T.F__law_take.kp T.b__law_take .nil pass0 (pa_cons (pv 0) (pa_cons pe_int pa_nil))) (fun _ _ => rfl))))), ?_⟩
  have tH : Same H H := Same.refl H
  refine ⟨1, rfl, Nat.zero_le _, fun p1 h1 => ?_⟩
  have s1 : Same H (upd H p1 (.tup [])) := same_new h1
  have e1 : (upd H p1 (.tup [])) p1 = some (.tup []) := upd_same
  generalize upd H p1 (.tup []) = H1 at s1 e1 ⊢
  have tH1 : Same H H1 := tH.trans s1
  refine ⟨Nat.zero_le _, fun p2 h2 => ?_⟩
  have s2 : Same H1 (upd H1 p2 (.lst [])) := same_new h2
  have e2 : (upd H1 p2 (.lst [])) p2 = some (.lst []) := upd_same
  generalize upd H1 p2 (.lst []) = H2 at s2 e2 ⊢
  have tH2 : Same H H2 := tH1.trans s2
  refine ⟨sz1, fun p3 h3 => ?_⟩
  have s3 : Same H2 (upd H2 p3 (.tup [.int 0])) := same_new h3
  have e3 : (upd H2 p3 (.tup [.int 0])) p3 = some (.tup [.int 0]) := upd_same
  generalize upd H2 p3 (.tup [.int 0]) = H3 at s3 e3 ⊢
  have tH3 : Same H H3 := tH2.trans s3
  refine ⟨sz1, fun p4 h4 => ?_⟩
  have s4 : Same H3 (upd H3 p4 (.lst [.int 1])) := same_new h4
  have e4 : (upd H3 p4 (.lst [.int 1])) p4 = some (.lst [.int 1]) := upd_same
  generalize upd H3 p4 (.lst [.int 1]) = H4 at s4 e4 ⊢
  have tH4 : Same H H4 := tH3.trans s4
  refine ⟨sz2, fun p5 h5 => ?_⟩
  have s5 : Same H4 (upd H4 p5 (.tup [.int 0, .int 1])) := same_new h5
  have e5 : (upd H4 p5 (.tup [.int 0, .int 1])) p5 = some (.tup [.int 0, .int 1]) := upd_same
  generalize upd H4 p5 (.tup [.int 0, .int 1]) = H5 at s5 e5 ⊢
  have tH5 : Same H H5 := tH4.trans s5
  refine fun p6 h6 => ⟨upd_same, [(.inr "a", .int 1)], rfl, by decide, ?_⟩
  rw [upd_upd]
  have s6 : Same H5 (upd H5 p6 (.dK (mergeK [] [(.inr "a", .int 1)]))) := same_new h6
  have e6 : (upd H5 p6 (.dK (mergeK [] [(.inr "a", .int 1)]))) p6 = some (.dK (mergeK [] [(.inr "a", .int 1)])) := upd_same
  generalize upd H5 p6 (.dK (mergeK [] [(.inr "a", .int 1)])) = H6 at s6 e6 ⊢
  have tH6 : Same H H6 := tH5.trans s6
  refine fun p7 h7 => ?_
  have s7 : Same H6 (upd H6 p7 (.dK [])) := same_new h7
  have e7 : (upd H6 p7 (.dK [])) p7 = some (.dK []) := upd_same
  generalize upd H6 p7 (.dK []) = H7 at s7 e7 ⊢
  have tH7 : Same H H7 := tH6.trans s7
  refine ⟨10, 29, rfl, rfl, ⟨by decide, by decide, by decide⟩, sz2, fun p8 h8 => ?_⟩
  have s8 : Same H7 (upd H7 p8 (.tup [.int 1, .int 2])) := same_new h8
  have e8 : (upd H7 p8 (.tup [.int 1, .int 2])) p8 = some (.tup [.int 1, .int 2]) := upd_same
  generalize upd H7 p8 (.tup [.int 1, .int 2]) = H8 at s8 e8 ⊢
  have tH8 : Same H H8 := tH7.trans s8
  refine ⟨sz2, fun p9 h9 => ?_⟩
  have s9 : Same H8 (upd H8 p9 (.tup [.int 2, .int 4])) := same_new h9
  have e9 : (upd H8 p9 (.tup [.int 2, .int 4])) p9 = some (.tup [.int 2, .int 4]) := upd_same
  generalize upd H8 p9 (.tup [.int 2, .int 4]) = H9 at s9 e9 ⊢
  have tH9 : Same H H9 := tH8.trans s9
  refine ⟨(show 18 ≤ sizeLine by decide), fun p10 h10 => ?_⟩
  have s10 : Same H9 (upd H9 p10 (.lst [.non, .bl true, .bl false, .int (-1), .int 0, .int 1, .str "", .str "1", .ref p1, .ref p2, .ref p3, .ref p4, .ref p5, .ref p6, .ref p7, .int (10 ^ (29 : Int).toNat), .ref p8, .ref p9])) := same_new h10
  have e10 : (upd H9 p10 (.lst [.non, .bl true, .bl false, .int (-1), .int 0, .int 1, .str "", .str "1", .ref p1, .ref p2, .ref p3, .ref p4, .ref p5, .ref p6, .ref p7, .int (10 ^ (29 : Int).toNat), .ref p8, .ref p9])) p10 = some (.lst [.non, .bl true, .bl false, .int (-1), .int 0, .int 1, .str "", .str "1", .ref p1, .ref p2, .ref p3, .ref p4, .ref p5, .ref p6, .ref p7, .int (10 ^ (29 : Int).toNat), .ref p8, .ref p9]) := upd_same
  generalize upd H9 p10 (.lst [.non, .bl true, .bl false, .int (-1), .int 0, .int 1, .str "", .str "1", .ref p1, .ref p2, .ref p3, .ref p4, .ref p5, .ref p6, .ref p7, .int (10 ^ (29 : Int).toNat), .ref p8, .ref p9]) = H10 at s10 e10 ⊢
  have tH10 : Same H H10 := tH9.trans s10
  refine ⟨_, rfl, sz2, fun p11 h11 => ?_⟩
  have s11 : Same H10 (upd H10 p11 (.tup [.int 1, .int 2])) := same_new h11
  have e11 : (upd H10 p11 (.tup [.int 1, .int 2])) p11 = some (.tup [.int 1, .int 2]) := upd_same
  generalize upd H10 p11 (.tup [.int 1, .int 2]) = H11 at s11 e11 ⊢
  have tH11 : Same H H11 := tH10.trans s11
  refine ⟨sz1, fun p12 h12 => ?_⟩
  have s12 : Same H11 (upd H11 p12 (.tup [.ref p11])) := same_new h12
  have e12 : (upd H11 p12 (.tup [.ref p11])) p12 = some (.tup [.ref p11]) := upd_same
  generalize upd H11 p12 (.tup [.ref p11]) = H12 at s12 e12 ⊢
  have tH12 : Same H H12 := tH11.trans s12
  refine ⟨sz2, fun p13 h13 => ?_⟩
  have s13 : Same H12 (upd H12 p13 (.tup [.int 1, .int 0])) := same_new h13
  have e13 : (upd H12 p13 (.tup [.int 1, .int 0])) p13 = some (.tup [.int 1, .int 0]) := upd_same
  generalize upd H12 p13 (.tup [.int 1, .int 0]) = H13 at s13 e13 ⊢
  have tH13 : Same H H13 := tH12.trans s13
  refine ⟨1, rfl, sz2, fun p14 h14 => ?_⟩
  have s14 : Same H13 (upd H13 p14 (.tup [.int 3, .int (-1)])) := same_new h14
  have e14 : (upd H13 p14 (.tup [.int 3, .int (-1)])) p14 = some (.tup [.int 3, .int (-1)]) := upd_same
  generalize upd H13 p14 (.tup [.int 3, .int (-1)]) = H14 at s14 e14 ⊢
  have tH14 : Same H H14 := tH13.trans s14
  refine ⟨sz2, fun p15 h15 => ?_⟩
  have s15 : Same H14 (upd H14 p15 (.tup [.bl true, .int 1])) := same_new h15
  have e15 : (upd H14 p15 (.tup [.bl true, .int 1])) p15 = some (.tup [.bl true, .int 1]) := upd_same
  generalize upd H14 p15 (.tup [.bl true, .int 1]) = H15 at s15 e15 ⊢
  have tH15 : Same H H15 := tH14.trans s15
  refine ⟨sz3, fun p16 h16 => ?_⟩
  have s16 : Same H15 (upd H15 p16 (.tup [.int 1, .int 2, .int 3])) := same_new h16
  have e16 : (upd H15 p16 (.tup [.int 1, .int 2, .int 3])) p16 = some (.tup [.int 1, .int 2, .int 3]) := upd_same
  generalize upd H15 p16 (.tup [.int 1, .int 2, .int 3]) = H16 at s16 e16 ⊢
  have tH16 : Same H H16 := tH15.trans s16
  refine ⟨sz1, fun p17 h17 => ?_⟩
  have s17 : Same H16 (upd H16 p17 (.lst [.int 1])) := same_new h17
  have e17 : (upd H16 p17 (.lst [.int 1])) p17 = some (.lst [.int 1]) := upd_same
  generalize upd H16 p17 (.lst [.int 1]) = H17 at s17 e17 ⊢
  have tH17 : Same H H17 := tH16.trans s17
  refine ⟨sz1, fun p18 h18 => ?_⟩
  have s18 : Same H17 (upd H17 p18 (.tup [.ref p17])) := same_new h18
  have e18 : (upd H17 p18 (.tup [.ref p17])) p18 = some (.tup [.ref p17]) := upd_same
  generalize upd H17 p18 (.tup [.ref p17]) = H18 at s18 e18 ⊢
  have tH18 : Same H H18 := tH17.trans s18
  refine ⟨(show 6 ≤ sizeLine by decide), fun p19 h19 => ?_⟩
  have s19 : Same H18 (upd H18 p19 (.lst [.ref p12, .ref p13, .ref p14, .ref p15, .ref p16, .ref p18])) := same_new h19
  have e19 : (upd H18 p19 (.lst [.ref p12, .ref p13, .ref p14, .ref p15, .ref p16, .ref p18])) p19 = some (.lst [.ref p12, .ref p13, .ref p14, .ref p15, .ref p16, .ref p18]) := upd_same
  generalize upd H18 p19 (.lst [.ref p12, .ref p13, .ref p14, .ref p15, .ref p16, .ref p18]) = H19 at s19 e19 ⊢
  have tH19 : Same H H19 := tH18.trans s19
  have u19 : Same H19 H19 := Same.refl _
  have u18 : Same H18 H19 := s19.trans u19
  have u17 : Same H17 H19 := s18.trans u18
  have u16 : Same H16 H19 := s17.trans u17
  have u15 : Same H15 H19 := s16.trans u16
  have u14 : Same H14 H19 := s15.trans u15
  have u13 : Same H13 H19 := s14.trans u14
  have u12 : Same H12 H19 := s13.trans u13
  have u11 : Same H11 H19 := s12.trans u12
  have u10 : Same H10 H19 := s11.trans u11
  have u9 : Same H9 H19 := s10.trans u10
  have u8 : Same H8 H19 := s9.trans u9
  have u7 : Same H7 H19 := s8.trans u8
  have u6 : Same H6 H19 := s7.trans u7
  have u5 : Same H5 H19 := s6.trans u6
  have u4 : Same H4 H19 := s5.trans u5
  have u3 : Same H3 H19 := s4.trans u4
  have u2 : Same H2 H19 := s3.trans u3
  have u1 : Same H1 H19 := s2.trans u2
  refine ⟨p10, p19, _, _, rfl, rfl, u10 _ _ e10, e19, (show 18 + 6 ≤ sizeLine by decide), fun p20 h20 => ?_⟩
  have s20 : Same H19 (upd H19 p20 (.lst ([.non, .bl true, .bl false, .int (-1), .int 0, .int 1, .str "", .str "1", .ref p1, .ref p2, .ref p3, .ref p4, .ref p5, .ref p6, .ref p7, .int (10 ^ (29 : Int).toNat), .ref p8, .ref p9] ++ [.ref p12, .ref p13, .ref p14, .ref p15, .ref p16, .ref p18]))) := same_new h20
  have e20 : (upd H19 p20 (.lst ([.non, .bl true, .bl false, .int (-1), .int 0, .int 1, .str "", .str "1", .ref p1, .ref p2, .ref p3, .ref p4, .ref p5, .ref p6, .ref p7, .int (10 ^ (29 : Int).toNat), .ref p8, .ref p9] ++ [.ref p12, .ref p13, .ref p14, .ref p15, .ref p16, .ref p18]))) p20 = some (.lst ([.non, .bl true, .bl false, .int (-1), .int 0, .int 1, .str "", .str "1", .ref p1, .ref p2, .ref p3, .ref p4, .ref p5, .ref p6, .ref p7, .int (10 ^ (29 : Int).toNat), .ref p8, .ref p9] ++ [.ref p12, .ref p13, .ref p14, .ref p15, .ref p16, .ref p18])) := upd_same
  generalize upd H19 p20 (.lst ([.non, .bl true, .bl false, .int (-1), .int 0, .int 1, .str "", .str "1", .ref p1, .ref p2, .ref p3, .ref p4, .ref p5, .ref p6, .ref p7, .int (10 ^ (29 : Int).toNat), .ref p8, .ref p9] ++ [.ref p12, .ref p13, .ref p14, .ref p15, .ref p16, .ref p18])) = H20 at s20 e20 ⊢
  have tH20 : Same H H20 := tH19.trans s20
  have eb : H20 b = some (.lst [.int n]) := tH20 _ _ hB
  have nb : ∀ {y : Addr} {G : Hp}, Same H G → G y = none → y ≠ b := fun s hy z => by
    rw [z, s _ _ hB] at hy
    exact nomatch hy
  have all : ∀ x ∈ ([.non, .bl true, .bl false, .int (-1), .int 0, .int 1, .str "", .str "1", .ref p1, .ref p2, .ref p3, .ref p4, .ref p5, .ref p6, .ref p7, .int (10 ^ (29 : Int).toNat), .ref p8, .ref p9] ++ [.ref p12, .ref p13, .ref p14, .ref p15, .ref p16, .ref p18] : List V), ∃ l, ItAt l b H20 x := by
    intro x hx
    simp only [List.mem_append, List.mem_cons, List.not_mem_nil, or_false] at hx
    rcases hx with (rfl | rfl | rfl | rfl | rfl | rfl | rfl | rfl | rfl | rfl | rfl | rfl | rfl | rfl | rfl | rfl | rfl | rfl) | (rfl | rfl | rfl | rfl | rfl | rfl)
    · exact ⟨true, it_non⟩
    · exact ⟨true, it_bl _⟩
    · exact ⟨true, it_bl _⟩
    · exact ⟨true, it_int (by decide)⟩
    · exact ⟨true, it_int (by decide)⟩
    · exact ⟨true, it_int (by decide)⟩
    · exact ⟨true, _, .str _, ⟨rfl, by decide +kernel, by decide +kernel⟩⟩
    · exact ⟨true, _, .str _, ⟨rfl, by decide +kernel, by decide +kernel⟩⟩
    · exact ⟨true, it_tup (ns := []) (s20 _ _ (u1 _ _ e1)) (by decide) (fun _ h => nomatch h)⟩
    · exact ⟨true, it_lst (ns := []) (nb tH1 h2) (s20 _ _ (u2 _ _ e2)) (by decide) (fun _ h => nomatch h)⟩
    · exact ⟨true, it_tup (ns := [0]) (s20 _ _ (u3 _ _ e3)) (by decide) (by decide)⟩
    · exact ⟨true, it_lst (ns := [1]) (nb tH3 h4) (s20 _ _ (u4 _ _ e4)) (by decide) (by decide)⟩
    · exact ⟨true, it_tup (ns := [0, 1]) (s20 _ _ (u5 _ _ e5)) (by decide) (by decide)⟩
    · exact ⟨false, _, .dct (kvs := [(.inr "a", 1)]) rfl (s20 _ _ (u6 _ _ e6)), ⟨rfl, by decide +kernel, by decide +kernel⟩⟩
    · exact ⟨false, _, .dct (kvs := []) rfl (s20 _ _ (u7 _ _ e7)), ⟨rfl, by decide +kernel, by decide +kernel⟩⟩
    · exact ⟨true, it_int (by decide +kernel)⟩
    · exact ⟨true, it_tup (ns := [1, 2]) (s20 _ _ (u8 _ _ e8)) (by decide) (by decide)⟩
    · exact ⟨true, it_tup (ns := [2, 4]) (s20 _ _ (u9 _ _ e9)) (by decide) (by decide)⟩
    · exact ⟨true, it_of (s20 _ _ (u12 _ _ e12)) (.cons (.tup (s20 _ _ (u11 _ _ e11)) (DqAll.ints [1, 2])) .nil) ⟨rfl, by decide +kernel, by decide +kernel⟩⟩
    · exact ⟨true, it_tup (ns := [1, 0]) (s20 _ _ (u13 _ _ e13)) (by decide) (by decide)⟩
    · exact ⟨true, it_tup (ns := [3, -1]) (s20 _ _ (u14 _ _ e14)) (by decide) (by decide)⟩
    · exact ⟨true, it_of (s20 _ _ (u15 _ _ e15)) (.cons (.bl true) (.cons (.int 1) .nil)) ⟨rfl, by decide +kernel, by decide +kernel⟩⟩
    · exact ⟨true, it_tup (ns := [1, 2, 3]) (s20 _ _ (u16 _ _ e16)) (by decide) (by decide)⟩
    · exact ⟨true, it_of (s20 _ _ (u18 _ _ e18)) (.cons (.lst rfl (nb tH16 h17) (s20 _ _ (u17 _ _ e17)) (DqAll.ints [1])) .nil) ⟨rfl, by decide +kernel, by decide +kernel⟩⟩
  refine ⟨_, rfl, b, n, 24, rfl, eb, by decide, by decide, fun HZ n' d kz ez z1 z2 => ?_⟩
  have np : p20 ≠ b := nb tH19 h20
  have z2' : d < (([.non, .bl true, .bl false, .int (-1), .int 0, .int 1, .str "", .str "1", .ref p1, .ref p2, .ref p3, .ref p4, .ref p5, .ref p6, .ref p7, .int (10 ^ (29 : Int).toNat), .ref p8, .ref p9] ++ [.ref p12, .ref p13, .ref p14, .ref p15, .ref p16, .ref p18] : List V).length : Int) := z2
  obtain ⟨x, hx, hm⟩ := at_in (xs := [.non, .bl true, .bl false, .int (-1), .int 0, .int 1, .str "", .str "1", .ref p1, .ref p2, .ref p3, .ref p4, .ref p5, .ref p6, .ref p7, .int (10 ^ (29 : Int).toNat), .ref p8, .ref p9] ++ [.ref p12, .ref p13, .ref p14, .ref p15, .ref p16, .ref p18]) z1 z2'
  refine ⟨p20, _, d, x, rfl, rfl, .inl (.inl (kz _ _ np e20)), hx, ?_⟩
  obtain ⟨l, hi⟩ := all x hm
  exact q _ x n' l ((Kp.of tH20).trans kz) ez (hi.kp eb kz)

theorem ok__law_are_shares (T : Tx K mg) : FnOk P w K mg base CX0 2 T.a__law_are_shares T.d__law_are_shares ["_law_thing"] (spShares K) := by
  refine T.F__law_are_shares.ok sc__law_are_shares (fun vs H Q E h => ?_) (fun cdv A outer s H vs Q E hr h => ?_)
  · obtain ⟨x, rfl, _⟩ := h; rfl
  obtain ⟨x, rfl, ht, q⟩ := h
  refine ⟨_, (pss_cons (ps_if (PW.pt (pw_or (pt_not (pt_val (pe_callB (r := rIsi K) call_isi (by rfl) T.m_isinstance bt_isinstance (pa_cons (pv 0) (pa_cons (pe_bltn (v := .ty "tuple") (by rfl) T.m_tuple bt_tuple rfl) pa_nil))))) (pw_or1 (pt_not (pt_chain op_le op_le pe_int (pe_callB (r := Evl.rLenS K) call_len_seq (by rfl) T.m_len bt_len (pa_cons (pv 0) pa_nil)) pe_int))))) (pss_one (ps_ret pe_bl)) pss_nil)
      (pss_one (ps_ret (pe_cmpR (r := rEqNil K) (op_eqNil hr) (pe_lc (own := [("_law_one", 1)]) (g := gName 1) rfl sc__law_are_shares.nd (pi_tup (pv 0)) (blkOk_by (N := ["_law_thing", "_law_one"]) (sc := defScope s__law_are_shares) (by decide +kernel)) (fun _ _ _ _ _ => (pg_name (i := 1) sc__law_are_shares.nd rfl (Or.inl rfl))) (fun _ _ _ _ _ => pts_one (PW.pt (pw_or (pt_not (pt_val (pe_call (ok__law_whole T) (hr.mono (by decide)) (by rfl) T.g__law_whole T.F__law_whole.kp T.b__law_whole .nil pass0 (pa_cons (pv 1) pa_nil)))) (pw_or1 (pt_not (pt_chain op_le op_le pe_int (pv 1) pe_int)))))) (fun _ _ _ _ _ => (pv 1))) (pe_lst pa_nil) (nomark _))))), ?_⟩
  rcases ht with ⟨a, xs, rfl, ha, hk⟩ | hn
  · have e0 : isShs H (.ref a) = shs xs := by simp only [isShs, ha]
    rw [e0] at q
    obtain ⟨t, u, c1, c2, c3⟩ := isi_tup (K := K) ha
    refine ⟨_, rfl, _, _, t, u, true, rfl, c1, c2, c3, _, rfl, iteF ?_⟩
    refine ⟨_, rfl, a, xs, rfl, .inr (.inl (.inl ha)), 1, _, rfl, rfl, _, rfl, ?_⟩
    by_cases h1 : 1 ≤ xs.length
    · rw [decide_eq_true (show (1 : Int) ≤ (xs.length : Int) by omega)]
      refine iteT ⟨_, 5, rfl, rfl, _, rfl, ?_⟩
      by_cases h5 : xs.length ≤ 5
      · rw [decide_eq_true (show (xs.length : Int) ≤ 5 by omega)]
        refine iteF ⟨_, rfl, a, rfl, ⟨xs, .inl (.inl ha)⟩, fun D hD => ?_⟩
        refine lc_tup (xs := xs) (fun i H' => Same H H' ∧ H' D = some (.lst ((xs.take i).filter fun y => !within 1 9 y))) ⟨same_new hD, upd_same⟩ (fun i H' _ h => .inl (.inl (h.1 a _ ha))) ?_ ?_
        · rintro i y H' hi ⟨sm, eD⟩
          have stay : (!within 1 9 y) = false → (xs.take (i + 1)).filter (fun y => !within 1 9 y) = (xs.take i).filter fun y => !within 1 9 y := fun z => by
            rw [List.take_add_one, hi, List.filter_append]
            show _ ++ List.filter _ [y] = _
            rw [List.filter_cons_of_neg (by rw [z]; exact Bool.false_ne_true), List.filter_nil, List.append_nil]
          have grow : (!within 1 9 y) = true → (xs.take (i + 1)).filter (fun y => !within 1 9 y) = (xs.take i).filter (fun y => !within 1 9 y) ++ [y] := fun z => by
            rw [List.take_add_one, hi, List.filter_append]
            show _ ++ List.filter _ [y] = _
            rw [List.filter_cons_of_pos (p := fun y => !within 1 9 y) z, List.filter_nil]
          have put : (!within 1 9 y) = true → ∃ v, (some (some y) : Option (Option V)) = some (some v) ∧ ∃ acc, H' D = some (.lst acc) ∧ acc.length < sizeLine ∧ Same H (upd H' D (.lst (acc ++ [v]))) ∧ (upd H' D (.lst (acc ++ [v]))) D = some (.lst ((xs.take (i + 1)).filter fun y => !within 1 9 y)) := fun z => by
            refine ⟨y, rfl, _, eD, ?_, ?_, ?_⟩
            · have h1 := List.length_filter_le (fun y => !within 1 9 y) (xs.take i)
              rw [List.length_take] at h1
              exact small1000 (by omega)
            · intro b o eb
              rw [upd_ne (ne_of_none eb hD)]
              exact sm b o eb
            · rw [upd_same, grow z]
          have keep : (!within 1 9 y) = false → Same H H' ∧ H' D = some (.lst ((xs.take (i + 1)).filter fun y => !within 1 9 y)) := fun z => ⟨sm, by rw [stay z]; exact eD⟩
          refine ⟨rfl, _, rfl, y, rfl, (hk y (List.mem_of_getElem? hi)).mono sm, _, rfl, ?_⟩
          cases y with
          | int k =>
            refine iteF ⟨_, rfl, 1, k, rfl, rfl, _, rfl, ?_⟩
            by_cases k1 : 1 ≤ k
            · rw [decide_eq_true k1]
              refine iteT ⟨k, 9, rfl, rfl, _, rfl, ?_⟩
              by_cases k9 : k ≤ 9
              · rw [decide_eq_true k9]
                refine iteF (keep ?_)
                show (!(decide (1 ≤ k) && decide (k ≤ 9))) = false
                rw [decide_eq_true k1, decide_eq_true k9]; rfl
              · rw [decide_eq_false k9]
                refine iteT (put ?_)
                show (!(decide (1 ≤ k) && decide (k ≤ 9))) = true
                rw [decide_eq_false k9, Bool.and_false]; rfl
            · rw [decide_eq_false k1]
              refine iteF ⟨_, rfl, iteT (put ?_)⟩
              show (!(decide (1 ≤ k) && decide (k ≤ 9))) = true
              rw [decide_eq_false k1]; rfl
          | _ => exact iteT (iteT (put rfl))
        · rintro H' ⟨sm, eD⟩
          rw [List.take_length] at eD
          refine ⟨Nat.zero_le _, fun N hN => ⟨D, N, _, rfl, rfl, .inl (.inl (same_new hN _ _ eD)), .inl (.inl upd_same), ?_⟩⟩
          have e1 : shs xs = (xs.filter fun y => !within 1 9 y).isEmpty := by
            unfold shs
            rw [decide_eq_true h1, decide_eq_true h5]
            show xs.all (within 1 9) = _
            clear eD hk ha q e0 c2 h1 h5
            induction xs with
            | nil => rfl
            | cons y r ih =>
              rw [List.all_cons]
              cases hy : within 1 9 y with
              | true => rw [List.filter_cons_of_neg (by rw [hy]; exact Bool.false_ne_true), ih]; rfl
              | false => rw [List.filter_cons_of_pos (by rw [hy]; rfl)]; rfl
          rw [e1] at q
          exact q _ (sm.trans (same_new hN))
      · rw [decide_eq_false (show ¬ (xs.length : Int) ≤ 5 by omega)]
        refine iteT ?_
        have e1 : shs xs = false := by
          unfold shs
          rw [decide_eq_false h5, Bool.and_false]; rfl
        rw [e1] at q
        exact q _ (Same.refl _)
    · rw [decide_eq_false (show ¬ (1 : Int) ≤ (xs.length : Int) by omega)]
      refine iteF ⟨_, rfl, iteT ?_⟩
      have e1 : shs xs = false := by
        unfold shs
        rw [decide_eq_false h1]; rfl
      rw [e1] at q
      exact q _ (Same.refl _)
  · obtain ⟨t, u, c1, c2, c3⟩ := isi_not (K := K) hn
    refine ⟨_, rfl, _, _, t, u, false, rfl, c1, c2, c3, _, rfl, iteT (iteT ?_)⟩
    rw [isShs_not hn] at q
    exact q _ (Same.refl _)

theorem ok__law_is_fraction (T : Tx K mg) : FnOk P w K mg base CX0 2 T.a__law_is_fraction T.d__law_is_fraction ["_law_thing"] (spIsFr K) := by
  refine T.F__law_is_fraction.ok sc__law_is_fraction (fun vs H Q E h => ?_) (fun cdv A outer s H vs Q E hr h => ?_)
  · obtain ⟨x, rfl, _⟩ := h; rfl
  obtain ⟨x, rfl, ht, q⟩ := h
  refine ⟨_, (pss_cons (ps_if (PW.pt (pw_or (pt_not (pt_val (pe_callB (r := rIsi K) call_isi (by rfl) T.m_isinstance bt_isinstance (pa_cons (pv 0) (pa_cons (pe_bltn (v := .ty "tuple") (by rfl) T.m_tuple bt_tuple rfl) pa_nil))))) (pw_or (pt_cmpR op_ne (pe_callB (r := Evl.rLenS K) call_len_seq (by rfl) T.m_len bt_len (pa_cons (pv 0) pa_nil)) pe_int (nomark _)) (pw_or (pt_not (pt_val (pe_call (ok__law_whole T) (hr.mono (by decide)) (by rfl) T.g__law_whole T.F__law_whole.kp T.b__law_whole .nil pass0 (pa_cons (pe_ix (r := rIxT K) ix_tup (pv 0) pe_int (fun _ _ => rfl)) pa_nil)))) (pw_or1 (pt_not (pt_val (pe_call (ok__law_whole T) (hr.mono (by decide)) (by rfl) T.g__law_whole T.F__law_whole.kp T.b__law_whole .nil pass0 (pa_cons (pe_ix (r := rIxT K) ix_tup (pv 0) pe_int (fun _ _ => rfl)) pa_nil))))))))) (pss_one (ps_ret pe_bl)) pss_nil)
      (pss_one (ps_ret (pe_and (pe_cmpR op_gt (pe_ix (r := rIxT K) ix_tup (pv 0) pe_int (fun _ _ => rfl)) pe_int (nomark _)) (pe_one (pe_cmpR op_eq (pe_call (ok__law_common T) (hr.mono (by decide)) (by rfl) T.g__law_common T.F__law_common.kp T.b__law_common .nil pass0 (pa_cons (pe_ix (r := rIxT K) ix_tup (pv 0) pe_int (fun _ _ => rfl)) (pa_cons (pe_callB call_abs (by rfl) T.m_abs bt_abs (pa_cons (pe_ix (r := rIxT K) ix_tup (pv 0) pe_int (fun _ _ => rfl)) pa_nil)) pa_nil))) pe_int (nomark _))))))), ?_⟩
  rcases ht with ⟨a, xs, rfl, ha, hk⟩ | hn
  · rw [isFr_tup ha] at q
    obtain ⟨t, u, c1, c2, c3⟩ := isi_tup (K := K) ha
    refine ⟨_, rfl, _, _, t, u, true, rfl, c1, c2, c3, _, rfl, iteF ?_⟩
    refine ⟨_, rfl, a, xs, rfl, .inr (.inl (.inl ha)), rfl, _, rfl, ?_⟩
    by_cases h2 : xs.length = 2
    · match xs, h2, ha, hk, q with
      | [x, y], _, ha, hk, q =>
        have sq : SqT K H a [x, y] := .inl (.inl ha)
        have kx : Kn K H x := hk x (by simp)
        have ky : Kn K H y := hk y (by simp)
        refine iteF ⟨_, rfl, a, _, 0, x, rfl, rfl, sq, rfl, x, rfl, kx, _, rfl, ?_⟩
        cases hx : whole x with
        | false =>
          refine iteT (iteT ?_)
          rw [frB_not (.inl hx)] at q
          exact q
        | true =>
          refine iteF ⟨_, rfl, a, _, 1, y, rfl, rfl, sq, rfl, y, rfl, ky, _, rfl, ?_⟩
          cases hy : whole y with
          | false =>
            refine iteT ?_
            rw [frB_not (.inr hy)] at q
            exact q
          | true =>
            cases x with
            | int i =>
              cases y with
              | int j =>
                refine iteF ⟨_, rfl, a, _, 1, .int j, rfl, rfl, sq, rfl, j, 0, rfl, rfl, _, rfl, ?_⟩
                by_cases hj : 0 < j
                · rw [decide_eq_true hj]
                  refine iteT ⟨_, rfl, a, _, 1, .int j, rfl, rfl, sq, rfl, _, rfl, a, _, 0, .int i, rfl, rfl, sq, rfl, i, rfl, j, _, rfl, by omega, ?_, rfl, ?_⟩
                  · rw [abs_eq]; omega
                  have e1 : Int.gcd j (if i < 0 then -i else i) = Int.gcd i j := by
                    rw [abs_eq, Int.gcd_comm]; rfl
                  rw [e1]
                  have e : frB [.int i, .int j] = decide (V.int (Int.gcd i j : Int) = V.int 1) := by
                    show (decide (1 ≤ j) && decide (Int.gcd i j = 1)) = _
                    rw [decide_eq_true (show 1 ≤ j by omega), Bool.true_and]
                    by_cases g : Int.gcd i j = 1
                    · rw [g]; rfl
                    · rw [decide_eq_false g, decide_eq_false (fun z => g (by have := V.int.inj z; omega))]
                  rw [e] at q
                  exact q
                · rw [decide_eq_false hj]
                  refine iteF ?_
                  have e : frB [.int i, .int j] = false := by
                    show (decide (1 ≤ j) && decide (Int.gcd i j = 1)) = _
                    rw [decide_eq_false (show ¬ 1 ≤ j by omega)]; rfl
                  rw [e] at q
                  exact q
              | _ => exact nomatch hy
            | _ => exact nomatch hx
    · have e : (!decide (V.int (xs.length : Int) = V.int 2)) = true := by
        rw [decide_eq_false (fun z => h2 (by have := V.int.inj z; omega))]; rfl
      rw [e]
      refine iteT (iteT ?_)
      rw [frB_len h2] at q
      exact q
  · obtain ⟨t, u, c1, c2, c3⟩ := isi_not (K := K) hn
    refine ⟨_, rfl, _, _, t, u, false, rfl, c1, c2, c3, _, rfl, iteT (iteT ?_)⟩
    rw [isFr_not hn] at q
    exact q

theorem ok__law_bent (T : Tx K mg) : FnOk P w K mg base CX0 2 T.a__law_bent T.d__law_bent ["_law_box_here", "_law_row", "_law_odd_here"] spBent := by
  refine T.F__law_bent.ok sc__law_bent (fun vs H Q E h => ?_) (fun cdv A outer s H vs Q E hr h => ?_)
  · obtain ⟨b, r, n, ns, x, l, rfl, _⟩ := h; rfl
  obtain ⟨b, r, n, ns, x, l, rfl, hB, hR, l1, l5, hz, hx, q⟩ := h
  refine ⟨_, (pss_cons (ps_set (i := 3) sc__law_bent.nd rfl (Or.inl rfl) (pe_call (ok__law_take T) (hr.mono (by decide)) (by rfl) T.g__law_take T.F__law_take.kp T.b__law_take .nil pass0 (pa_cons (pv 0) (pa_cons (pe_callB (r := Evl.rLenS K) call_len_seq (by rfl) T.m_len bt_len (pa_cons (pv 1) pa_nil)) pa_nil))))
      (pss_cons (ps_set (i := 4) sc__law_bent.nd rfl (Or.inl rfl) (pe_ix (r := rIxT K) ix_tup (pv 1) (pv 3) (fun _ _ => rfl)))
      (pss_cons (ps_set (i := 5) sc__law_bent.nd rfl (Or.inl rfl) (pe_lst (pa_cons (pe_tup pa_nil) (pa_cons (pe_tup (pa_cons (pv 4) (pa_cons (pv 4) pa_nil))) (pa_cons (pe_tup (pa_cons pe_int pa_nil)) (pa_cons (pe_tup (pa_cons pe_int pa_nil)) (pa_cons (pe_tup (pa_cons (pe_op op_sub pe_int (pv 4)) pa_nil)) (pa_cons (pe_tup (pa_cons (pe_cmpR op_eq (pv 4) pe_int (nomark _)) pa_nil)) (pa_cons (pe_tup (pa_cons (pe_callTy call_str_int (by rfl) T.m_str bt_str (pa_cons (pv 4) pa_nil)) pa_nil)) (pa_cons (pe_tup (pa_cons (pv 2) pa_nil)) (pa_cons (pe_tup (pa_cons (pe_lst (pa_cons (pv 4) pa_nil)) pa_nil)) (pa_cons (pe_tup (pa_cons (pe_op op_add (pv 4) pe_int) pa_nil)) (pa_cons (pe_tup (pa_cons pe_non pa_nil)) pa_nil)))))))))))))
      (pss_cons (ps_set (i := 6) sc__law_bent.nd rfl (Or.inl rfl) (pe_call (ok__law_take T) (hr.mono (by decide)) (by rfl) T.g__law_take T.F__law_take.kp T.b__law_take .nil pass0 (pa_cons (pv 0) (pa_cons pe_int pa_nil))))
      (pss_cons (ps_if (pt_cmpR op_lt (pv 6) pe_int (nomark _)) (pss_one (ps_ret (pe_op (r := rCatA K) op_catA (pe_op (r := rCatA K) op_catA (pe_slice (r := rSlA K) sl_tupA (pv 1) po_none (po_some (pv 3))) (pe_ix (r := rIxL K) ix_list (pv 5) (pv 6) (fun _ _ => rfl))) (pe_slice (r := rSlA K) sl_tupA (pv 1) (po_some (pe_op op_add (pv 3) pe_int)) po_none)))) pss_nil)
      (pss_one (ps_ret (pe_ix (r := rIxL K) ix_list (pe_lst (pa_cons (pe_callTy call_list_of (by rfl) T.m_list bt_list (pa_cons (pv 1) pa_nil)) (pa_cons (pe_op (r := KG.rTimes K) KG.op_times (pv 1) pe_int) (pa_cons (pe_tup (pa_cons (pv 1) pa_nil)) pa_nil)))) (pe_op op_sub (pv 6) pe_int) (fun _ _ => rfl))))))))), ?_⟩
  have zz : ∀ i ∈ ns, i.natAbs < 2 ^ 200 := fun i hi => sz_le (hz i hi) (by decide)
  have rb : r ≠ b := ne_of hR hB (by intro z; cases z)
  refine ⟨_, rfl, _, rfl, r, _, rfl, .inr (.inl (.inl hR)), ?_⟩
  have el : ((ns.map V.int).length : Int) = (ns.length : Int) := by rw [List.length_map]
  rw [el]
  refine ⟨b, n, ns.length, rfl, hB, by omega, small_log' (by omega) (by omega), fun H1 n1 at_ k1 e1 z1 z2 => ?_⟩
  have hR1 := k1 _ _ rb hR
  have hx1 := hx.kp hB k1
  have hk : at_.toNat < ns.length := by omega
  obtain ⟨one, ho⟩ : ∃ one, ns[at_.toNat]? = some one := ⟨_, List.getElem?_eq_getElem hk⟩
  have zo : one.natAbs < 2 ^ 110 := hz one (List.mem_of_getElem? ho)
  have gat : atI (ns.map V.int) at_ = some (.int one) := at_of (j := at_.toNat) (by omega) (by rw [List.getElem?_map, ho]; rfl)
  refine ⟨_, rfl, _, rfl, r, _, at_, .int one, rfl, rfl, .inl (.inl hR1), gat, ?_⟩
  have zo2 : one.natAbs < 2 ^ 200 := sz_le zo (by decide)
  have zn : (0 - one).natAbs < 2 ^ 200 := by rw [Int.zero_sub, Int.natAbs_neg]; exact zo2
  have zp : (one + 1).natAbs < 2 ^ 200 := sz_le (sz_add zo (show (1 : Int).natAbs < 2 ^ 110 by decide)) (by decide)
  have zl : one.natAbs.log2 < 1920 := log_of zo (by decide) (by decide)
  have nb : ∀ {y : Addr} {G : Hp}, Same H1 G → G y = none → y ≠ b := fun s hy z => by
    rw [z, s _ _ e1] at hy
    exact nomatch hy
  -- the eleven news
  refine ⟨Nat.zero_le _, fun p1 h1 => ?_⟩
  have s1 : Same H1 (upd H1 p1 (.tup [])) := same_new h1
  have e1a : (upd H1 p1 (.tup [])) p1 = some (.tup []) := upd_same
  generalize upd H1 p1 (.tup []) = G1 at s1 e1a ⊢
  have tG1 : Same H1 G1 := s1
  refine ⟨_, rfl, _, rfl, sz2, fun p2 h2 => ?_⟩
  have s2 : Same G1 (upd G1 p2 (.tup [.int one, .int one])) := same_new h2
  have e2a : (upd G1 p2 (.tup [.int one, .int one])) p2 = some (.tup [.int one, .int one]) := upd_same
  generalize upd G1 p2 (.tup [.int one, .int one]) = G2 at s2 e2a ⊢
  have tG2 : Same H1 G2 := tG1.trans s2
  refine ⟨sz1, fun p3 h3 => ?_⟩
  have s3 : Same G2 (upd G2 p3 (.tup [.int 0])) := same_new h3
  have e3a : (upd G2 p3 (.tup [.int 0])) p3 = some (.tup [.int 0]) := upd_same
  generalize upd G2 p3 (.tup [.int 0]) = G3 at s3 e3a ⊢
  have tG3 : Same H1 G3 := tG2.trans s3
  refine ⟨sz1, fun p4 h4 => ?_⟩
  have s4 : Same G3 (upd G3 p4 (.tup [.int 10])) := same_new h4
  have e4a : (upd G3 p4 (.tup [.int 10])) p4 = some (.tup [.int 10]) := upd_same
  generalize upd G3 p4 (.tup [.int 10]) = G4 at s4 e4a ⊢
  have tG4 : Same H1 G4 := tG3.trans s4
  refine ⟨_, rfl, 0, one, rfl, rfl, sz1, fun p5 h5 => ?_⟩
  have s5 : Same G4 (upd G4 p5 (.tup [.int (0 - one)])) := same_new h5
  have e5a : (upd G4 p5 (.tup [.int (0 - one)])) p5 = some (.tup [.int (0 - one)]) := upd_same
  generalize upd G4 p5 (.tup [.int (0 - one)]) = G5 at s5 e5a ⊢
  have tG5 : Same H1 G5 := tG4.trans s5
  refine ⟨_, rfl, rfl, sz1, fun p6 h6 => ?_⟩
  have s6 : Same G5 (upd G5 p6 (.tup [.bl (decide (V.int one = V.int 1))])) := same_new h6
  have e6a : (upd G5 p6 (.tup [.bl (decide (V.int one = V.int 1))])) p6 = some (.tup [.bl (decide (V.int one = V.int 1))]) := upd_same
  generalize upd G5 p6 (.tup [.bl (decide (V.int one = V.int 1))]) = G6 at s6 e6a ⊢
  have tG6 : Same H1 G6 := tG5.trans s6
  refine ⟨_, rfl, one, rfl, zl, sz1, fun p7 h7 => ?_⟩
  have s7 : Same G6 (upd G6 p7 (.tup [.str (toString one)])) := same_new h7
  have e7a : (upd G6 p7 (.tup [.str (toString one)])) p7 = some (.tup [.str (toString one)]) := upd_same
  generalize upd G6 p7 (.tup [.str (toString one)]) = G7 at s7 e7a ⊢
  have tG7 : Same H1 G7 := tG6.trans s7
  refine ⟨_, rfl, sz1, fun p8 h8 => ?_⟩
  have s8 : Same G7 (upd G7 p8 (.tup [x])) := same_new h8
  have e8a : (upd G7 p8 (.tup [x])) p8 = some (.tup [x]) := upd_same
  generalize upd G7 p8 (.tup [x]) = G8 at s8 e8a ⊢
  have tG8 : Same H1 G8 := tG7.trans s8
  refine ⟨_, rfl, sz1, fun p9 h9 => ?_⟩
  have s9 : Same G8 (upd G8 p9 (.lst [.int one])) := same_new h9
  have e9a : (upd G8 p9 (.lst [.int one])) p9 = some (.lst [.int one]) := upd_same
  generalize upd G8 p9 (.lst [.int one]) = G9 at s9 e9a ⊢
  have tG9 : Same H1 G9 := tG8.trans s9
  refine ⟨sz1, fun p10 h10 => ?_⟩
  have s10 : Same G9 (upd G9 p10 (.tup [.ref p9])) := same_new h10
  have e10a : (upd G9 p10 (.tup [.ref p9])) p10 = some (.tup [.ref p9]) := upd_same
  generalize upd G9 p10 (.tup [.ref p9]) = G10 at s10 e10a ⊢
  have tG10 : Same H1 G10 := tG9.trans s10
  refine ⟨_, rfl, one, 1, rfl, rfl, sz1, fun p11 h11 => ?_⟩
  have s11 : Same G10 (upd G10 p11 (.tup [.int (one + 1)])) := same_new h11
  have e11a : (upd G10 p11 (.tup [.int (one + 1)])) p11 = some (.tup [.int (one + 1)]) := upd_same
  generalize upd G10 p11 (.tup [.int (one + 1)]) = G11 at s11 e11a ⊢
  have tG11 : Same H1 G11 := tG10.trans s11
  refine ⟨sz1, fun p12 h12 => ?_⟩
  have s12 : Same G11 (upd G11 p12 (.tup [.non])) := same_new h12
  have e12a : (upd G11 p12 (.tup [.non])) p12 = some (.tup [.non]) := upd_same
  generalize upd G11 p12 (.tup [.non]) = G12 at s12 e12a ⊢
  have tG12 : Same H1 G12 := tG11.trans s12
  refine ⟨(show 11 ≤ sizeLine by decide), fun pN hN => ?_⟩
  have sN : Same G12 (upd G12 pN (.lst [.ref p1, .ref p2, .ref p3, .ref p4, .ref p5, .ref p6, .ref p7, .ref p8, .ref p10, .ref p11, .ref p12])) := same_new hN
  have eNw : (upd G12 pN (.lst [.ref p1, .ref p2, .ref p3, .ref p4, .ref p5, .ref p6, .ref p7, .ref p8, .ref p10, .ref p11, .ref p12])) pN = some (.lst [.ref p1, .ref p2, .ref p3, .ref p4, .ref p5, .ref p6, .ref p7, .ref p8, .ref p10, .ref p11, .ref p12]) := upd_same
  generalize upd G12 pN (.lst [.ref p1, .ref p2, .ref p3, .ref p4, .ref p5, .ref p6, .ref p7, .ref p8, .ref p10, .ref p11, .ref p12]) = HN at sN eNw ⊢
  have tN : Same H1 HN := tG12.trans sN
  have nNb : pN ≠ b := nb tG12 hN
  have u12 : Same G12 HN := sN
  have u11 : Same G11 HN := s12.trans u12
  have u10 : Same G10 HN := s11.trans u11
  have u9 : Same G9 HN := s10.trans u10
  have u8 : Same G8 HN := s9.trans u9
  have u7 : Same G7 HN := s8.trans u8
  have u6 : Same G6 HN := s7.trans u7
  have u5 : Same G5 HN := s6.trans u6
  have u4 : Same G4 HN := s5.trans u5
  have u3 : Same G3 HN := s4.trans u4
  have u2 : Same G2 HN := s3.trans u3
  have u1 : Same G1 HN := s2.trans u2
  have all : ∀ v ∈ ([.ref p1, .ref p2, .ref p3, .ref p4, .ref p5, .ref p6, .ref p7, .ref p8, .ref p10, .ref p11, .ref p12] : List V), ∃ nw xs l', v = .ref nw ∧ HN nw = some (.tup xs) ∧ xs.length ≤ 2 ∧ ∀ y ∈ xs, ItAt l' b HN y := by
    intro v hv
    simp only [List.mem_cons, List.not_mem_nil, or_false] at hv
    rcases hv with rfl | rfl | rfl | rfl | rfl | rfl | rfl | rfl | rfl | rfl | rfl
    · exact ⟨p1, _, true, rfl, (u1 _ _ e1a), Nat.zero_le _, fun y hy => nomatch hy⟩
    · refine ⟨p2, _, true, rfl, (u2 _ _ e2a), Nat.le_refl _, fun y hy => ?_⟩
      simp only [List.mem_cons, List.not_mem_nil, or_false, or_self] at hy
      subst hy
      exact it_int zo2
    · refine ⟨p3, _, true, rfl, (u3 _ _ e3a), Nat.le_of_lt (Nat.lt_of_lt_of_le (Nat.lt_succ_self _) (Nat.le_refl _)), fun y hy => ?_⟩
      rw [List.mem_singleton] at hy
      subst hy
      exact it_int (by decide)
    · refine ⟨p4, _, true, rfl, (u4 _ _ e4a), Nat.le_of_lt (Nat.lt_of_lt_of_le (Nat.lt_succ_self _) (Nat.le_refl _)), fun y hy => ?_⟩
      rw [List.mem_singleton] at hy
      subst hy
      exact it_int (by decide)
    · refine ⟨p5, _, true, rfl, (u5 _ _ e5a), Nat.le_of_lt (Nat.lt_of_lt_of_le (Nat.lt_succ_self _) (Nat.le_refl _)), fun y hy => ?_⟩
      rw [List.mem_singleton] at hy
      subst hy
      exact it_int zn
    · refine ⟨p6, _, true, rfl, (u6 _ _ e6a), Nat.le_of_lt (Nat.lt_of_lt_of_le (Nat.lt_succ_self _) (Nat.le_refl _)), fun y hy => ?_⟩
      rw [List.mem_singleton] at hy
      subst hy
      exact it_bl _
    · refine ⟨p7, _, true, rfl, (u7 _ _ e7a), Nat.le_of_lt (Nat.lt_of_lt_of_le (Nat.lt_succ_self _) (Nat.le_refl _)), fun y hy => ?_⟩
      rw [List.mem_singleton] at hy
      subst hy
      exact it_str zo
    · refine ⟨p8, _, l, rfl, (u8 _ _ e8a), Nat.le_of_lt (Nat.lt_of_lt_of_le (Nat.lt_succ_self _) (Nat.le_refl _)), fun y hy => ?_⟩
      rw [List.mem_singleton] at hy
      subst hy
      exact hx1.mono (tG12.trans sN)
    · refine ⟨p10, _, true, rfl, (u10 _ _ e10a), Nat.le_of_lt (Nat.lt_of_lt_of_le (Nat.lt_succ_self _) (Nat.le_refl _)), fun y hy => ?_⟩
      rw [List.mem_singleton] at hy
      subst hy
      exact it_lst (ns := [one]) (nb tG8 h9) (u9 _ _ e9a) (show 1 ≤ 4 by decide) (fun i hi => by rw [List.mem_singleton] at hi; subst hi; exact zo2)
    · refine ⟨p11, _, true, rfl, (u11 _ _ e11a), Nat.le_of_lt (Nat.lt_of_lt_of_le (Nat.lt_succ_self _) (Nat.le_refl _)), fun y hy => ?_⟩
      rw [List.mem_singleton] at hy
      subst hy
      exact it_int zp
    · refine ⟨p12, _, true, rfl, (u12 _ _ e12a), Nat.le_of_lt (Nat.lt_of_lt_of_le (Nat.lt_succ_self _) (Nat.le_refl _)), fun y hy => ?_⟩
      rw [List.mem_singleton] at hy
      subst hy
      exact it_non
  -- which one
  refine ⟨_, rfl, b, n1, 14, rfl, tN _ _ e1, by decide, by decide, fun H2 n2 kd k2 e2 z3 z4 => ?_⟩
  have kn : Kp b H1 H2 := (Kp.of tN).trans k2
  have kall : Kp b H H2 := k1.trans kn
  have hR2 := kn _ _ rb hR1
  have hR2s : SqT K H2 r (ns.map V.int) := .inl (.inl hR2)
  refine ⟨_, rfl, kd, 11, rfl, rfl, _, rfl, ite2 (fun ek => ?_) (fun ek => ?_)⟩
  · have ek : kd < 11 := of_decide_eq_true ek
    have z11 : kd < (([.ref p1, .ref p2, .ref p3, .ref p4, .ref p5, .ref p6, .ref p7, .ref p8, .ref p10, .ref p11, .ref p12] : List V).length : Int) := ek
    obtain ⟨v, hv, hm⟩ := at_in z3 z11
    obtain ⟨nw, xs, l', rfl, ev, hxl, hits⟩ := all v hm
    have ev2 := k2 _ _ (ne_of ev (tN _ _ e1) (by intro z; cases z)) ev
    have hits2 : ∀ y ∈ xs, ItAt l' b H2 y := fun y hy => (hits y hy).kp (tN _ _ e1) k2
    have eNw2 := k2 _ _ nNb eNw
    -- row[:at]
    have put : ∀ (G : Hp) (p : Addr) (ys : List V), Same H2 G → G p = some (.tup ys) → ys.length ≤ 40 → (∀ y ∈ ys, ItAt l' b G y) → Q (.ref p) G := fun G p ys sG ep hl hy =>
      q G (.ref p) n2 (kall.trans (Kp.of sG)) (sG _ _ e2) (th_tup ep hl hy)
    have rowIn : ∀ {G : Hp} {ys : List V}, (∀ y ∈ ys, y ∈ ns.map V.int) → ∀ y ∈ ys, ItAt l' b G y := fun hs y hy => it_ints zz y (hs y hy)
    have cutIn : ∀ lo hi, ∀ y ∈ cutV (ns.map V.int) lo hi, y ∈ ns.map V.int := fun lo hi y hy => List.mem_of_mem_drop (List.mem_of_mem_take hy)
    have cutLen : ∀ lo hi, (cutV (ns.map V.int) lo hi).length ≤ 5 := fun lo hi => by
      unfold cutV
      rw [List.length_take, List.length_drop, List.length_map]
      omega
    -- a part of the row, at some place
    have part : ∀ (lo hi : Option Int) (G : Hp) (Q' : VK), Same H2 G → (∀ p G' ys, Same G G' → G' p = some (.tup ys) → ys.length ≤ 5 → (∀ y ∈ ys, y ∈ ns.map V.int) → Q' (.ref p) G') → rSlA K (.ref r) lo hi G Q' := fun lo hi G Q' sG k =>
      ⟨r, ns.map V.int, rfl, .inl (.inl (sG _ _ hR2)), fun _ => k r G _ (Same.refl _) (sG _ _ hR2) (by rw [List.length_map]; exact l5) (fun y hy => hy),
        fun _ p hp => k p _ _ (same_new hp) upd_same (cutLen lo hi) (cutIn lo hi)⟩
    refine ⟨_, rfl, _, rfl, at_, rfl, part none (some at_) H2 _ (Same.refl _) (fun p G ys sG ep hl hin => ?_)⟩
    refine ⟨_, rfl, _, rfl, pN, _, kd, .ref nw, rfl, rfl, .inl (.inl (sG _ _ eNw2)), hv, ?_⟩
    have step : ∀ (G2 : Hp) (c : Addr) (zs : List V), Same H2 G2 → G2 c = some (.tup zs) → zs.length ≤ 16 → (∀ y ∈ zs, ItAt l' b G2 y) →
        (∃ v, (some (some (V.ref r)) : Option (Option V)) = some (some v) ∧ tPart (tOp (rI0 fun i j => .int (i + j)) (tVar 3) (tC (.int 1))) [some (.ref b), some (.ref r), some x, some (.int at_), some (.int one), some (.ref pN), some (.int kd)] G2 fun lo G3 => tNoPart [some (.ref b), some (.ref r), some x, some (.int at_), some (.int one), some (.ref pN), some (.int kd)] G3 fun hi G4 => rSlA K v lo hi G4 fun y G5 => rCatA K (.ref c) y G5 Q) := fun G2 c zs s2 ec hl2 hy2 => by
      refine ⟨_, rfl, _, rfl, at_, 1, rfl, rfl, _, rfl, part (some (at_ + 1)) none G2 (fun y G5 => rCatA K (.ref c) y G5 Q) s2 (fun p' G' ys' sG' ep' hl' hin' => ?_)⟩
      refine ⟨c, p', zs, ys', rfl, rfl, .inl (.inl (sG' _ _ ec)), .inl (.inl ep'), Nat.le_trans (show zs.length + ys'.length ≤ 1000 by omega) (by decide), fun _ => ?_, fun _ _ => ?_, fun _ _ p2 hp2 => ?_⟩
      · exact put G' p' ys' (s2.trans sG') ep' (by omega) (rowIn hin')
      · exact put G' c zs (s2.trans sG') (sG' _ _ ec) (by omega) (fun y hy => (hy2 y hy).mono sG')
      · refine put _ p2 (zs ++ ys') ((s2.trans sG').trans (same_new hp2)) upd_same (by rw [List.length_append]; omega) (fun y hy => ?_)
        rcases List.mem_append.mp hy with hy | hy
        · exact ((hy2 y hy).mono sG').mono (same_new hp2)
        · exact rowIn hin' y hy
    refine ⟨p, nw, ys, xs, rfl, rfl, .inl (.inl ep), .inl (.inl (sG _ _ ev2)), Nat.le_trans (show ys.length + xs.length ≤ 1000 by omega) (by decide), fun _ => ?_, fun _ _ => ?_, fun _ _ p1 hp1 => ?_⟩
    · exact step G nw xs sG (sG _ _ ev2) (by omega) (fun y hy => (hits2 y hy).mono sG)
    · exact step G p ys sG ep (by omega) (rowIn hin)
    · refine step _ p1 (ys ++ xs) (sG.trans (same_new hp1)) upd_same (by rw [List.length_append]; omega) (fun y hy => ?_)
      rcases List.mem_append.mp hy with hy | hy
      · exact rowIn hin y hy
      · exact ((hits2 y hy).mono sG).mono (same_new hp1)
  · have ek : ¬ kd < 11 := fun z => ek (decide_eq_true z)
    refine ⟨_, rfl, r, _, rfl, .inr hR2s, fun pl hpl => ?_⟩
    have nlb : pl ≠ b := fun z => by rw [z, e2] at hpl; exact nomatch hpl
    have sl : Same H2 (upd H2 pl (.lst (ns.map V.int))) := same_new hpl
    have epl : (upd H2 pl (.lst (ns.map V.int))) pl = some (.lst (ns.map V.int)) := upd_same
    generalize upd H2 pl (.lst (ns.map V.int)) = H3 at sl epl ⊢
    refine ⟨_, rfl, r, 3, ns.map V.int, rfl, rfl, .inl (.inl (sl _ _ hR2)), ?_, by decide, by decide, by rw [List.length_map]; omega, (fun z => absurd z (by decide)), fun _ pt hpt => ?_⟩
    · intro z
      rw [← List.length_eq_zero_iff, List.length_map] at z
      omega
    have e3 : (List.replicate (3 : Int).toNat (ns.map V.int)).flatten = (ns ++ (ns ++ ns)).map V.int := by
      rw [List.map_append, List.map_append]
      show ns.map V.int ++ (ns.map V.int ++ (ns.map V.int ++ [])) = _
      rw [List.append_nil]
    rw [e3]
    have st : Same H3 (upd H3 pt (.tup ((ns ++ (ns ++ ns)).map V.int))) := same_new hpt
    have ept : (upd H3 pt (.tup ((ns ++ (ns ++ ns)).map V.int))) pt = some (.tup ((ns ++ (ns ++ ns)).map V.int)) := upd_same
    generalize upd H3 pt (.tup ((ns ++ (ns ++ ns)).map V.int)) = H4 at st ept ⊢
    refine ⟨_, rfl, sz1, fun pw hpw => ?_⟩
    have sw : Same H4 (upd H4 pw (.tup [.ref r])) := same_new hpw
    have epw : (upd H4 pw (.tup [.ref r])) pw = some (.tup [.ref r]) := upd_same
    generalize upd H4 pw (.tup [.ref r]) = H5 at sw epw ⊢
    refine ⟨sz3, fun pm hpm => ⟨_, rfl, kd, 11, rfl, rfl, ?_⟩⟩
    have sm : Same H5 (upd H5 pm (.lst [.ref pl, .ref pt, .ref pw])) := same_new hpm
    have epm : (upd H5 pm (.lst [.ref pl, .ref pt, .ref pw])) pm = some (.lst [.ref pl, .ref pt, .ref pw]) := upd_same
    generalize upd H5 pm (.lst [.ref pl, .ref pt, .ref pw]) = H6 at sm epm ⊢
    have s26 : Same H2 H6 := ((sl.trans st).trans sw).trans sm
    have fin : ∀ y, ThAt b H6 y → Q y H6 := fun y hy => q H6 y n2 (kall.trans (Kp.of s26)) (s26 _ _ e2) hy
    rcases (show kd = 11 ∨ kd = 12 ∨ kd = 13 by omega) with rfl | rfl | rfl
    · refine ⟨pm, _, _, .ref pl, rfl, rfl, .inl (.inl epm), rfl, fin _ ?_⟩
      exact th_lst nlb (sm _ _ (sw _ _ (st _ _ epl))) (by rw [List.length_map]; omega) (it_ints zz)
    · refine ⟨pm, _, _, .ref pt, rfl, rfl, .inl (.inl epm), rfl, fin _ ?_⟩
      refine th_tup (l := true) (sm _ _ (sw _ _ ept)) (by rw [List.length_map, List.length_append, List.length_append]; omega) (it_ints fun i hi => ?_)
      rcases List.mem_append.mp hi with hi | hi
      · exact zz i hi
      · rcases List.mem_append.mp hi with hi | hi <;> exact zz i hi
    · refine ⟨pm, _, _, .ref pw, rfl, rfl, .inl (.inl epm), rfl, fin _ ?_⟩
      refine th_tup (l := true) (sm _ _ epw) (by show 1 ≤ 40; decide) (fun y hy => ?_)
      rw [List.mem_singleton] at hy
      subst hy
      refine ⟨_, .tup (s26 _ _ hR2) (DqAll.ints ns), (small_tup (m := 201) (k := 0) (n := 5) (by rw [List.length_map]; exact l5) fun d hd => ?_).mono (by decide) (by decide)⟩
      obtain ⟨i, hi, rfl⟩ := List.mem_map.mp hd
      exact small_int (zz i hi) (by decide) (by decide)
end
end KGX

namespace KGX
open PySem PySem.Spec PyProof.Rows L2
section
variable {P : Program} {w : World} {K : PySem.W.Frag} {mg : Str → Option Value} {base : Heap}
--GUARDED
theorem isShs_same {l : Bool} {b : Addr} {H H' : Hp} {x : V} {d : PyData} (h : Dq l b H x d) (s : Same H H') : isShs H' x = isShs H x := by
  cases h with
  | lst h1 h2 h3 h4 => simp only [isShs, h3, s _ _ h3]
  | tup h1 h2 => simp only [isShs, h1, s _ _ h1]
  | dct h1 h2 => simp only [isShs, h2, s _ _ h2]
  | _ => rfl
theorem its2 {l : Bool} {b : Addr} {H : Hp} {x y : V} (hx : ItAt l b H x) (hy : ItAt l b H y) : ∀ z ∈ [x, y], ItAt l b H z := fun z hz => by
  simp only [List.mem_cons, List.not_mem_nil, or_false] at hz
  rcases hz with rfl | rfl
  · exact hx
  · exact hy
theorem ok_law (T : Tx K mg) : KG.FnG P w K mg base 4 T.a_law T.d_law ["_law_script"] (sp_law K) := by
  refine KG.okG T.F_law sc_law (fun vs H Q E h => ?_) (fun cdv A outer s H vs Q E gd hr h => ?_)
  · obtain ⟨a, ns, rfl, _⟩ := h; rfl
  obtain ⟨a, ns, rfl, hS, hl, q⟩ := h
  refine ⟨_, (pss_cons (ps_for PassesOwn.never rfl (pi_range1 (by rfl) T.m_range (pa_cons (pe_callB (call_max2 rfl) (by rfl) T.m_max bt_max (pa_cons pe_int (pa_cons (pe_callB (call_min2 rfl) (by rfl) T.m_min bt_min (pa_cons (pe_callB (r := Evl.rLenS K) call_len_seq (by rfl) T.m_len bt_len (pa_cons (pv 0) pa_nil)) (pa_cons pe_int pa_nil))) pa_nil))) pa_nil)) (pg_name (i := 1) sc_law.nd rfl (Or.inl rfl)) (pss_cons (ps_set (i := 2) sc_law.nd rfl (Or.inl rfl) (pe_call (ok__law_box T) (hr.mono (by decide)) (by rfl) T.g__law_box T.F__law_box.kp T.b__law_box .nil pass0 (pa_cons (pv 0) (pa_cons (pv 1) pa_nil))))
      (pss_cons (ps_set (i := 3) sc_law.nd rfl (Or.inl rfl) (pe_call (ok__law_drawn_shares T) (hr.mono (by decide)) (by rfl) T.g__law_drawn_shares T.F__law_drawn_shares.kp T.b__law_drawn_shares .nil pass0 (pa_cons (pv 2) (pa_cons pe_int (pa_cons pe_int pa_nil)))))
      (pss_cons (ps_set (i := 4) sc_law.nd rfl (Or.inl rfl) (pe_call (ok__law_odd T) (hr.mono (by decide)) (by rfl) T.g__law_odd T.F__law_odd.kp T.b__law_odd .nil pass0 (pa_cons (pv 2) pa_nil)))
      (pss_cons (ps_set (i := 5) sc_law.nd rfl (Or.inl rfl) (pe_ix (r := rIxL K) ix_list (pe_lst (pa_cons pe_int (pa_cons pe_int (pa_cons (pe_op op_pow pe_int pe_int) (pa_cons (pe_op op_pow pe_int pe_int) pa_nil))))) (pe_call (ok__law_take T) (hr.mono (by decide)) (by rfl) T.g__law_take T.F__law_take.kp T.b__law_take .nil pass0 (pa_cons (pv 2) (pa_cons pe_int pa_nil))) (fun _ _ => rfl)))
      (pss_cons (ps_par (i := 6) (j := 7) (by rfl) sc_law.nd rfl rfl (by decide) rfl rfl (pa_cons (pe_op op_sub (pe_call (ok__law_take T) (hr.mono (by decide)) (by rfl) T.g__law_take T.F__law_take.kp T.b__law_take .nil pass0 (pa_cons (pv 2) (pa_cons (pe_op op_mul pe_int (pv 5)) pa_nil))) (pv 5)) (pa_cons (pe_op op_add pe_int (pe_call (ok__law_take T) (hr.mono (by decide)) (by rfl) T.g__law_take T.F__law_take.kp T.b__law_take .nil pass0 (pa_cons (pv 2) (pa_cons (pv 5) pa_nil)))) pa_nil)) (by rfl))
      (pss_cons (ps_set (i := 8) sc_law.nd rfl (Or.inl rfl) (pe_call (ok__law_made T) (hr.mono (by decide)) (by rfl) T.g__law_made T.F__law_made.kp T.b__law_made .nil pass0 (pa_cons (pv 6) (pa_cons (pv 7) pa_nil))))
      (pss_cons (ps_set (i := 9) sc_law.nd rfl (Or.inl rfl) (pe_op op_add pe_int (pe_call (ok__law_take T) (hr.mono (by decide)) (by rfl) T.g__law_take T.F__law_take.kp T.b__law_take .nil pass0 (pa_cons (pv 2) (pa_cons pe_int pa_nil)))))
      (pss_cons (ps_set (i := 10) sc_law.nd rfl (Or.inl rfl) (pe_lst (pa_cons (pv 3) (pa_cons (pv 8) (pa_cons (pe_tup (pa_cons (pv 6) (pa_cons (pv 7) pa_nil))) (pa_cons (pe_tup (pa_cons (pe_op op_mul (pe_ix (r := rIxT K) ix_tup (pv 8) pe_int (fun _ _ => rfl)) (pv 9)) (pa_cons (pe_op op_mul (pe_ix (r := rIxT K) ix_tup (pv 8) pe_int (fun _ _ => rfl)) (pv 9)) pa_nil))) (pa_cons (pe_tup (pa_cons (pe_ix (r := rIxT K) ix_tup (pv 8) pe_int (fun _ _ => rfl)) (pa_cons (pe_op op_sub pe_int (pe_ix (r := rIxT K) ix_tup (pv 8) pe_int (fun _ _ => rfl))) pa_nil))) (pa_cons (pe_tup (pa_cons pe_int (pa_cons (pv 9) pa_nil))) (pa_cons (pe_tup (pa_cons (pv 9) (pa_cons pe_int pa_nil))) pa_nil)))))))))
      (pss_cons (ps_set (i := 10) sc_law.nd rfl (Or.inl rfl) (pe_op (r := rCat) op_cat (pv 10) (pe_lst (pa_cons (pv 4) (pa_cons (pe_callTy call_list_of (by rfl) T.m_list bt_list (pa_cons (pv 8) pa_nil)) (pa_cons (pe_op (r := rCatA K) op_catA (pv 8) (pe_tup (pa_cons pe_int pa_nil))) (pa_cons (pe_slice (r := rSlA K) sl_tupA (pv 8) po_none (po_some pe_int)) (pa_cons (pe_tup (pa_cons (pe_ix (r := rIxT K) ix_tup (pv 8) pe_int (fun _ _ => rfl)) (pa_cons pe_bl pa_nil))) (pa_cons (pe_tup (pa_cons pe_int (pa_cons pe_int pa_nil))) pa_nil)))))))))
      (pss_cons (ps_expr (pe_bm PySem.F.plainAttrs_list PySem.F.slot_list_append PySem.F.type_list_append mt_append (pv 10) (pa_cons (pe_op (r := KG.rTimes K) KG.op_times (pe_tup (pa_cons pe_int pa_nil)) (pe_op op_add pe_int (pe_call (ok__law_take T) (hr.mono (by decide)) (by rfl) T.g__law_take T.F__law_take.kp T.b__law_take .nil pass0 (pa_cons (pv 2) (pa_cons pe_int pa_nil))))) pa_nil)))
      (pss_cons (ps_for PassesOwn.never rfl (pi_range1 (by rfl) T.m_range (pa_cons pe_int pa_nil)) (pg_name (i := 11) sc_law.nd rfl (Or.inl rfl)) (pss_one (ps_set (i := 10) sc_law.nd rfl (Or.inl rfl) (pe_op (r := rCat) op_cat (pv 10) (pe_lst (pa_cons (pe_call (ok__law_bent T) (hr.mono (by decide)) (by rfl) T.g__law_bent T.F__law_bent.kp T.b__law_bent .nil pass0 (pa_cons (pv 2) (pa_cons (pv 3) (pa_cons (pv 4) pa_nil)))) (pa_cons (pe_call (ok__law_bent T) (hr.mono (by decide)) (by rfl) T.g__law_bent T.F__law_bent.kp T.b__law_bent .nil pass0 (pa_cons (pv 2) (pa_cons (pv 8) (pa_cons (pv 4) pa_nil)))) pa_nil)))))))
      (pss_one (ps_for PassesOwn.never rfl (pi_list (pv 10)) (pg_name (i := 12) sc_law.nd rfl (Or.inl rfl)) (pss_cons (ps_set (i := 13) sc_law.nd rfl (Or.inl rfl) (pe_callB (r := rReprQ) (call_reprQ gd hr) (by rfl) T.m_repr bt_repr (pa_cons (pv 12) pa_nil)))
      (pss_cons (ps_if (pt_not (pt_val (pe_call (ok__law_truth T) (hr.mono (by decide)) (by rfl) T.g__law_truth T.F__law_truth.kp T.b__law_truth .nil pass0 (pa_cons (pe_call (ok_is_shares T) (hr.mono (by decide)) (by rfl) T.g_is_shares T.F_is_shares.kp T.b_is_shares .nil pass0 (pa_cons (pv 12) pa_nil)) (pa_cons (pe_call (ok__law_are_shares T) (hr.mono (by decide)) (by rfl) T.g__law_are_shares T.F__law_are_shares.kp T.b__law_are_shares .nil pass0 (pa_cons (pv 12) pa_nil)) pa_nil))))) (pss_one (ps_ret pe_bl)) pss_nil)
      (pss_one (ps_if (PW.pt (pw_or (pt_not (pt_val (pe_call (ok__law_truth T) (hr.mono (by decide)) (by rfl) T.g__law_truth T.F__law_truth.kp T.b__law_truth .nil pass0 (pa_cons (pe_call (ok_is_fraction T) (hr.mono (by decide)) (by rfl) T.g_is_fraction T.F_is_fraction.kp T.b_is_fraction .nil pass0 (pa_cons (pv 12) pa_nil)) (pa_cons (pe_call (ok__law_is_fraction T) (hr.mono (by decide)) (by rfl) T.g__law_is_fraction T.F__law_is_fraction.kp T.b__law_is_fraction .nil pass0 (pa_cons (pv 12) pa_nil)) pa_nil))))) (pw_or1 (pt_cmpR op_ne (pe_callB (r := rReprQ) (call_reprQ gd hr) (by rfl) T.m_repr bt_repr (pa_cons (pv 12) pa_nil)) (pv 13) (nomark _))))) (pss_one (ps_ret pe_bl)) pss_nil))))))))))))))))))
      (pss_one (ps_ret pe_bl))), ?_⟩
  refine ⟨_, rfl, a, _, rfl, .inl hS, _, _, rfl, _, _, rfl, ?_⟩
  generalize hM : (if (if (6 : Int) < ((ns.map V.int).length : Int) then (6 : Int) else ((ns.map V.int).length : Int)) > 1 then (if (6 : Int) < ((ns.map V.int).length : Int) then (6 : Int) else ((ns.map V.int).length : Int)) else (1 : Int)) = M
  have hM1 : 1 ≤ M ∧ M ≤ 6 := by
    rw [← hM]
    split <;> split <;> omega
  refine ⟨M, rfl, by omega, by omega, for_range (n := M.toNat) (fun i σ H' => ∃ y1 y2 y3 y4 y5 y6 y7 y8 y9 y10 y11 y12 y13, σ = [some (.ref a), y1, y2, y3, y4, y5, y6, y7, y8, y9, y10, y11, y12, y13] ∧ Same H H') ⟨_, _, _, _, _, _, _, _, _, _, _, _, _, rfl, Same.refl _⟩ ?_ ?_⟩
  · rintro i σ H1 hi ⟨y1, y2, y3, y4, y5, y6, y7, y8, y9, y10, y11, y12, y13, rfl, s1⟩
    refine ⟨_, rfl, _, rfl, a, ns, i, by rw [Int.zero_add]; rfl, s1.seq hS, fun H2 b n s2 hb eb => ?_⟩
    refine ⟨_, rfl, b, n, 5, 9, rfl, eb, by decide, by decide, by decide, by decide, fun H3 p n3 ss k3 e3 hp ep l1 l2 hss => ?_⟩
    have hb0 : H b = none := s1.free hb
    have npb : p ≠ b := ne_of ep e3 (by intro z; cases z)
    refine ⟨_, rfl, b, n3, rfl, e3, fun H4 x n4 l k4 e4 hx => ?_⟩
    have ep4 := k4 _ _ npb ep
    -- the size
    refine ⟨10, 20, rfl, rfl, ⟨by decide, by decide, by decide⟩, 10, 29, rfl, rfl, ⟨by decide, by decide, by decide⟩, sz4, fun ml hml => ?_⟩
    have sml : Same H4 (upd H4 ml (.lst [.int 9, .int 100, .int (10 ^ (20 : Int).toNat), .int (10 ^ (29 : Int).toNat)])) := same_new hml
    have eml : (upd H4 ml (.lst [.int 9, .int 100, .int (10 ^ (20 : Int).toNat), .int (10 ^ (29 : Int).toNat)])) ml = some (.lst [.int 9, .int 100, .int (10 ^ (20 : Int).toNat), .int (10 ^ (29 : Int).toNat)]) := upd_same
    generalize upd H4 ml (.lst [.int 9, .int 100, .int (10 ^ (20 : Int).toNat), .int (10 ^ (29 : Int).toNat)]) = H4' at sml eml ⊢
    have nml : ml ≠ b := fun z => by rw [z, e4] at hml; exact nomatch hml
    refine ⟨_, rfl, b, n4, 4, rfl, sml _ _ e4, by decide, by decide, fun H5 n5 d5 k5 e5 z1 z2 => ?_⟩
    obtain ⟨m, hm, m0, m1⟩ : ∃ m : Int, atI [V.int 9, .int 100, .int (10 ^ (20 : Int).toNat), .int (10 ^ (29 : Int).toNat)] d5 = some (.int m) ∧ 9 ≤ m ∧ m ≤ 10 ^ 29 := by
      rcases (show d5 = 0 ∨ d5 = 1 ∨ d5 = 2 ∨ d5 = 3 by omega) with rfl | rfl | rfl | rfl
      · exact ⟨9, at_of (j := 0) rfl rfl, by decide, by decide⟩
      · exact ⟨100, at_of (j := 1) rfl rfl, by decide, by decide⟩
      · exact ⟨10 ^ 20, at_of (j := 2) rfl rfl, by decide, by decide⟩
      · exact ⟨10 ^ 29, at_of (j := 3) rfl rfl, by decide, by decide⟩
    refine ⟨ml, _, d5, .int m, rfl, rfl, .inl (.inl (k5 _ _ nml eml)), hm, ?_⟩
    have p29 : (10 : Int) ^ 29 = 100000000000000000000000000000 := by decide
    rw [p29] at m1
    have p97 : (2 : Nat) ^ 97 = 158456325028528675187087900672 := by decide
    have p98 : (2 : Nat) ^ 98 = 316912650057057350374175801344 := by decide
    have mlog : m.natAbs.log2 < 9000 := Nat.lt_of_lt_of_le (PySem.Flt.log2_lt_of (n := m.natAbs) (k := 97) (by decide) (by rw [p97]; omega)) (by decide)
    have mlog2 : (2 * m).natAbs.log2 < 9000 := Nat.lt_of_lt_of_le (PySem.Flt.log2_lt_of (n := (2 * m).natAbs) (k := 98) (by decide) (by rw [p98]; omega)) (by decide)
    -- top, bottom
    refine ⟨_, rfl, _, rfl, 2, m, rfl, rfl, .inl ⟨by decide, by decide⟩, b, n5, 2 * m, rfl, e5, by omega, mlog2, fun H6 n6 d6 k6 e6 z3 z4 => ⟨_, rfl, d6, m, rfl, rfl, ?_⟩⟩
    refine ⟨_, rfl, _, rfl, b, n6, m, rfl, e6, by omega, mlog, fun H7 n7 d7 k7 e7 z5 z6 => ⟨1, d7, rfl, rfl, _, _, rfl, ?_⟩⟩
    have tz : (d6 - m).natAbs < 2 ^ 97 := by rw [p97]; omega
    have bz : (1 + d7).natAbs < 2 ^ 97 := by rw [p97]; omega
    have b1 : 0 < (1 + d7) := by omega
    have blog : (1 + d7).natAbs.log2 < 9000 := Nat.lt_of_lt_of_le (PySem.Flt.log2_lt_of (by decide) bz) (by decide)
    refine ⟨_, rfl, _, rfl, (d6 - m), (1 + d7), rfl, b1, blog, fun H8 pg s8 hpg epg => ?_⟩
    have g0z : ((d6 - m) / (Int.gcd (d6 - m) (1 + d7) : Int)).natAbs < 2 ^ 97 := Nat.lt_of_le_of_lt natAbs_div_le tz
    have g1z : ((1 + d7) / (Int.gcd (d6 - m) (1 + d7) : Int)).natAbs < 2 ^ 97 := Nat.lt_of_le_of_lt natAbs_div_le bz
    have epg : H8 pg = some (.tup [.int ((d6 - m) / (Int.gcd (d6 - m) (1 + d7) : Int)), .int ((1 + d7) / (Int.gcd (d6 - m) (1 + d7) : Int))]) := epg
    generalize (d6 - m) / (Int.gcd (d6 - m) (1 + d7) : Int) = g0 at g0z epg
    generalize (1 + d7) / (Int.gcd (d6 - m) (1 + d7) : Int) = g1 at g1z epg
    have e8 := s8 _ _ e7
    have npgb : pg ≠ b := ne_of epg e8 (by intro z; cases z)
    refine ⟨_, rfl, b, n7, 9, rfl, e8, by decide, by decide, fun H9 n9 d9 k9 e9 z7 z8 => ⟨2, d9, rfl, rfl, ?_⟩⟩
    have by1 : 2 ≤ (2 + d9) ∧ (2 + d9) ≤ 10 := by omega
    have k49 : Kp b H4 H9 := (Kp.of sml).trans (k5.trans (k6.trans (k7.trans ((Kp.of s8).trans k9))))
    have ep9 := k49 _ _ npb ep4
    have epg9 := k9 _ _ npgb epg
    have hx9 := hx.kp e4 k49
    have s09 : Same H H9 := fun y o e => k49 y o (ne_of_none e hb0) (k4 y o (ne_of_none e hb0) (k3 y o (ne_of_none e hb0) (s2 y o (s1 y o e))))
    have byz : (2 + d9).natAbs < 2 ^ 4 := by rw [show (2 : Nat) ^ 4 = 16 by decide]; omega
    have ssz : ∀ i ∈ ss, i.natAbs < 2 ^ 110 := fun i hi => by
      have h9 := hss i hi
      exact Nat.lt_of_le_of_lt (show i.natAbs ≤ 9 by omega) (by decide)
    have ggz : ∀ i ∈ [g0, g1], i.natAbs < 2 ^ 110 := fun i hi => by
      simp only [List.mem_cons, List.not_mem_nil, or_false] at hi
      rcases hi with rfl | rfl
      · exact sz_le g0z (by decide)
      · exact sz_le g1z (by decide)
    refine ⟨_, rfl, _, rfl, _, rfl, _, rfl, sz2, fun q1 h1 => ?_⟩
    have s_1 : Same H9 (upd H9 q1 (.tup [.int (d6 - m), .int (1 + d7)])) := same_new h1
    have e_1 : (upd H9 q1 (.tup [.int (d6 - m), .int (1 + d7)])) q1 = some (.tup [.int (d6 - m), .int (1 + d7)]) := upd_same
    generalize upd H9 q1 (.tup [.int (d6 - m), .int (1 + d7)]) = G1 at s_1 e_1 ⊢
    have tG1 : Same H9 G1 := s_1
    refine ⟨_, rfl, pg, _, 0, .int g0, rfl, rfl, .inl (.inl (tG1 _ _ epg9)), rfl, _, rfl, g0, (2 + d9), rfl, rfl, .inr ⟨by omega, by omega⟩, _, rfl, pg, _, 1, .int g1, rfl, rfl, .inl (.inl (tG1 _ _ epg9)), rfl, _, rfl, g1, (2 + d9), rfl, rfl, .inr ⟨by omega, by omega⟩, sz2, fun q2 h2 => ?_⟩
    have s_2 : Same G1 (upd G1 q2 (.tup [.int (g0 * (2 + d9)), .int (g1 * (2 + d9))])) := same_new h2
    have e_2 : (upd G1 q2 (.tup [.int (g0 * (2 + d9)), .int (g1 * (2 + d9))])) q2 = some (.tup [.int (g0 * (2 + d9)), .int (g1 * (2 + d9))]) := upd_same
    generalize upd G1 q2 (.tup [.int (g0 * (2 + d9)), .int (g1 * (2 + d9))]) = G2 at s_2 e_2 ⊢
    have tG2 : Same H9 G2 := tG1.trans s_2
    refine ⟨_, rfl, pg, _, 0, .int g0, rfl, rfl, .inl (.inl (tG2 _ _ epg9)), rfl, _, rfl, pg, _, 1, .int g1, rfl, rfl, .inl (.inl (tG2 _ _ epg9)), rfl, 0, g1, rfl, rfl, sz2, fun q3 h3 => ?_⟩
    have s_3 : Same G2 (upd G2 q3 (.tup [.int g0, .int (0 - g1)])) := same_new h3
    have e_3 : (upd G2 q3 (.tup [.int g0, .int (0 - g1)])) q3 = some (.tup [.int g0, .int (0 - g1)]) := upd_same
    generalize upd G2 q3 (.tup [.int g0, .int (0 - g1)]) = G3 at s_3 e_3 ⊢
    have tG3 : Same H9 G3 := tG2.trans s_3
    refine ⟨_, rfl, sz2, fun q4 h4 => ?_⟩
    have s_4 : Same G3 (upd G3 q4 (.tup [.int 0, .int (2 + d9)])) := same_new h4
    have e_4 : (upd G3 q4 (.tup [.int 0, .int (2 + d9)])) q4 = some (.tup [.int 0, .int (2 + d9)]) := upd_same
    generalize upd G3 q4 (.tup [.int 0, .int (2 + d9)]) = G4 at s_4 e_4 ⊢
    have tG4 : Same H9 G4 := tG3.trans s_4
    refine ⟨_, rfl, sz2, fun q5 h5 => ?_⟩
    have s_5 : Same G4 (upd G4 q5 (.tup [.int (2 + d9), .int 0])) := same_new h5
    have e_5 : (upd G4 q5 (.tup [.int (2 + d9), .int 0])) q5 = some (.tup [.int (2 + d9), .int 0]) := upd_same
    generalize upd G4 q5 (.tup [.int (2 + d9), .int 0]) = G5 at s_5 e_5 ⊢
    have tG5 : Same H9 G5 := tG4.trans s_5
    refine ⟨(show 7 ≤ sizeLine by decide), fun q6 h6 => ?_⟩
    have s_6 : Same G5 (upd G5 q6 (.lst [.ref p, .ref pg, .ref q1, .ref q2, .ref q3, .ref q4, .ref q5])) := same_new h6
    have e_6 : (upd G5 q6 (.lst [.ref p, .ref pg, .ref q1, .ref q2, .ref q3, .ref q4, .ref q5])) q6 = some (.lst [.ref p, .ref pg, .ref q1, .ref q2, .ref q3, .ref q4, .ref q5]) := upd_same
    generalize upd G5 q6 (.lst [.ref p, .ref pg, .ref q1, .ref q2, .ref q3, .ref q4, .ref q5]) = G6 at s_6 e_6 ⊢
    have tG6 : Same H9 G6 := tG5.trans s_6
    refine ⟨_, rfl, _, rfl, _, rfl, pg, _, rfl, .inr (.inl (.inl (tG6 _ _ epg9))), fun q7 h7 => ?_⟩
    have s_7 : Same G6 (upd G6 q7 (.lst [.int g0, .int g1])) := same_new h7
    have e_7 : (upd G6 q7 (.lst [.int g0, .int g1])) q7 = some (.lst [.int g0, .int g1]) := upd_same
    generalize upd G6 q7 (.lst [.int g0, .int g1]) = G7 at s_7 e_7 ⊢
    have tG7 : Same H9 G7 := tG6.trans s_7
    refine ⟨_, rfl, sz1, fun q8 h8 => ?_⟩
    have s_8 : Same G7 (upd G7 q8 (.tup [.int 1])) := same_new h8
    have e_8 : (upd G7 q8 (.tup [.int 1])) q8 = some (.tup [.int 1]) := upd_same
    generalize upd G7 q8 (.tup [.int 1]) = G8 at s_8 e_8 ⊢
    have tG8 : Same H9 G8 := tG7.trans s_8
    refine ⟨pg, q8, _, _, rfl, rfl, .inl (.inl (tG8 _ _ epg9)), .inl (.inl e_8), (show 2 + 1 ≤ sizeLine by decide), (fun z => nomatch z), (fun _ z => nomatch z), fun _ _ => fun q9 h9 => ?_⟩
    have s_9 : Same G8 (upd G8 q9 (.tup ([.int g0, .int g1] ++ [.int 1]))) := same_new h9
    have e_9 : (upd G8 q9 (.tup ([.int g0, .int g1] ++ [.int 1]))) q9 = some (.tup ([.int g0, .int g1] ++ [.int 1])) := upd_same
    generalize upd G8 q9 (.tup ([.int g0, .int g1] ++ [.int 1])) = G9 at s_9 e_9 ⊢
    have tG9 : Same H9 G9 := tG8.trans s_9
    refine ⟨_, rfl, 1, rfl, pg, _, rfl, .inl (.inl (tG9 _ _ epg9)), (fun hw => absurd (show HT.sIx 2 2 (some 1) = 2 from hw.2) (by decide)), fun _ => fun q10 h10 => ?_⟩
    rw [show cutV [V.int g0, .int g1] none (some 1) = [V.int g0] from rfl]
    have s_10 : Same G9 (upd G9 q10 (.tup [.int g0])) := same_new h10
    have e_10 : (upd G9 q10 (.tup [.int g0])) q10 = some (.tup [.int g0]) := upd_same
    generalize upd G9 q10 (.tup [.int g0]) = G10 at s_10 e_10 ⊢
    have tG10 : Same H9 G10 := tG9.trans s_10
    refine ⟨_, rfl, pg, _, 0, .int g0, rfl, rfl, .inl (.inl (tG10 _ _ epg9)), rfl, sz2, fun q11 h11 => ?_⟩
    have s_11 : Same G10 (upd G10 q11 (.tup [.int g0, .bl true])) := same_new h11
    have e_11 : (upd G10 q11 (.tup [.int g0, .bl true])) q11 = some (.tup [.int g0, .bl true]) := upd_same
    generalize upd G10 q11 (.tup [.int g0, .bl true]) = G11 at s_11 e_11 ⊢
    have tG11 : Same H9 G11 := tG10.trans s_11
    refine ⟨sz2, fun q12 h12 => ?_⟩
    have s_12 : Same G11 (upd G11 q12 (.tup [.int 0, .int 1])) := same_new h12
    have e_12 : (upd G11 q12 (.tup [.int 0, .int 1])) q12 = some (.tup [.int 0, .int 1]) := upd_same
    generalize upd G11 q12 (.tup [.int 0, .int 1]) = G12 at s_12 e_12 ⊢
    have tG12 : Same H9 G12 := tG11.trans s_12
    refine ⟨(show 6 ≤ sizeLine by decide), fun q13 h13 => ?_⟩
    have s_13 : Same G12 (upd G12 q13 (.lst [x, .ref q7, .ref q9, .ref q10, .ref q11, .ref q12])) := same_new h13
    have e_13 : (upd G12 q13 (.lst [x, .ref q7, .ref q9, .ref q10, .ref q11, .ref q12])) q13 = some (.lst [x, .ref q7, .ref q9, .ref q10, .ref q11, .ref q12]) := upd_same
    generalize upd G12 q13 (.lst [x, .ref q7, .ref q9, .ref q10, .ref q11, .ref q12]) = G13 at s_13 e_13 ⊢
    have tG13 : Same H9 G13 := tG12.trans s_13
    have v13 : Same G13 G13 := Same.refl _
    have v12 : Same G12 G13 := s_13.trans v13
    have v11 : Same G11 G13 := s_12.trans v12
    have v10 : Same G10 G13 := s_11.trans v11
    have v9 : Same G9 G13 := s_10.trans v10
    have v8 : Same G8 G13 := s_9.trans v9
    have v7 : Same G7 G13 := s_8.trans v8
    have v6 : Same G6 G13 := s_7.trans v7
    have v5 : Same G5 G13 := s_6.trans v6
    have v4 : Same G4 G13 := s_5.trans v5
    have v3 : Same G3 G13 := s_4.trans v4
    have v2 : Same G2 G13 := s_3.trans v3
    have v1 : Same G1 G13 := s_2.trans v2
    refine ⟨q6, q13, _, _, rfl, rfl, v6 _ _ e_6, e_13, (show 7 + 6 ≤ sizeLine by decide), fun q14 h14 => ?_⟩
    have s_14 : Same G13 (upd G13 q14 (.lst ([.ref p, .ref pg, .ref q1, .ref q2, .ref q3, .ref q4, .ref q5] ++ [x, .ref q7, .ref q9, .ref q10, .ref q11, .ref q12]))) := same_new h14
    have e_14 : (upd G13 q14 (.lst ([.ref p, .ref pg, .ref q1, .ref q2, .ref q3, .ref q4, .ref q5] ++ [x, .ref q7, .ref q9, .ref q10, .ref q11, .ref q12]))) q14 = some (.lst ([.ref p, .ref pg, .ref q1, .ref q2, .ref q3, .ref q4, .ref q5] ++ [x, .ref q7, .ref q9, .ref q10, .ref q11, .ref q12])) := upd_same
    generalize upd G13 q14 (.lst ([.ref p, .ref pg, .ref q1, .ref q2, .ref q3, .ref q4, .ref q5] ++ [x, .ref q7, .ref q9, .ref q10, .ref q11, .ref q12])) = G14 at s_14 e_14 ⊢
    have tG14 : Same H9 G14 := tG13.trans s_14
    refine ⟨.ref q14, rfl, .inl ⟨rfl, _, .inl (.inl e_14)⟩, sz1, fun q15 h15 => ?_⟩
    have s_15 : Same G14 (upd G14 q15 (.tup [.int 1])) := same_new h15
    have e_15 : (upd G14 q15 (.tup [.int 1])) q15 = some (.tup [.int 1]) := upd_same
    generalize upd G14 q15 (.tup [.int 1]) = G15 at s_15 e_15 ⊢
    have tG15 : Same H9 G15 := tG14.trans s_15
    have tl : Same H9 G15 := tG15
    have nbq : ∀ {y : Addr} {G : Hp}, Same H9 G → G y = none → y ≠ b := fun s hy z => by
      rw [z, s _ _ e9] at hy
      exact nomatch hy
    have i0 : ∀ {l' : Bool} {G : Hp}, ItAt l' b G (.int g0) := it_int (sz_le g0z (by decide))
    have i1 : ∀ {l' : Bool} {G : Hp}, ItAt l' b G (.int g1) := it_int (sz_le g1z (by decide))
    have iby : ∀ {l' : Bool} {G : Hp}, ItAt l' b G (.int (2 + d9)) := it_int (sz_le byz (by decide))
    have iz : ∀ {l' : Bool} {G : Hp}, ItAt l' b G (.int 0) := it_int (by decide)
    have all : ∀ y ∈ ([.ref p, .ref pg, .ref q1, .ref q2, .ref q3, .ref q4, .ref q5] ++ [x, .ref q7, .ref q9, .ref q10, .ref q11, .ref q12] : List V), ThAt b G13 y := by
      intro y hy
      simp only [List.mem_append, List.mem_cons, List.not_mem_nil, or_false] at hy
      rcases hy with (rfl | rfl | rfl | rfl | rfl | rfl | rfl) | (rfl | rfl | rfl | rfl | rfl | rfl)
      · exact th_tup (l := true) (tG13 _ _ ep9) (by rw [List.length_map]; omega) (it_ints fun i hi => sz_le (ssz i hi) (by decide))
      · exact th_tup (l := true) (tG13 _ _ epg9) (show 2 ≤ 40 by decide) (its2 i0 i1)
      · exact th_tup (l := true) (v1 _ _ e_1) (show 2 ≤ 40 by decide) (its2 (it_int (sz_le tz (by decide))) (it_int (sz_le bz (by decide))))
      · exact th_tup (l := true) (v2 _ _ e_2) (show 2 ≤ 40 by decide) (its2 (it_int (sz_le (sz_mul g0z byz) (by decide))) (it_int (sz_le (sz_mul g1z byz) (by decide))))
      · exact th_tup (l := true) (v3 _ _ e_3) (show 2 ≤ 40 by decide) (its2 i0 (it_int (by rw [Int.zero_sub, Int.natAbs_neg]; exact sz_le g1z (by decide))))
      · exact th_tup (l := true) (v4 _ _ e_4) (show 2 ≤ 40 by decide) (its2 iz iby)
      · exact th_tup (l := true) (v5 _ _ e_5) (show 2 ≤ 40 by decide) (its2 iby iz)
      · exact (hx9.mono tG13).th
      · exact th_lst (nbq tG6 h7) (v7 _ _ e_7) (show 2 ≤ 40 by decide) (its2 i0 i1)
      · refine th_tup (l := true) (v9 _ _ e_9) (show 3 ≤ 40 by decide) (fun z hz => ?_)
        simp only [List.cons_append, List.nil_append, List.mem_cons, List.not_mem_nil, or_false] at hz
        rcases hz with rfl | rfl | rfl
        · exact i0
        · exact i1
        · exact it_int (by decide)
      · refine th_tup (l := true) (v10 _ _ e_10) (show 1 ≤ 40 by decide) (fun z hz => ?_)
        rw [List.mem_singleton] at hz
        subst hz
        exact i0
      · exact th_tup (l := true) (v11 _ _ e_11) (show 2 ≤ 40 by decide) (its2 i0 (it_bl true))
      · exact th_tup (l := true) (v12 _ _ e_12) (show 2 ≤ 40 by decide) (its2 iz (it_int (by decide)))
    have eL3 : G15 q14 = some (.lst ([.ref p, .ref pg, .ref q1, .ref q2, .ref q3, .ref q4, .ref q5] ++ [x, .ref q7, .ref q9, .ref q10, .ref q11, .ref q12])) := s_15 _ _ e_14
    have nL3 : q14 ≠ b := nbq tG13 h14
    refine ⟨_, rfl, b, n9, 7, rfl, tl _ _ e9, by decide, by decide, fun H10 n10 d10 k10 e10 z9 z10 => ⟨1, d10, rfl, rfl, ?_⟩⟩
    have eb12 := tl _ _ e9
    refine rTimes_by (.inl (.inl (k10 _ _ (ne_of e_15 eb12 (by intro z; cases z)) e_15))) (k10 _ _ (ne_of e_15 eb12 (by intro z; cases z)) e_15) (fun z => nomatch z) (by omega) (by omega) (show 1 ≤ 1000 by decide) (fun pt G sG ept => ?_)
    rw [rep_map] at ept
    have eL4 : G q14 = some (.lst ([.ref p, .ref pg, .ref q1, .ref q2, .ref q3, .ref q4, .ref q5] ++ [x, .ref q7, .ref q9, .ref q10, .ref q11, .ref q12])) := sG _ _ (k10 _ _ nL3 eL3)
    refine ⟨q14, _, _, rfl, rfl, eL4, (show 7 + 6 < sizeLine by decide), ?_⟩
    have ebG := sG _ _ e10
    have eb13 := tG13 _ _ e9
    have kF : Kp b G13 (upd G q14 (.lst (([.ref p, .ref pg, .ref q1, .ref q2, .ref q3, .ref q4, .ref q5] ++ [x, .ref q7, .ref q9, .ref q10, .ref q11, .ref q12]) ++ [.ref pt]))) := fun y o ny e => by
      rw [upd_ne (ne_of_none e h14)]
      exact sG _ _ (k10 _ _ ny (s_15 _ _ (s_14 _ _ e)))
    have thF : ∀ y ∈ ([.ref p, .ref pg, .ref q1, .ref q2, .ref q3, .ref q4, .ref q5] ++ [x, .ref q7, .ref q9, .ref q10, .ref q11, .ref q12] : List V) ++ [.ref pt], ThAt b (upd G q14 (.lst (([.ref p, .ref pg, .ref q1, .ref q2, .ref q3, .ref q4, .ref q5] ++ [x, .ref q7, .ref q9, .ref q10, .ref q11, .ref q12]) ++ [.ref pt]))) y := fun y hy => by
      rcases List.mem_append.mp hy with hy | hy
      · exact (all y hy).kp eb13 kF
      · rw [List.mem_singleton] at hy
        subst hy
        have npt : pt ≠ q14 := ne_of ept eL4 (by intro z; cases z)
        refine th_tup (l := true) (xs := (List.replicate (1 + d10).toNat (1 : Int)).map V.int) (by rw [upd_ne npt]; exact ept) (by rw [List.length_map, List.length_replicate]; omega) (it_ints fun i hi => ?_)
        rw [List.eq_of_mem_replicate hi]
        decide
    have lenF : (([V.ref p, V.ref pg, V.ref q1, V.ref q2, V.ref q3, V.ref q4, V.ref q5] ++ [x, V.ref q7, V.ref q9, V.ref q10, V.ref q11, V.ref q12] : List V) ++ [V.ref pt]).length = 14 := rfl
    have eLF : (upd G q14 (.lst (([.ref p, .ref pg, .ref q1, .ref q2, .ref q3, .ref q4, .ref q5] ++ [x, .ref q7, .ref q9, .ref q10, .ref q11, .ref q12]) ++ [.ref pt]))) q14 = some (.lst (([.ref p, .ref pg, .ref q1, .ref q2, .ref q3, .ref q4, .ref q5] ++ [x, .ref q7, .ref q9, .ref q10, .ref q11, .ref q12]) ++ [.ref pt])) := upd_same
    have ebF : (upd G q14 (.lst (([.ref p, .ref pg, .ref q1, .ref q2, .ref q3, .ref q4, .ref q5] ++ [x, .ref q7, .ref q9, .ref q10, .ref q11, .ref q12]) ++ [.ref pt]))) b = some (.lst [.int n10]) := by rw [upd_ne nL3.symm]; exact ebG
    generalize hF : upd G q14 (.lst (([.ref p, .ref pg, .ref q1, .ref q2, .ref q3, .ref q4, .ref q5] ++ [x, .ref q7, .ref q9, .ref q10, .ref q11, .ref q12]) ++ [.ref pt])) = F at kF thF eLF ebF ⊢
    generalize (([V.ref p, V.ref pg, V.ref q1, V.ref q2, V.ref q3, V.ref q4, V.ref q5] ++ [x, V.ref q7, V.ref q9, V.ref q10, V.ref q11, V.ref q12]) ++ [V.ref pt] : List V) = xs0 at thF lenF eLF ⊢
    have k9F : Kp b H9 F := (Kp.of tG13).trans kF
    have sF : Same H F := fun y o e => k9F y o (ne_of_none e hb0) (s09 y o e)
    refine ⟨4, rfl, by decide, by decide, for_range (n := 4) (fun j σ' H' => ∃ y1 y5 y6 y7 y9 y11 y12 y13, ∃ (L : Addr) (xs : List V) (n' : Int), σ' = [some (.ref a), y1, some (.ref b), some (.ref p), some x, y5, y6, y7, some (.ref pg), y9, some (.ref L), y11, y12, y13] ∧
      H' L = some (.lst xs) ∧ xs.length = 14 + 2 * j ∧ L ≠ b ∧ (∀ y ∈ xs, ThAt b H' y) ∧ H' b = some (.lst [.int n']) ∧ ItAt l b H' x ∧ H' p = some (.tup (ss.map V.int)) ∧ H' pg = some (.tup ([g0, g1].map V.int)) ∧ Same H H') ?_ ?_ ?_⟩
    · exact ⟨_, _, _, _, _, _, _, _, q14, xs0, n10, rfl, eLF, lenF, nL3, thF, ebF, hx9.kp e9 k9F, k9F _ _ npb ep9, k9F _ _ npgb epg9, sF⟩
    · rintro j σ' Hc hj ⟨y1', y5', y6', y7', y9', y11', y12', y13', L, xs, n', rfl, eL, len, nLb, hth, ebc, hxc, epc, epgc, sc⟩
      refine ⟨_, rfl, _, rfl, _, rfl, _, rfl, b, p, n', ss, x, l, rfl, ebc, epc, l1, by omega, ssz, hxc, fun Ha ya na ka ea ha1 => ?_⟩
      refine ⟨_, rfl, _, rfl, _, rfl, b, pg, na, [g0, g1], x, l, rfl, ea, ka _ _ npgb epgc, (show 1 ≤ 2 by decide), (show 2 ≤ 5 by decide), ggz, hxc.kp ebc ka, fun Hb yb nb' kb eb' hb1 => ?_⟩
      have kab : Kp b Hc Hb := ka.trans kb
      refine ⟨sz2, fun pl hpl => ⟨L, pl, _, _, rfl, rfl, same_new hpl _ _ (kab _ _ nLb eL), upd_same, ?_, fun L' hL' => ?_⟩⟩
      · exact Nat.le_trans (show xs.length + 2 ≤ 1000 by omega) (by decide)
      have sb2 : Same Hb (upd (upd Hb pl (.lst [ya, yb])) L' (.lst (xs ++ [ya, yb]))) := (same_new hpl).trans (same_new hL')
      refine ⟨_, _, _, _, _, _, _, _, L', xs ++ [ya, yb], nb', rfl, upd_same, ?_, ?_, ?_, sb2 _ _ eb', (hxc.kp ebc kab).mono sb2, sb2 _ _ (kab _ _ npb epc), sb2 _ _ (kab _ _ npgb epgc), ?_⟩
      · rw [List.length_append, len]; show 14 + 2 * j + 2 = 14 + 2 * (j + 1); omega
      · intro z
        rw [z, same_new hpl _ _ eb'] at hL'
        exact nomatch hL'
      · intro y hy
        rcases List.mem_append.mp hy with hy | hy
        · exact ((hth y hy).kp ebc kab).mono sb2
        · simp only [List.mem_cons, List.not_mem_nil, or_false] at hy
          rcases hy with rfl | rfl
          · exact (ha1.kp ea kb).mono sb2
          · exact hb1.mono sb2
      · exact fun y o e => sb2 _ _ (kab y o (ne_of_none e hb0) (sc y o e))
    · rintro σ' Hc ⟨y1', y5', y6', y7', y9', y11', y12', y13', L, xs, n', rfl, eL, len, nLb, hth, ebc, hxc, epc, epgc, sc⟩
      refine ⟨_, rfl, L, rfl, ⟨_, .inl (.inl eL)⟩, for_list (xs := xs) (fun j σ' H' => ∃ y12 y13, σ' = [some (.ref a), y1', some (.ref b), some (.ref p), some x, y5', y6', y7', some (.ref pg), y9', some (.ref L), y11', y12, y13] ∧ Same Hc H') ⟨_, _, rfl, Same.refl _⟩ (fun j σ' H' _ h => ?_) ?_ ?_⟩
      · obtain ⟨_, _, _, s9⟩ := h
        exact .inl (.inl (s9 _ _ eL))
      · rintro j y σ' H11 hy ⟨w12, w13, rfl, s11⟩
        obtain ⟨l', d, hd, hsm⟩ := (hth y (List.mem_of_getElem? hy)).mono s11
        refine ⟨_, rfl, y, l', b, d, rfl, hd, hsm, ?_⟩
        refine ⟨_, rfl, y, rfl, hd.thing, fun H12 s12 => ⟨_, rfl, y, rfl, (hd.mono s12).thing, fun H13 s13 => ⟨_, _, rfl, true, ?_, iteF ?_⟩⟩⟩
        · rw [isShs_same hd s12, decide_eq_true rfl]
        have hd13 := hd.mono (s12.trans s13)
        refine ⟨_, rfl, y, rfl, hd13.thing, _, rfl, y, rfl, hd13.thing, _, _, rfl, true, ?_, iteF ?_⟩
        · rw [decide_eq_true rfl]
        refine ⟨_, rfl, y, l', b, d, rfl, hd13, hsm, _, rfl, rfl, _, rfl, iteNS rfl ?_⟩
        exact ⟨_, _, rfl, s11.trans (s12.trans s13)⟩
      · rintro σ' H11 ⟨w12, w13, rfl, s11⟩
        exact ⟨_, _, _, _, _, _, _, _, _, _, _, _, _, rfl, sc.trans s11⟩
  · rintro σ H1 _
    exact q _
end
end KGX

namespace KGX
open PySem PySem.Spec PyProof.Rows L2
theorem all_mk {l : PySem.W.OpenLaw} {w : World} {K : PySem.W.Frag} {h : Heap} {mg : Str → Option Value} {fa : Addr} (X : K.In h) (G : h.Ns mainGlobals mg) (hfa : mg "law" = some (.ref fa))
    {f0 : Addr} {od0 an0 : Option Addr} {sl0 : Array (Option Value)} {oc0 kV0 dc0 pm0 cd0 ct0 : Value} {f1 : Addr} {od1 an1 : Option Addr} {sl1 : Array (Option Value)} {oc1 kV1 dc1 pm1 cd1 ct1 : Value} {f2 : Addr} {od2 an2 : Option Addr} {sl2 : Array (Option Value)} {oc2 kV2 dc2 pm2 cd2 ct2 : Value} {f3 : Addr} {od3 an3 : Option Addr} {sl3 : Array (Option Value)} {oc3 kV3 dc3 pm3 cd3 ct3 : Value} {f4 : Addr} {od4 an4 : Option Addr} {sl4 : Array (Option Value)} {oc4 kV4 dc4 pm4 cd4 ct4 : Value} {f5 : Addr} {od5 an5 : Option Addr} {sl5 : Array (Option Value)} {oc5 kV5 dc5 pm5 cd5 ct5 : Value} {f6 : Addr} {od6 an6 : Option Addr} {sl6 : Array (Option Value)} {oc6 kV6 dc6 pm6 cd6 ct6 : Value} {f7 : Addr} {od7 an7 : Option Addr} {sl7 : Array (Option Value)} {oc7 kV7 dc7 pm7 cd7 ct7 : Value} {f8 : Addr} {od8 an8 : Option Addr} {sl8 : Array (Option Value)} {oc8 kV8 dc8 pm8 cd8 ct8 : Value} {f9 : Addr} {od9 an9 : Option Addr} {sl9 : Array (Option Value)} {oc9 kV9 dc9 pm9 cd9 ct9 : Value} {f10 : Addr} {od10 an10 : Option Addr} {sl10 : Array (Option Value)} {oc10 kV10 dc10 pm10 cd10 ct10 : Value} {f11 : Addr} {od11 an11 : Option Addr} {sl11 : Array (Option Value)} {oc11 kV11 dc11 pm11 cd11 ct11 : Value} {f12 : Addr} {od12 an12 : Option Addr} {sl12 : Array (Option Value)} {oc12 kV12 dc12 pm12 cd12 ct12 : Value} {f13 : Addr} {od13 an13 : Option Addr} {sl13 : Array (Option Value)} {oc13 kV13 dc13 pm13 cd13 ct13 : Value} {f14 : Addr} {od14 an14 : Option Addr} {sl14 : Array (Option Value)} {oc14 kV14 dc14 pm14 cd14 ct14 : Value} {f15 : Addr} {od15 an15 : Option Addr} {sl15 : Array (Option Value)} {oc15 kV15 dc15 pm15 cd15 ct15 : Value} {f16 : Addr} {od16 an16 : Option Addr} {sl16 : Array (Option Value)} {oc16 kV16 dc16 pm16 cd16 ct16 : Value} {f17 : Addr} {od17 an17 : Option Addr} {sl17 : Array (Option Value)} {oc17 kV17 dc17 pm17 cd17 ct17 : Value} {f18 : Addr} {od18 an18 : Option Addr} {sl18 : Array (Option Value)} {oc18 kV18 dc18 pm18 cd18 ct18 : Value} {t_MOST_KINDS : Tok} {t_MOST_SHARE : Tok}
    (a0 : PySem.W.nsIn K mainGlobals "is_whole" = some (some (.ref f0))) (l0 : K.lookup f0 = some ⟨oc0, od0, .func (PySem.W.fnOf "is_whole" "is_whole" (defArgs s_is_whole) (defBody s_is_whole) (defScope s_is_whole) .none kV0 dc0 pm0 an0 cd0 ct0), sl0⟩)
    (c0 : PySem.W.codeIn K cd0 "is_whole" = true) (k0 : PySem.W.keepIn K (.ref f0) = true)
    (a1 : PySem.W.nsIn K mainGlobals "is_whole_within" = some (some (.ref f1))) (l1 : K.lookup f1 = some ⟨oc1, od1, .func (PySem.W.fnOf "is_whole_within" "is_whole_within" (defArgs s_is_whole_within) (defBody s_is_whole_within) (defScope s_is_whole_within) .none kV1 dc1 pm1 an1 cd1 ct1), sl1⟩)
    (c1 : PySem.W.codeIn K cd1 "is_whole_within" = true) (k1 : PySem.W.keepIn K (.ref f1) = true)
    (a2 : PySem.W.nsIn K mainGlobals "greatest_divisor" = some (some (.ref f2))) (l2 : K.lookup f2 = some ⟨oc2, od2, .func (PySem.W.fnOf "greatest_divisor" "greatest_divisor" (defArgs s_greatest_divisor) (defBody s_greatest_divisor) (defScope s_greatest_divisor) .none kV2 dc2 pm2 an2 cd2 ct2), sl2⟩)
    (c2 : PySem.W.codeIn K cd2 "greatest_divisor" = true) (k2 : PySem.W.keepIn K (.ref f2) = true)
    (a3 : PySem.W.nsIn K mainGlobals "is_fraction" = some (some (.ref f3))) (l3 : K.lookup f3 = some ⟨oc3, od3, .func (PySem.W.fnOf "is_fraction" "is_fraction" (defArgs s_is_fraction) (defBody s_is_fraction) (defScope s_is_fraction) .none kV3 dc3 pm3 an3 cd3 ct3), sl3⟩)
    (c3 : PySem.W.codeIn K cd3 "is_fraction" = true) (k3 : PySem.W.keepIn K (.ref f3) = true)
    (a4 : PySem.W.nsIn K mainGlobals "is_shares" = some (some (.ref f4))) (l4 : K.lookup f4 = some ⟨oc4, od4, .func (PySem.W.fnOf "is_shares" "is_shares" (defArgs s_is_shares) (defBody s_is_shares) (defScope s_is_shares) .none kV4 dc4 pm4 an4 cd4 ct4), sl4⟩)
    (c4 : PySem.W.codeIn K cd4 "is_shares" = true) (k4 : PySem.W.keepIn K (.ref f4) = true)
    (a5 : PySem.W.nsIn K mainGlobals "_law_cell" = some (some (.ref f5))) (l5 : K.lookup f5 = some ⟨oc5, od5, .func (PySem.W.fnOf "_law_cell" "_law_cell" (defArgs s__law_cell) (defBody s__law_cell) (defScope s__law_cell) .none kV5 dc5 pm5 an5 cd5 ct5), sl5⟩)
    (c5 : PySem.W.codeIn K cd5 "_law_cell" = true) (k5 : PySem.W.keepIn K (.ref f5) = true)
    (a6 : PySem.W.nsIn K mainGlobals "_law_mix" = some (some (.ref f6))) (l6 : K.lookup f6 = some ⟨oc6, od6, .func (PySem.W.fnOf "_law_mix" "_law_mix" (defArgs s__law_mix) (defBody s__law_mix) (defScope s__law_mix) .none kV6 dc6 pm6 an6 cd6 ct6), sl6⟩)
    (c6 : PySem.W.codeIn K cd6 "_law_mix" = true) (k6 : PySem.W.keepIn K (.ref f6) = true)
    (a7 : PySem.W.nsIn K mainGlobals "_law_box" = some (some (.ref f7))) (l7 : K.lookup f7 = some ⟨oc7, od7, .func (PySem.W.fnOf "_law_box" "_law_box" (defArgs s__law_box) (defBody s__law_box) (defScope s__law_box) .none kV7 dc7 pm7 an7 cd7 ct7), sl7⟩)
    (c7 : PySem.W.codeIn K cd7 "_law_box" = true) (k7 : PySem.W.keepIn K (.ref f7) = true)
    (a8 : PySem.W.nsIn K mainGlobals "_law_take" = some (some (.ref f8))) (l8 : K.lookup f8 = some ⟨oc8, od8, .func (PySem.W.fnOf "_law_take" "_law_take" (defArgs s__law_take) (defBody s__law_take) (defScope s__law_take) .none kV8 dc8 pm8 an8 cd8 ct8), sl8⟩)
    (c8 : PySem.W.codeIn K cd8 "_law_take" = true) (k8 : PySem.W.keepIn K (.ref f8) = true)
    (a9 : PySem.W.nsIn K mainGlobals "_law_whole" = some (some (.ref f9))) (l9 : K.lookup f9 = some ⟨oc9, od9, .func (PySem.W.fnOf "_law_whole" "_law_whole" (defArgs s__law_whole) (defBody s__law_whole) (defScope s__law_whole) .none kV9 dc9 pm9 an9 cd9 ct9), sl9⟩)
    (c9 : PySem.W.codeIn K cd9 "_law_whole" = true) (k9 : PySem.W.keepIn K (.ref f9) = true)
    (a10 : PySem.W.nsIn K mainGlobals "_law_truth" = some (some (.ref f10))) (l10 : K.lookup f10 = some ⟨oc10, od10, .func (PySem.W.fnOf "_law_truth" "_law_truth" (defArgs s__law_truth) (defBody s__law_truth) (defScope s__law_truth) .none kV10 dc10 pm10 an10 cd10 ct10), sl10⟩)
    (c10 : PySem.W.codeIn K cd10 "_law_truth" = true) (k10 : PySem.W.keepIn K (.ref f10) = true)
    (a11 : PySem.W.nsIn K mainGlobals "_law_drawn_shares" = some (some (.ref f11))) (l11 : K.lookup f11 = some ⟨oc11, od11, .func (PySem.W.fnOf "_law_drawn_shares" "_law_drawn_shares" (defArgs s__law_drawn_shares) (defBody s__law_drawn_shares) (defScope s__law_drawn_shares) .none kV11 dc11 pm11 an11 cd11 ct11), sl11⟩)
    (c11 : PySem.W.codeIn K cd11 "_law_drawn_shares" = true) (k11 : PySem.W.keepIn K (.ref f11) = true)
    (a12 : PySem.W.nsIn K mainGlobals "_law_common" = some (some (.ref f12))) (l12 : K.lookup f12 = some ⟨oc12, od12, .func (PySem.W.fnOf "_law_common" "_law_common" (defArgs s__law_common) (defBody s__law_common) (defScope s__law_common) .none kV12 dc12 pm12 an12 cd12 ct12), sl12⟩)
    (c12 : PySem.W.codeIn K cd12 "_law_common" = true) (k12 : PySem.W.keepIn K (.ref f12) = true)
    (a13 : PySem.W.nsIn K mainGlobals "_law_made" = some (some (.ref f13))) (l13 : K.lookup f13 = some ⟨oc13, od13, .func (PySem.W.fnOf "_law_made" "_law_made" (defArgs s__law_made) (defBody s__law_made) (defScope s__law_made) .none kV13 dc13 pm13 an13 cd13 ct13), sl13⟩)
    (c13 : PySem.W.codeIn K cd13 "_law_made" = true) (k13 : PySem.W.keepIn K (.ref f13) = true)
    (a14 : PySem.W.nsIn K mainGlobals "_law_odd" = some (some (.ref f14))) (l14 : K.lookup f14 = some ⟨oc14, od14, .func (PySem.W.fnOf "_law_odd" "_law_odd" (defArgs s__law_odd) (defBody s__law_odd) (defScope s__law_odd) .none kV14 dc14 pm14 an14 cd14 ct14), sl14⟩)
    (c14 : PySem.W.codeIn K cd14 "_law_odd" = true) (k14 : PySem.W.keepIn K (.ref f14) = true)
    (a15 : PySem.W.nsIn K mainGlobals "_law_are_shares" = some (some (.ref f15))) (l15 : K.lookup f15 = some ⟨oc15, od15, .func (PySem.W.fnOf "_law_are_shares" "_law_are_shares" (defArgs s__law_are_shares) (defBody s__law_are_shares) (defScope s__law_are_shares) .none kV15 dc15 pm15 an15 cd15 ct15), sl15⟩)
    (c15 : PySem.W.codeIn K cd15 "_law_are_shares" = true) (k15 : PySem.W.keepIn K (.ref f15) = true)
    (a16 : PySem.W.nsIn K mainGlobals "_law_is_fraction" = some (some (.ref f16))) (l16 : K.lookup f16 = some ⟨oc16, od16, .func (PySem.W.fnOf "_law_is_fraction" "_law_is_fraction" (defArgs s__law_is_fraction) (defBody s__law_is_fraction) (defScope s__law_is_fraction) .none kV16 dc16 pm16 an16 cd16 ct16), sl16⟩)
    (c16 : PySem.W.codeIn K cd16 "_law_is_fraction" = true) (k16 : PySem.W.keepIn K (.ref f16) = true)
    (a17 : PySem.W.nsIn K mainGlobals "_law_bent" = some (some (.ref f17))) (l17 : K.lookup f17 = some ⟨oc17, od17, .func (PySem.W.fnOf "_law_bent" "_law_bent" (defArgs s__law_bent) (defBody s__law_bent) (defScope s__law_bent) .none kV17 dc17 pm17 an17 cd17 ct17), sl17⟩)
    (c17 : PySem.W.codeIn K cd17 "_law_bent" = true) (k17 : PySem.W.keepIn K (.ref f17) = true)
    (a18 : PySem.W.nsIn K mainGlobals "law" = some (some (.ref f18))) (l18 : K.lookup f18 = some ⟨oc18, od18, .func (PySem.W.fnOf "law" "law" (defArgs s_law) (defBody s_law) (defScope s_law) .none kV18 dc18 pm18 an18 cd18 ct18), sl18⟩)
    (c18 : PySem.W.codeIn K cd18 "law" = true) (k18 : PySem.W.keepIn K (.ref f18) = true)
    (z_isinstance : PySem.W.nsIn K mainGlobals "isinstance" = some none)
    (z_int : PySem.W.nsIn K mainGlobals "int" = some none)
    (z_bool : PySem.W.nsIn K mainGlobals "bool" = some none)
    (z_abs : PySem.W.nsIn K mainGlobals "abs" = some none)
    (z_tuple : PySem.W.nsIn K mainGlobals "tuple" = some none)
    (z_len : PySem.W.nsIn K mainGlobals "len" = some none)
    (z_all : PySem.W.nsIn K mainGlobals "all" = some none)
    (z_range : PySem.W.nsIn K mainGlobals "range" = some none)
    (z_divmod : PySem.W.nsIn K mainGlobals "divmod" = some none)
    (z_str : PySem.W.nsIn K mainGlobals "str" = some none)
    (z_list : PySem.W.nsIn K mainGlobals "list" = some none)
    (z_max : PySem.W.nsIn K mainGlobals "max" = some none)
    (z_min : PySem.W.nsIn K mainGlobals "min" = some none)
    (z_repr : PySem.W.nsIn K mainGlobals "repr" = some none)
    (y_MOST_KINDS : PySem.W.nsIn K mainGlobals "MOST_KINDS" = some (some (.int 5 t_MOST_KINDS)))
    (y_MOST_SHARE : PySem.W.nsIn K mainGlobals "MOST_SHARE" = some (some (.int 9 t_MOST_SHARE))) :
    ∃ fd : FuncData, (∀ (s : Shared) (v : Value), BindsTo s fd ⟨[v], []⟩ [("_law_script", v)]) ∧ ∀ base : Heap, K.In base → base.Ns mainGlobals mg → KG.FnG l.prog w K mg base 4 fa fd ["_law_script"] (sp_law K) := by
  have T : ∃ T : Tx K mg, T.a_law = f18 ∧ T.d_law = PySem.W.fnOf "law" "law" (defArgs s_law) (defBody s_law) (defScope s_law) .none kV18 dc18 pm18 an18 cd18 ct18 := ⟨{
    a_is_whole := f0, d_is_whole := _, F_is_whole := fun_mk (st := s_is_whole) l0 c0 k0, g_is_whole := PySem.W.mg_of X G a0, b_is_whole := (fun_mk (st := s_is_whole) l0 c0 k0).binds (ps := ["thing"]) fun _ _ _ _ _ _ us hl => match us, hl with | [_], _ => rfl,
    a_is_whole_within := f1, d_is_whole_within := _, F_is_whole_within := fun_mk (st := s_is_whole_within) l1 c1 k1, g_is_whole_within := PySem.W.mg_of X G a1, b_is_whole_within := (fun_mk (st := s_is_whole_within) l1 c1 k1).binds (ps := ["thing", "least", "most"]) fun _ _ _ _ _ _ us hl => match us, hl with | [_, _, _], _ => rfl,
    a_greatest_divisor := f2, d_greatest_divisor := _, F_greatest_divisor := fun_mk (st := s_greatest_divisor) l2 c2 k2, g_greatest_divisor := PySem.W.mg_of X G a2, b_greatest_divisor := (fun_mk (st := s_greatest_divisor) l2 c2 k2).binds (ps := ["top", "bottom"]) fun _ _ _ _ _ _ us hl => match us, hl with | [_, _], _ => rfl,
    a_is_fraction := f3, d_is_fraction := _, F_is_fraction := fun_mk (st := s_is_fraction) l3 c3 k3, g_is_fraction := PySem.W.mg_of X G a3, b_is_fraction := (fun_mk (st := s_is_fraction) l3 c3 k3).binds (ps := ["thing"]) fun _ _ _ _ _ _ us hl => match us, hl with | [_], _ => rfl,
    a_is_shares := f4, d_is_shares := _, F_is_shares := fun_mk (st := s_is_shares) l4 c4 k4, g_is_shares := PySem.W.mg_of X G a4, b_is_shares := (fun_mk (st := s_is_shares) l4 c4 k4).binds (ps := ["thing"]) fun _ _ _ _ _ _ us hl => match us, hl with | [_], _ => rfl,
    a__law_cell := f5, d__law_cell := _, F__law_cell := fun_mk (st := s__law_cell) l5 c5 k5, g__law_cell := PySem.W.mg_of X G a5, b__law_cell := (fun_mk (st := s__law_cell) l5 c5 k5).binds (ps := ["_law_script", "_law_k"]) fun _ _ _ _ _ _ us hl => match us, hl with | [_, _], _ => rfl,
    a__law_mix := f6, d__law_mix := _, F__law_mix := fun_mk (st := s__law_mix) l6 c6 k6, g__law_mix := PySem.W.mg_of X G a6, b__law_mix := (fun_mk (st := s__law_mix) l6 c6 k6).binds (ps := ["_law_cell_here", "_law_k"]) fun _ _ _ _ _ _ us hl => match us, hl with | [_, _], _ => rfl,
    a__law_box := f7, d__law_box := _, F__law_box := fun_mk (st := s__law_box) l7 c7 k7, g__law_box := PySem.W.mg_of X G a7, b__law_box := (fun_mk (st := s__law_box) l7 c7 k7).binds (ps := ["_law_script", "_law_k"]) fun _ _ _ _ _ _ us hl => match us, hl with | [_, _], _ => rfl,
    a__law_take := f8, d__law_take := _, F__law_take := fun_mk (st := s__law_take) l8 c8 k8, g__law_take := PySem.W.mg_of X G a8, b__law_take := (fun_mk (st := s__law_take) l8 c8 k8).binds (ps := ["_law_box_here", "_law_many"]) fun _ _ _ _ _ _ us hl => match us, hl with | [_, _], _ => rfl,
    a__law_whole := f9, d__law_whole := _, F__law_whole := fun_mk (st := s__law_whole) l9 c9 k9, g__law_whole := PySem.W.mg_of X G a9, b__law_whole := (fun_mk (st := s__law_whole) l9 c9 k9).binds (ps := ["_law_thing"]) fun _ _ _ _ _ _ us hl => match us, hl with | [_], _ => rfl,
    a__law_truth := f10, d__law_truth := _, F__law_truth := fun_mk (st := s__law_truth) l10 c10 k10, g__law_truth := PySem.W.mg_of X G a10, b__law_truth := (fun_mk (st := s__law_truth) l10 c10 k10).binds (ps := ["_law_found", "_law_due"]) fun _ _ _ _ _ _ us hl => match us, hl with | [_, _], _ => rfl,
    a__law_drawn_shares := f11, d__law_drawn_shares := _, F__law_drawn_shares := fun_mk (st := s__law_drawn_shares) l11 c11 k11, g__law_drawn_shares := PySem.W.mg_of X G a11, b__law_drawn_shares := (fun_mk (st := s__law_drawn_shares) l11 c11 k11).binds (ps := ["_law_box_here", "_law_most", "_law_top"]) fun _ _ _ _ _ _ us hl => match us, hl with | [_, _, _], _ => rfl,
    a__law_common := f12, d__law_common := _, F__law_common := fun_mk (st := s__law_common) l12 c12 k12, g__law_common := PySem.W.mg_of X G a12, b__law_common := (fun_mk (st := s__law_common) l12 c12 k12).binds (ps := ["_law_one", "_law_other"]) fun _ _ _ _ _ _ us hl => match us, hl with | [_, _], _ => rfl,
    a__law_made := f13, d__law_made := _, F__law_made := fun_mk (st := s__law_made) l13 c13 k13, g__law_made := PySem.W.mg_of X G a13, b__law_made := (fun_mk (st := s__law_made) l13 c13 k13).binds (ps := ["_law_top", "_law_bottom"]) fun _ _ _ _ _ _ us hl => match us, hl with | [_, _], _ => rfl,
    a__law_odd := f14, d__law_odd := _, F__law_odd := fun_mk (st := s__law_odd) l14 c14 k14, g__law_odd := PySem.W.mg_of X G a14, b__law_odd := (fun_mk (st := s__law_odd) l14 c14 k14).binds (ps := ["_law_box_here"]) fun _ _ _ _ _ _ us hl => match us, hl with | [_], _ => rfl,
    a__law_are_shares := f15, d__law_are_shares := _, F__law_are_shares := fun_mk (st := s__law_are_shares) l15 c15 k15, g__law_are_shares := PySem.W.mg_of X G a15, b__law_are_shares := (fun_mk (st := s__law_are_shares) l15 c15 k15).binds (ps := ["_law_thing"]) fun _ _ _ _ _ _ us hl => match us, hl with | [_], _ => rfl,
    a__law_is_fraction := f16, d__law_is_fraction := _, F__law_is_fraction := fun_mk (st := s__law_is_fraction) l16 c16 k16, g__law_is_fraction := PySem.W.mg_of X G a16, b__law_is_fraction := (fun_mk (st := s__law_is_fraction) l16 c16 k16).binds (ps := ["_law_thing"]) fun _ _ _ _ _ _ us hl => match us, hl with | [_], _ => rfl,
    a__law_bent := f17, d__law_bent := _, F__law_bent := fun_mk (st := s__law_bent) l17 c17 k17, g__law_bent := PySem.W.mg_of X G a17, b__law_bent := (fun_mk (st := s__law_bent) l17 c17 k17).binds (ps := ["_law_box_here", "_law_row", "_law_odd_here"]) fun _ _ _ _ _ _ us hl => match us, hl with | [_, _, _], _ => rfl,
    a_law := f18, d_law := _, F_law := fun_mk (st := s_law) l18 c18 k18, g_law := PySem.W.mg_of X G a18, b_law := (fun_mk (st := s_law) l18 c18 k18).binds (ps := ["_law_script"]) fun _ _ _ _ _ _ us hl => match us, hl with | [_], _ => rfl,
    m_isinstance := PySem.W.mg_none_of X G z_isinstance,
    m_int := PySem.W.mg_none_of X G z_int,
    m_bool := PySem.W.mg_none_of X G z_bool,
    m_abs := PySem.W.mg_none_of X G z_abs,
    m_tuple := PySem.W.mg_none_of X G z_tuple,
    m_len := PySem.W.mg_none_of X G z_len,
    m_all := PySem.W.mg_none_of X G z_all,
    m_range := PySem.W.mg_none_of X G z_range,
    m_divmod := PySem.W.mg_none_of X G z_divmod,
    m_str := PySem.W.mg_none_of X G z_str,
    m_list := PySem.W.mg_none_of X G z_list,
    m_max := PySem.W.mg_none_of X G z_max,
    m_min := PySem.W.mg_none_of X G z_min,
    m_repr := PySem.W.mg_none_of X G z_repr,
    t_MOST_KINDS := t_MOST_KINDS, c_MOST_KINDS := PySem.W.mg_of X G y_MOST_KINDS,
    t_MOST_SHARE := t_MOST_SHARE, c_MOST_SHARE := PySem.W.mg_of X G y_MOST_SHARE }, rfl, rfl⟩
  obtain ⟨T, e1, e2⟩ := T
  have e := hfa.symm.trans (PySem.W.mg_of X G a18)
  cases e
  have ok : ∀ base : Heap, KG.FnG l.prog w K mg base 4 T.a_law T.d_law ["_law_script"] (sp_law K) := fun base => ok_law T
  rw [e1, e2] at ok
  exact ⟨_, fun s v => .of_eq rfl, fun base _ _ => ok base⟩
end KGX
open PySem PySem.W PyProof.Rows
set_option maxRecDepth 100000 in
set_option maxHeartbeats 0 in
theorem PySem.Challenge.cw_kindsgathered_k01_shares_and_fractions_k_holds : PySem.Challenge.rw_kindsgathered_k01_shares_and_fractions_k.Holds := by
  w_on; o_law; k_head; (case hw => w_witness2)
  k_fill
  refine KG.walkG (l := PySem.Challenge.rw_kindsgathered_k01_shares_and_fractions_k) (n := 63) (k := 4) (x := "_law_script") (sp := KGX.sp_law) rfl (by decide) rfl ⟨rfl, by decide, by decide⟩ (fun w h Y => PySem.W.kIn_of Y) ?F KGX.start_law
  case F =>
    intro w mg fa h KX G hmg
    refine' KGX.all_mk KX G hmg ?a0 ?l0 ?c0 ?k0 ?a1 ?l1 ?c1 ?k1 ?a2 ?l2 ?c2 ?k2 ?a3 ?l3 ?c3 ?k3 ?a4 ?l4 ?c4 ?k4 ?a5 ?l5 ?c5 ?k5 ?a6 ?l6 ?c6 ?k6 ?a7 ?l7 ?c7 ?k7 ?a8 ?l8 ?c8 ?k8 ?a9 ?l9 ?c9 ?k9 ?a10 ?l10 ?c10 ?k10 ?a11 ?l11 ?c11 ?k11 ?a12 ?l12 ?c12 ?k12 ?a13 ?l13 ?c13 ?k13 ?a14 ?l14 ?c14 ?k14 ?a15 ?l15 ?c15 ?k15 ?a16 ?l16 ?c16 ?k16 ?a17 ?l17 ?c17 ?k17 ?a18 ?l18 ?c18 ?k18 ?z_isinstance ?z_int ?z_bool ?z_abs ?z_tuple ?z_len ?z_all ?z_range ?z_divmod ?z_str ?z_list ?z_max ?z_min ?z_repr ?y_MOST_KINDS ?y_MOST_SHARE
    (case a0 => k_is)
    (case l0 => k_is)
    (case c0 => k_is)
    (case k0 => k_is)
    (case a1 => k_is)
    (case l1 => k_is)
    (case c1 => k_is)
    (case k1 => k_is)
    (case a2 => k_is)
    (case l2 => k_is)
    (case c2 => k_is)
    (case k2 => k_is)
    (case a3 => k_is)
    (case l3 => k_is)
    (case c3 => k_is)
    (case k3 => k_is)
    (case a4 => k_is)
    (case l4 => k_is)
    (case c4 => k_is)
    (case k4 => k_is)
    (case a5 => k_is)
    (case l5 => k_is)
    (case c5 => k_is)
    (case k5 => k_is)
    (case a6 => k_is)
    (case l6 => k_is)
    (case c6 => k_is)
    (case k6 => k_is)
    (case a7 => k_is)
    (case l7 => k_is)
    (case c7 => k_is)
    (case k7 => k_is)
    (case a8 => k_is)
    (case l8 => k_is)
    (case c8 => k_is)
    (case k8 => k_is)
    (case a9 => k_is)
    (case l9 => k_is)
    (case c9 => k_is)
    (case k9 => k_is)
    (case a10 => k_is)
    (case l10 => k_is)
    (case c10 => k_is)
    (case k10 => k_is)
    (case a11 => k_is)
    (case l11 => k_is)
    (case c11 => k_is)
    (case k11 => k_is)
    (case a12 => k_is)
    (case l12 => k_is)
    (case c12 => k_is)
    (case k12 => k_is)
    (case a13 => k_is)
    (case l13 => k_is)
    (case c13 => k_is)
    (case k13 => k_is)
    (case a14 => k_is)
    (case l14 => k_is)
    (case c14 => k_is)
    (case k14 => k_is)
    (case a15 => k_is)
    (case l15 => k_is)
    (case c15 => k_is)
    (case k15 => k_is)
    (case a16 => k_is)
    (case l16 => k_is)
    (case c16 => k_is)
    (case k16 => k_is)
    (case a17 => k_is)
    (case l17 => k_is)
    (case c17 => k_is)
    (case k17 => k_is)
    (case a18 => k_is)
    (case l18 => k_is)
    (case c18 => k_is)
    (case k18 => k_is)
    (case z_isinstance => k_is)
    (case z_int => k_is)
    (case z_bool => k_is)
    (case z_abs => k_is)
    (case z_tuple => k_is)
    (case z_len => k_is)
    (case z_all => k_is)
    (case z_range => k_is)
    (case z_divmod => k_is)
    (case z_str => k_is)
    (case z_list => k_is)
    (case z_max => k_is)
    (case z_min => k_is)
    (case z_repr => k_is)
    (case y_MOST_KINDS => k_is)
    (case y_MOST_SHARE => k_is)
