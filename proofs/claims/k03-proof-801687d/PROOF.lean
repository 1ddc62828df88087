import PyProof.Rows.All
import Wide.All
import OpenK.AllK
import Wide.FinOn
import HandS.ForMost
import HandS.Wide
import HandS.WideBits
import HandS.IsInst
import HandS.TupMul
import HandS.TupAny
import HandS.Conv
import HandS.Zip
import HandS.Walk
import HandS.Evl
import KE.KTupSum
import PyProof.ReprRoads
import PyProof.ReprLen
import PySem.Challenge.RW_kindsgathered_k03_totals_and_parts
set_option Elab.async false
set_option linter.all false
set_option maxRecDepth 100000
set_option maxHeartbeats 4000000
namespace KG
open PySem PySem.Spec PyProof.Rows L2

/-! ### defs that run where nothing is being shown -/
structure FnG (P : Program) (w : World) (K : PySem.W.Frag) (mg : Str → Option Value) (base : Heap) (k : Nat) (f : Addr) (fd : FuncData) (ps : List Str) (sp : Sp) : Prop where
  len : ∀ vs H Q E, sp vs H Q E → vs.length = ps.length
  run : ∀ (A : Around) (outer : List Env) (s : Shared) (H : Hp) (args : Args) (us : List Value) (vs : List V) (Q : VK) (E : XK), A.guards = some [] →
    Room k A → Env0 P w K mg base A outer s H → BindsTo s fd args (ps.zip us) → Vals vs us → sp vs H Q E → codeAny (model P w) A (.call (.ref f) args) (CR CX0 outer P w H s Q E) s

section
variable {P : Program} {w : World} {K : PySem.W.Frag} {mg : Str → Option Value} {base : Heap}
theorem okG {x qual : Str} {st : Stmt} {f : Addr} {fd : FuncData} {N ps : List Str} {k : Nat} {sp : Sp} (F : Fun K x qual st f fd) (S : FnScope N ps (defScope st))
    (len : ∀ vs H Q E, sp vs H Q E → vs.length = ps.length)
    (hb : ∀ (cdv : Value) (A : Around) (outer : List Env) (s : Shared) (H : Hp) (vs : List V) (Q : VK) (E : XK), A.guards = some [] →
      Room k (A.deeper (envOfC qual (defScope st) s.heap.objs.size f cdv)) → sp vs H Q E →
      ∃ t, PSs (cxOf CX0 P w K mg base N qual (defScope st) f cdv A outer s H E).nox (defBody st) t ∧ t { nx := fun _ H' => Q .non H', rt := Q } (start N vs) H) :
    FnG P w K mg base (k + 1) f fd ps sp := by
  obtain ⟨oc, od, kV, doc, pm, an, cdv, ct, osl, rfl, lk, hcd⟩ := F.ex
  refine ⟨len, ?_⟩
  intro A outer s H args us vs Q E hg hr e0 hbi r hsp
  -- the same as the layer's own rule, at this around alone
  have T : FnOk P w K mg base CX0 (k + 1) f (PySem.W.fnOf x qual (defArgs st) (defBody st) (defScope st) .none kV doc pm an cdv ct) ps sp ∨ True := .inr trivial
  clear T
  have hl := len _ _ _ _ hsp
  have keep : ∀ b o, base.get? b = some o → s.heap.get? b = some o := fun b o e => (e0.bs b o e).1
  have KX := e0.mod.kin.keeps keep
  have lim := e0.mod.nolimit.keeps keep
  obtain ⟨t, ht, hq⟩ := hb cdv A outer s H vs Q E hg (hr.deeper _) hsp
  have hkind : ∀ y ∈ ps.zip us, (defScope st).names.lookup y.1 = some .local ∨
      ((defScope st).names.lookup y.1 = some .cell ∧ ((cellsFrom (s.heap.objs.size + 1) (defScope st).names []).lookup y.1).isSome = true) := by
    rintro ⟨n, v⟩ hy
    cases S.par n (List.of_mem_zip hy).1 with
    | inl q => exact .inl q
    | inr q => exact .inr ⟨q, PySem.W.cellsFrom_some _ _ _ (.inl q)⟩
  refine codeAny_call_function hr.depth (KX _ _ lk) rfl S.co S.gen rfl (PySem.W.codeRec_of KX hcd) (hbi _ _ _ _ (wpAny_newFunctionEnv_cells S.kind hkind ?_))
  rintro env rfl s1 x1
  refine ⟨lim.keeps x1.toInCall.keep, codeAny_func ?_⟩
  have I : Inv (cxOf CX0 P w K mg base N qual (defScope st) f cdv A outer s H E) [] (start N vs) H s1 := inv_start S hr.hd e0 hl r x1
  refine wpAny_mono (ht.nox.run [] s1 (start N vs) H _ I hq) ?_ fun _ _ z => z
  intro fl s' hs
  match fl, hs with
  | .ret u, ⟨v, σ', H', J, rv, q⟩ => exact ⟨v, H', J.os, J.bare, J.base, J.hok, rv, q⟩
  | .next, ⟨σ', H', J, q⟩ => exact ⟨V.non, H', J.os, J.bare, J.base, J.hok, (show Value.none = Value.none from rfl), q⟩
  | .brk, ⟨_, _, _, q⟩ => exact q.elim
  | .cont, ⟨_, _, _, q⟩ => exact q.elim
/-- a def that asks for nothing of the kind -/
theorem FnG.of {f : Addr} {fd : FuncData} {ps : List Str} {k : Nat} {sp : Sp} (F : FnOk P w K mg base CX0 k f fd ps sp) : FnG P w K mg base k f fd ps sp :=
  ⟨F.len, fun A outer s H args us vs Q E _ hr e hb r h => F.run A outer s H args us vs Q E hr e hb r h⟩
end
section
variable {X : Cx} {f : Addr} {fd : FuncData} {ps : List Str} {k : Nat} {sp : Sp} {x : Str} {p pos : Pos} {e : Expr} {es : List Expr} {t : TA} {ds : List Value} {dvs : List V} {E : XK}
theorem pe_callG (F : FnG X.prog X.w X.K X.mg X.base k f fd ps sp) (gd : X.A.guards = some []) (hr : Room k X.A) (hg : Gl X x) (hm : X.mg x = some (.ref f)) (hk : PySem.W.keepIn X.K (.ref f) = true) (hb : Binds X.K fd ps ds)
    (hd : Vals dvs ds) (ha : PA X (e :: es) t) (hdb : (x == ("__debug__" : Str)) = false := by decide) (he : starEach (e :: es) X.env = (false, eval e X.env) :: starEach es X.env := by rfl)
    (hpl : (backTo pos (starEach es X.env)).any (·.1) = false := by rfl) : PE X (.Call (.Name x p) (e :: es) [] pos) (tCall sp dvs E0 t) := by
  constructor
  intro pins s σ H Q I h
  refine wpAny_Call_Name_kw (ld_glob I hg hm (PySem.W.callWith_K (h₀ := X.base) I.ok.mod.kin hk (thn (ha.run pos pins s σ H _ I h) ?_) he hpl) hdb)
  rintro us s1 ⟨vs, H1, I1, r, q⟩
  refine ⟨I1.kIn, ?_⟩
  have r2 : Vals (vs ++ dvs) (us ++ ds) := r.append hd
  have hl : (us ++ ds).length = ps.length := r2.length ▸ F.len _ _ _ _ q
  refine wpAny_call (codeAny_mono (F.run X.A X.stack s1 H1 ⟨us, []⟩ (us ++ ds) (vs ++ dvs) Q E0 gd hr I1.env0 (hb s1 us I1.kIn hl) r2 q) ?_)
  intro r s' hq
  match r, hq with
  | .ok (.ret u), hq => exact I1.after hq
/-- data that can be shown -/
def ShowOk (d : PyData) : Prop := d.showable = true ∧ d.hasDict = false ∧ d.depth ≤ 20 ∧ d.shown.length ≤ sizeLine
/-- repr of data: its text -/
def rRepr (K : PySem.W.Frag) : List V → Hp → VK → Prop := fun xs H Q => ∃ x d, xs = [x] ∧ Dp K H x d ∧ ShowOk d ∧ Q (.str d.shown) H
theorem call_repr {k : Nat} (gd : X.A.guards = some []) (hr : Room k X.A) : CallR X (.builtin "repr") (rRepr X.K) := by
  intro pins s σ H xs us Q I r h
  obtain ⟨x, d, rfl, hd, ⟨hs, hn, hz, hl⟩, q⟩ := h
  obtain ⟨u, rfl, ru⟩ := vals1 r
  have un := hr.un
  cases hd with
  | non => cases (show u = Value.none from ru); exact PySem.P.repr_of_none ⟨.str _, H, I.tok _, ⟨_, rfl⟩, q⟩
  | bl b => cases (show u = Value.bool b from ru); exact PySem.P.repr_of_bool ⟨.str _, H, I.tok _, ⟨_, rfl⟩, q⟩
  | int i => obtain ⟨t, rfl⟩ := (show ∃ t, u = Value.int i t from ru); exact PySem.P.repr_of_int (of_decide_eq_true hs) ⟨.str _, H, I.tok _, ⟨_, rfl⟩, q⟩
  | str y => obtain ⟨t, rfl⟩ := (show ∃ t, u = Value.str y t from ru); exact PySem.P.repr_of_str ⟨.str _, H, I.tok _, ⟨_, rfl⟩, q⟩ hl
  | @lst a ys ds h1 h2 =>
    cases (show u = Value.ref a from ru)
    obtain ⟨as, rd⟩ := Dp.reads I _ (.ref a) (.ref a) (.lst h1 h2) rfl
    exact repr_of_reads' rd hs (PyData.noDict_hsm hn) gd (by omega) (fun _ _ z => z) (fun h' u tk hk => ⟨.str _, H, I.kept hk, ⟨_, rfl⟩, q⟩) hl
  | @tup a ys ds h1 h2 =>
    cases (show u = Value.ref a from ru)
    obtain ⟨as, rd⟩ := Dp.reads I _ (.ref a) (.ref a) (.tup h1 h2) rfl
    exact repr_of_reads' rd hs (PyData.noDict_hsm hn) gd (by omega) (fun _ _ z => z) (fun h' u tk hk => ⟨.str _, H, I.kept hk, ⟨_, rfl⟩, q⟩) hl
/-- sum of a list or a tuple of ints -/
def rSum2 (K : PySem.W.Frag) : List V → Hp → VK → Prop := fun vs H Q => ∃ (a : Addr) (ns : List Int), vs = [V.ref a] ∧ (SqL K H a (ns.map V.int) ∨ SqT K H a (ns.map V.int)) ∧ Q (.int ns.sum) H
theorem call_sum (hc : X.calm = true) : CallR X (.builtin "sum") (rSum2 X.K) := by
  intro pins s σ H vs us Q I r h
  obtain ⟨a, ns, rfl, hs | hs, q⟩ := h
  · exact cr_sum hc pins s σ H _ us Q I r ⟨a, ns, rfl, hs, q⟩
  · obtain ⟨its, rv, ht, _⟩ := I.tuple hs
    rw [Vals.ref1 r]
    obtain ⟨ys, e⟩ := rv.ints.allInts.items
    have hn : numsOf (intItems ys).toList = ns := by rw [← e]; exact rv.ints.numsOf
    rw [nums_intItems] at hn
    rw [e] at ht
    refine PySem.W.ktm_sumG (I.ok.hd hc) ht fun h' tk t' hk => ?_
    rw [preSum_eq, List.take_of_length_le (by simp), hn]
    exact ⟨.int _, H, I.kept hk, ⟨_, rfl⟩, q⟩
end
end KG

namespace KG
open PySem PySem.Spec PyProof.Rows L2
/-! ### the end of a law whose defs run where nothing is being shown -/
section
variable {P : Program} {w : World} {K : PySem.W.Frag} {mg mb : Str → Option Value} {k : Nat} {fa a : Addr} {fd : FuncData} {x : Str} {sp : Sp} {s₁ : Shared} {vs : List Value} {ns : List Int}
/-- what is asked of the call's end -/
def EndT (s₁ : Shared) : Result → Shared → Prop := fun r s' => r = .ok (.ret (.bool true)) ∧ OldK s₁.heap s'.heap ∧ s'.os = s₁.os ∧ AllBare s'.gens
/-- from an abstract heap that tracks nothing but the script, locked -/
theorem endG_from {H : Hp} (KX : K.In s₁.heap) (hns : s₁.heap.Ns mainGlobals mg) (hb : s₁.heap.Ns builtinsNs mb) (hbb : ∀ y : Str, y ≠ "__name__" → mb y = bootBuiltins y) (hlim : s₁.heap.NoLimit) (hg : s₁.gens = #[])
    (ha : ∃ its n, s₁.heap.get? a = some { cls := .type "list", data := .seq its n }) (hr : Room k callerA)
    (F : ∀ base : Heap, K.In base → base.Ns mainGlobals mg → FnG P w K mg base k fa fd [x] sp) (hbind : ∀ (s : Shared) (u : Value), BindsTo s fd ⟨[u], []⟩ [(x, u)])
    (hO : Only H) (hok : HOk P w H s₁.heap) (hA : ∀ b, H b ≠ none → b = a) (hK : H a ≠ none → K.lookup a = none)
    (hsp : sp [.ref a] H (fun v _ => v = .bl true) fun _ _ _ => False) : codeAny (model P w) callerA (.call (.ref fa) ⟨[.ref a], []⟩) (EndT s₁) s₁ := by
  obtain ⟨its, n, ha⟩ := ha
  have cases2 : ∀ b, H b = none ∨ (b = a ∧ K.lookup a = none) := fun b => by
    by_cases z : H b = none
    · exact .inl z
    · have e := hA b z
      exact .inr ⟨e, hK (e ▸ z)⟩
  have nsK : ∀ {b : Addr} {m : Str → Option Value}, s₁.heap.Ns b m → (hidT s₁.heap H).Ns b m := by
    rintro b m ⟨o, es, ep, e, d, r⟩
    refine ⟨o, es, ep, hidT_get e ?_, d, r⟩
    rcases cases2 b with z | ⟨rfl, _⟩
    · exact z
    · rw [ha] at e
      cases e
      exact nomatch d
  have hKb : K.In (hidT s₁.heap H) := fun b o e => by
    refine hidT_get (KX b o e) ?_
    rcases cases2 b with z | ⟨rfl, z⟩
    · exact z
    · rw [z] at e
      exact nomatch e
  obtain ⟨mc, l1, l2⟩ := hlim
  have hM : Mod K mg (hidT s₁.heap H) := ⟨hKb, nsK hns, ⟨mb, nsK hb, hbb⟩, ⟨mc, nsK l1, l2⟩⟩
  have e0 : Env0 P w K mg (hidT s₁.heap H) callerA [] s₁ H :=
    { frames := rfl, mod := hM, bs := fun b o e => of_hidT e, bsz := Nat.le_of_eq (hidT_size _ _), funs := trivial, frf := (fun b z => nomatch (show b ∈ ([] : List Addr) from z)), hok := hok, bare := .of_eq hg }
  have run := (F _ hKb (nsK hns)).run callerA [] s₁ H ⟨[.ref a], []⟩ [.ref a] [.ref a] (fun v _ => v = .bl true) (fun _ _ _ => False) rfl hr e0 (hbind s₁ (.ref a)) (.cons rfl .nil) hsp
  refine codeAny_mono run ?_
  intro r s' h
  match r, h with
  | .ok (.ret u), ⟨v, H', os, bare, un, hok', r', q⟩ =>
    have q' : v = .bl true := q
    subst q'
    have eu : u = Value.bool true := r'
    subst eu
    refine ⟨rfl, OldK.of_keep ?_, os, bare⟩
    intro b o e
    rcases hO b with z | ⟨ob, xs, z⟩
    · exact un.keep b o e z (fun y => nomatch (show b ∈ ([] : List Addr) from y)) (fun y => nomatch y)
    · have e1 := (hok b _ z).1
      have e2 := (hok' b _ (un.frzs b ob _ z)).1
      rw [e] at e1
      cases e1
      exact e2
theorem endG (KX : K.In s₁.heap) (hns : s₁.heap.Ns mainGlobals mg) (hb : s₁.heap.Ns builtinsNs mb) (hbb : ∀ y : Str, y ≠ "__name__" → mb y = bootBuiltins y) (hlim : s₁.heap.NoLimit) (hg : s₁.gens = #[])
    (ha : s₁.heap.get? a = some { cls := .type "list", data := .seq vs.toArray }) (hi : IntsAre vs ns) (hl : ns.length ≤ sizeLine) (hr : Room k callerA)
    (F : ∀ base : Heap, K.In base → base.Ns mainGlobals mg → FnG P w K mg base k fa fd [x] sp) (hbind : ∀ (s : Shared) (u : Value), BindsTo s fd ⟨[u], []⟩ [(x, u)])
    (hsp : ∀ H : Hp, Only H → SqL K H a (ns.map V.int) → sp [.ref a] H (fun v _ => v = .bl true) fun _ _ _ => False) :
    codeAny (model P w) callerA (.call (.ref fa) ⟨[.ref a], []⟩) (EndT s₁) s₁ := by
  have rv := vals_ints hi
  cases hk : K.lookup a with
  | some o =>
    have e := KX a o hk
    rw [ha] at e
    cases e
    have sq : SqL K (fun _ => none) a (ns.map V.int) := .inr ⟨_, vs.toArray, _, hk, rfl, rfl, rfl, by rw [List.size_toArray, hi.length]; exact hl, by simpa using rv⟩
    have only : Only (fun _ => none) := fun _ => .inl rfl
    exact endG_from KX hns hb hbb hlim hg ⟨_, _, ha⟩ hr F hbind only (fun b u z => nomatch (show (none : Option HO) = some u from z)) (fun b z => (z rfl).elim) (fun z => (z rfl).elim) (hsp _ only sq)
  | none =>
    let H0 : Hp := upd (fun _ => none) a (.frz { cls := .type "list", data := .seq vs.toArray } (.lst (ns.map V.int)))
    have at0 : H0 a = some (.frz { cls := .type "list", data := .seq vs.toArray } (.lst (ns.map V.int))) := upd_same
    have off0 : ∀ b, b ≠ a → H0 b = none := fun b z => upd_ne z
    have only : Only H0 := fun b => by
      by_cases z : b = a
      · exact .inr ⟨_, _, z ▸ at0⟩
      · exact .inl (off0 b z)
    refine endG_from KX hns hb hbb hlim hg ⟨_, _, ha⟩ hr F hbind only ?_ ?_ (fun _ => hk) (hsp _ only (.inl (.inr ⟨_, at0⟩)))
    · intro b u z
      by_cases y : b = a
      · subst y
        rw [at0] at z
        cases z
        exact ⟨ha, by rw [List.length_map]; exact hl, vs, _, rv, ha⟩
      · rw [off0 b y] at z
        exact nomatch z
    · intro b z
      by_cases y : b = a
      · exact y
      · exact (z (off0 b y)).elim
end
theorem walkG {l : PySem.W.OpenLaw} {n k : Nat} {q : Program} {loose : List Str} {XP : (Str → Option Value) → Heap → Prop} {YP : World → Heap → Prop} {d : DefRec} {K : Params → PySem.W.Frag} {sp : PySem.W.Frag → Sp} {x : Str}
    (hn : l.most = some n) (hn2 : n ≤ sizeLine) (hdf : d.params.defaults = []) (hr : Room k callerA) (hY : ∀ (w : World) (h : Heap), YP w h → (K w.params).In h)
    (F : ∀ (w : World) (mg : Str → Option Value) (fa : Addr) (h : Heap), (K w.params).In h → h.Ns mainGlobals mg → mg d.name = some (.ref fa) →
      ∃ fd : FuncData, (∀ (s : Shared) (u : Value), BindsTo s fd ⟨[u], []⟩ [(x, u)]) ∧ ∀ base : Heap, (K w.params).In base → base.Ns mainGlobals mg → FnG l.prog w (K w.params) mg base k fa fd [x] (sp (K w.params)))
    (hsp : ∀ (K : PySem.W.Frag) (H : Hp) (a : Addr) (ns : List Int), ns.length ≤ n → Only H → SqL K H a (ns.map V.int) → sp K [.ref a] H (fun v _ => v = .bl true) fun _ _ _ => False) :
    PySem.W.WalkO q loose XP YP l.row.toRowW d [] (fun f vs => PySem.call f vs) := by
  refine Att.attach_call hn hdf ?_
  intro w s₀ s₁ mg mb fa o pm cd doc a vs ns G Y ho hd hcd hmg hobj hints hlen hg
  obtain ⟨fd, hb, hF⟩ := F w mg fa _ (hY w _ Y) G.T.g hmg
  exact endG (hY w _ Y) G.T.g G.T.b G.T.builtins G.T.nolimit hg hobj hints (Nat.le_trans hlen hn2) hr hF hb fun H hO hS => hsp _ H a ns hlen hO hS

/-! ### tuple * int, once too -/
section
variable {X : Cx}
theorem tuple_mul1 (l : Addr) (items : Array Value) (n : Nat) (dd : Option Addr) (sl : Array (Option Value)) (u : Tok) :
    Meets (Builtin.«tuple.__mul__» ⟨[.ref l, .int 1 u], []⟩) (fun _ R s => s.heap.get? l = some { cls := .type "tuple", dict := dd, data := .seq items n, slots := sl } ∧ R (.ok (.ret (Value.ref l))) s) :=
  .of_wp fun prog w A R s h => by
    obtain ⟨hp, g, d, tk, os⟩ := s
    obtain ⟨hl, h⟩ := h
    have f1 := AutoSeq1.idx_int
    have c1 : (items.isEmpty || (1 : Int) == 1) = true := by simp
    wp_walk using wpAny_loadPart' hl
    exact ⟨_, rfl, h⟩
/-- t * k, k from 1 on -/
def rTimes (K : PySem.W.Frag) : R2 := fun x y H Q => ∃ l k xs, x = .ref l ∧ y = .int k ∧ SqT K H l xs ∧ xs ≠ [] ∧ 1 ≤ k ∧ k ≤ 1000 ∧ xs.length ≤ 1000 ∧
  (k = 1 → Q (.ref l) H) ∧ (2 ≤ k → ∀ p, H p = none → Q (.ref p) (upd H p (.tup (List.replicate k.toNat xs).flatten)))
theorem op_times : OpR X (binaryOp .Mult) (rTimes X.K) := by
  intro pins s σ H x y v u Q I rx ry h
  obtain ⟨l, k, xs, rfl, rfl, hT, hne, h1, h2, hz, q1, q2⟩ := h
  by_cases hk : 2 ≤ k
  · exact op_repT pins s σ H _ _ v u Q I rx ry ⟨l, k, xs, rfl, rfl, hT, hne, hk, h2, hz, q2 hk⟩
  · have e1 : k = 1 := by omega
    subst e1
    cases rx
    obtain ⟨t, rfl⟩ := ry
    obtain ⟨its, r, ⟨⟨cls, dd, data, sl⟩, ho, hc, n, hd⟩, hs⟩ := I.tuple hT
    simp only at hc hd
    subst hc hd
    refine wpAny_binaryOp_repeat_ref (T := "tuple") (U := "int") (by decide) ⟨_, ho, rfl⟩ (fun s' => typeIs_int s' 1 t) noFill_tuple_mul F.fills_int_mul F.slot_int_rmul repeat_tuple F.slot_int_index.lookup ?_
    refine call_meets F.slot_int_rmul (typeIs_int s 1 t) F.entry_int_rmul (F.args_int_rmul_2 _ _) (int_rmul_tuple 1 t l its.toArray n dd sl) ?_
    exact ⟨ho, rfl, ⟨_, ho, rfl⟩, call_meets F.slot_tuple_mul ⟨_, ho, rfl⟩ F.entry_tuple_mul (F.args_tuple_mul_2 _ _) (tuple_mul1 l its.toArray n dd sl t) ⟨ho, ⟨.ref l, H, I, rfl, q1 rfl⟩⟩⟩
end
end KG

namespace KGX
open PySem PySem.Spec PyProof.Rows L2
def topS (i : Nat) : Stmt := PySem.Challenge.pw_kindsgathered_k03_totals_and_parts.main.body.getD i (.Pass ⟨0, 0, 0, 0⟩)
abbrev s_is_whole : Stmt := topS 6
theorem sc_is_whole : FnScope ["thing"] ["thing"] (defScope s_is_whole) := ⟨rfl, rfl, rfl, by decide +kernel, rfl, by decide +kernel, by decide +kernel⟩
abbrev s_is_whole_within : Stmt := topS 7
theorem sc_is_whole_within : FnScope ["thing", "least", "most"] ["thing", "least", "most"] (defScope s_is_whole_within) := ⟨rfl, rfl, rfl, by decide +kernel, rfl, by decide +kernel, by decide +kernel⟩
abbrev s_greatest_divisor : Stmt := topS 9
theorem sc_greatest_divisor : FnScope ["top", "bottom", "one", "other"] ["top", "bottom"] (defScope s_greatest_divisor) := ⟨rfl, rfl, rfl, by decide +kernel, rfl, by decide +kernel, by decide +kernel⟩
abbrev s_lowest : Stmt := topS 10
theorem sc_lowest : FnScope ["top", "bottom", "divisor"] ["top", "bottom"] (defScope s_lowest) := ⟨rfl, rfl, rfl, by decide +kernel, rfl, by decide +kernel, by decide +kernel⟩
abbrev s_is_shares : Stmt := topS 14
theorem sc_is_shares : FnScope ["thing", "share"] ["thing"] (defScope s_is_shares) := ⟨rfl, rfl, rfl, by decide +kernel, rfl, by decide +kernel, by decide +kernel⟩
abbrev s_check_shares : Stmt := topS 15
theorem sc_check_shares : FnScope ["thing"] ["thing"] (defScope s_check_shares) := ⟨rfl, rfl, rfl, by decide +kernel, rfl, by decide +kernel, by decide +kernel⟩
abbrev s_is_some_kinds : Stmt := topS 16
theorem sc_is_some_kinds : FnScope ["thing", "shares", "kind", "one", "other"] ["thing", "shares"] (defScope s_is_some_kinds) := ⟨rfl, rfl, rfl, by decide +kernel, rfl, by decide +kernel, by decide +kernel⟩
abbrev s_check_some_kinds : Stmt := topS 17
theorem sc_check_some_kinds : FnScope ["thing", "shares"] ["thing", "shares"] (defScope s_check_some_kinds) := ⟨rfl, rfl, rfl, by decide +kernel, rfl, by decide +kernel, by decide +kernel⟩
abbrev s_total : Stmt := topS 18
theorem sc_total : FnScope ["shares"] ["shares"] (defScope s_total) := ⟨rfl, rfl, rfl, by decide +kernel, rfl, by decide +kernel, by decide +kernel⟩
abbrev s_part : Stmt := topS 19
theorem sc_part : FnScope ["shares", "some", "kind"] ["shares", "some"] (defScope s_part) := ⟨rfl, rfl, rfl, by decide +kernel, rfl, by decide +kernel, by decide +kernel⟩
abbrev s__law_cell : Stmt := topS 21
theorem sc__law_cell : FnScope ["_law_script", "_law_k"] ["_law_script", "_law_k"] (defScope s__law_cell) := ⟨rfl, rfl, rfl, by decide +kernel, rfl, by decide +kernel, by decide +kernel⟩
abbrev s__law_mix : Stmt := topS 22
theorem sc__law_mix : FnScope ["_law_cell_here", "_law_k", "_law_some_here", "_law_stir"] ["_law_cell_here", "_law_k"] (defScope s__law_mix) := ⟨rfl, rfl, rfl, by decide +kernel, rfl, by decide +kernel, by decide +kernel⟩
abbrev s__law_box : Stmt := topS 23
theorem sc__law_box : FnScope ["_law_script", "_law_k", "_law_cell_here", "_law_number", "_law_j"] ["_law_script", "_law_k"] (defScope s__law_box) := ⟨rfl, rfl, rfl, by decide +kernel, rfl, by decide +kernel, by decide +kernel⟩
abbrev s__law_take : Stmt := topS 24
theorem sc__law_take : FnScope ["_law_box_here", "_law_many", "_law_left", "_law_digit"] ["_law_box_here", "_law_many"] (defScope s__law_take) := ⟨rfl, rfl, rfl, by decide +kernel, rfl, by decide +kernel, by decide +kernel⟩
abbrev s__law_drawn_shares : Stmt := topS 25
theorem sc__law_drawn_shares : FnScope ["_law_box_here", "_law_most", "_law_top", "_law_many", "_law_kind", "_law_place"] ["_law_box_here", "_law_most", "_law_top"] (defScope s__law_drawn_shares) := ⟨rfl, rfl, rfl, by decide +kernel, rfl, by decide +kernel, by decide +kernel⟩
abbrev s__law_common : Stmt := topS 26
theorem sc__law_common : FnScope ["_law_one", "_law_other"] ["_law_one", "_law_other"] (defScope s__law_common) := ⟨rfl, rfl, rfl, by decide +kernel, rfl, by decide +kernel, by decide +kernel⟩
abbrev s__law_made : Stmt := topS 27
theorem sc__law_made : FnScope ["_law_top", "_law_bottom", "_law_both"] ["_law_top", "_law_bottom"] (defScope s__law_made) := ⟨rfl, rfl, rfl, by decide +kernel, rfl, by decide +kernel, by decide +kernel⟩
abbrev s__law_some : Stmt := topS 28
theorem sc__law_some : FnScope ["_law_box_here", "_law_many", "_law_kind"] ["_law_box_here", "_law_many"] (defScope s__law_some) := ⟨rfl, rfl, rfl, by decide +kernel, rfl, by decide +kernel, by decide +kernel⟩
abbrev s_law : Stmt := topS 29
theorem sc_law : FnScope ["_law_script", "_law_k", "_law_box_here", "_law_shares", "_law_many", "_law_some_here", "_law_due", "_law_lap", "_law_kind"] ["_law_script"] (defScope s_law) := ⟨rfl, rfl, rfl, by decide +kernel, rfl, by decide +kernel, by decide +kernel⟩
theorem bt_isinstance : bootBuiltins "isinstance" = some (.builtin "isinstance") := by decide +kernel
theorem bt_int : bootBuiltins "int" = some (.type "int") := by decide +kernel
theorem bt_bool : bootBuiltins "bool" = some (.type "bool") := by decide +kernel
theorem bt_abs : bootBuiltins "abs" = some (.builtin "abs") := by decide +kernel
theorem bt_all : bootBuiltins "all" = some (.builtin "all") := by decide +kernel
theorem bt_tuple : bootBuiltins "tuple" = some (.type "tuple") := by decide +kernel
theorem bt_len : bootBuiltins "len" = some (.builtin "len") := by decide +kernel
theorem bt_zip : bootBuiltins "zip" = some (.type "zip") := by decide +kernel
theorem bt_sum : bootBuiltins "sum" = some (.builtin "sum") := by decide +kernel
theorem bt_range : bootBuiltins "range" = some (.type "range") := by decide +kernel
theorem bt_divmod : bootBuiltins "divmod" = some (.builtin "divmod") := by decide +kernel
theorem bt_max : bootBuiltins "max" = some (.builtin "max") := by decide +kernel
theorem bt_min : bootBuiltins "min" = some (.builtin "min") := by decide +kernel
theorem bt_repr : bootBuiltins "repr" = some (.builtin "repr") := by decide +kernel
/-- what the top has left -/
structure Tx (K : PySem.W.Frag) (mg : Str → Option Value) where
  a_is_whole : Addr
  d_is_whole : FuncData
  F_is_whole : Fun K "is_whole" "is_whole" s_is_whole a_is_whole d_is_whole
  g_is_whole : mg "is_whole" = some (.ref a_is_whole)
  b_is_whole : Binds K d_is_whole ["thing"] []
  a_is_whole_within : Addr
  d_is_whole_within : FuncData
  F_is_whole_within : Fun K "is_whole_within" "is_whole_within" s_is_whole_within a_is_whole_within d_is_whole_within
  g_is_whole_within : mg "is_whole_within" = some (.ref a_is_whole_within)
  b_is_whole_within : Binds K d_is_whole_within ["thing", "least", "most"] []
  a_greatest_divisor : Addr
  d_greatest_divisor : FuncData
  F_greatest_divisor : Fun K "greatest_divisor" "greatest_divisor" s_greatest_divisor a_greatest_divisor d_greatest_divisor
  g_greatest_divisor : mg "greatest_divisor" = some (.ref a_greatest_divisor)
  b_greatest_divisor : Binds K d_greatest_divisor ["top", "bottom"] []
  a_lowest : Addr
  d_lowest : FuncData
  F_lowest : Fun K "lowest" "lowest" s_lowest a_lowest d_lowest
  g_lowest : mg "lowest" = some (.ref a_lowest)
  b_lowest : Binds K d_lowest ["top", "bottom"] []
  a_is_shares : Addr
  d_is_shares : FuncData
  F_is_shares : Fun K "is_shares" "is_shares" s_is_shares a_is_shares d_is_shares
  g_is_shares : mg "is_shares" = some (.ref a_is_shares)
  b_is_shares : Binds K d_is_shares ["thing"] []
  a_check_shares : Addr
  d_check_shares : FuncData
  F_check_shares : Fun K "check_shares" "check_shares" s_check_shares a_check_shares d_check_shares
  g_check_shares : mg "check_shares" = some (.ref a_check_shares)
  b_check_shares : Binds K d_check_shares ["thing"] []
  a_is_some_kinds : Addr
  d_is_some_kinds : FuncData
  F_is_some_kinds : Fun K "is_some_kinds" "is_some_kinds" s_is_some_kinds a_is_some_kinds d_is_some_kinds
  g_is_some_kinds : mg "is_some_kinds" = some (.ref a_is_some_kinds)
  b_is_some_kinds : Binds K d_is_some_kinds ["thing", "shares"] []
  a_check_some_kinds : Addr
  d_check_some_kinds : FuncData
  F_check_some_kinds : Fun K "check_some_kinds" "check_some_kinds" s_check_some_kinds a_check_some_kinds d_check_some_kinds
  g_check_some_kinds : mg "check_some_kinds" = some (.ref a_check_some_kinds)
  b_check_some_kinds : Binds K d_check_some_kinds ["thing", "shares"] []
  a_total : Addr
  d_total : FuncData
  F_total : Fun K "total" "total" s_total a_total d_total
  g_total : mg "total" = some (.ref a_total)
  b_total : Binds K d_total ["shares"] []
  a_part : Addr
  d_part : FuncData
  F_part : Fun K "part" "part" s_part a_part d_part
  g_part : mg "part" = some (.ref a_part)
  b_part : Binds K d_part ["shares", "some"] []
  a__law_cell : Addr
  d__law_cell : FuncData
  F__law_cell : Fun K "_law_cell" "_law_cell" s__law_cell a__law_cell d__law_cell
  g__law_cell : mg "_law_cell" = some (.ref a__law_cell)
  b__law_cell : Binds K d__law_cell ["_law_script", "_law_k"] []
  a__law_mix : Addr
  d__law_mix : FuncData
  F__law_mix : Fun K "_law_mix" "_law_mix" s__law_mix a__law_mix d__law_mix
  g__law_mix : mg "_law_mix" = some (.ref a__law_mix)
  b__law_mix : Binds K d__law_mix ["_law_cell_here", "_law_k"] []
  a__law_box : Addr
  d__law_box : FuncData
  F__law_box : Fun K "_law_box" "_law_box" s__law_box a__law_box d__law_box
  g__law_box : mg "_law_box" = some (.ref a__law_box)
  b__law_box : Binds K d__law_box ["_law_script", "_law_k"] []
  a__law_take : Addr
  d__law_take : FuncData
  F__law_take : Fun K "_law_take" "_law_take" s__law_take a__law_take d__law_take
  g__law_take : mg "_law_take" = some (.ref a__law_take)
  b__law_take : Binds K d__law_take ["_law_box_here", "_law_many"] []
  a__law_drawn_shares : Addr
  d__law_drawn_shares : FuncData
  F__law_drawn_shares : Fun K "_law_drawn_shares" "_law_drawn_shares" s__law_drawn_shares a__law_drawn_shares d__law_drawn_shares
  g__law_drawn_shares : mg "_law_drawn_shares" = some (.ref a__law_drawn_shares)
  b__law_drawn_shares : Binds K d__law_drawn_shares ["_law_box_here", "_law_most", "_law_top"] []
  a__law_common : Addr
  d__law_common : FuncData
  F__law_common : Fun K "_law_common" "_law_common" s__law_common a__law_common d__law_common
  g__law_common : mg "_law_common" = some (.ref a__law_common)
  b__law_common : Binds K d__law_common ["_law_one", "_law_other"] []
  a__law_made : Addr
  d__law_made : FuncData
  F__law_made : Fun K "_law_made" "_law_made" s__law_made a__law_made d__law_made
  g__law_made : mg "_law_made" = some (.ref a__law_made)
  b__law_made : Binds K d__law_made ["_law_top", "_law_bottom"] []
  a__law_some : Addr
  d__law_some : FuncData
  F__law_some : Fun K "_law_some" "_law_some" s__law_some a__law_some d__law_some
  g__law_some : mg "_law_some" = some (.ref a__law_some)
  b__law_some : Binds K d__law_some ["_law_box_here", "_law_many"] []
  a_law : Addr
  d_law : FuncData
  F_law : Fun K "law" "law" s_law a_law d_law
  g_law : mg "law" = some (.ref a_law)
  b_law : Binds K d_law ["_law_script"] []
  m_isinstance : mg "isinstance" = none
  m_int : mg "int" = none
  m_bool : mg "bool" = none
  m_abs : mg "abs" = none
  m_all : mg "all" = none
  m_tuple : mg "tuple" = none
  m_len : mg "len" = none
  m_zip : mg "zip" = none
  m_sum : mg "sum" = none
  m_range : mg "range" = none
  m_divmod : mg "divmod" = none
  m_max : mg "max" = none
  m_min : mg "min" = none
  m_repr : mg "repr" = none
  t_MOST_KINDS : Tok
  c_MOST_KINDS : mg "MOST_KINDS" = some (.int 5 t_MOST_KINDS)
  t_MOST_SHARE : Tok
  c_MOST_SHARE : mg "MOST_SHARE" = some (.int 9 t_MOST_SHARE)
/-! ### words of one's own -/
/-- the type of a value is known -/
def Kn (K : PySem.W.Frag) (H : Hp) : V → Prop
  | .non | .bl _ | .int _ | .str _ => True
  | .ref a => (∃ xs, H a = some (.lst xs)) ∨ (∃ xs, H a = some (.tup xs)) ∨ ∃ kv, H a = some (.dK kv)
  | _ => False
theorem Kn.mono {K : PySem.W.Frag} {H H' : Hp} (e : Same H H') : ∀ {x : V}, Kn K H x → Kn K H' x
  | .non, _ | .bl _, _ | .int _, _ | .str _, _ => trivial
  | .ref a, h => by
    rcases h with ⟨y, z⟩ | ⟨y, z⟩ | ⟨y, z⟩
    · exact .inl ⟨y, e _ _ z⟩
    · exact .inr (.inl ⟨y, e _ _ z⟩)
    · exact .inr (.inr ⟨y, e _ _ z⟩)
def whole : V → Bool
  | .int _ => true
  | _ => false
def within (lo hi : Int) : V → Bool
  | .int i => decide (lo ≤ i) && decide (i ≤ hi)
  | _ => false
/-- the box alone may change -/
def Kp (b : Addr) (H H' : Hp) : Prop := ∀ a o, a ≠ b → H a = some o → H' a = some o
theorem Kp.of {b : Addr} {H H' : Hp} (h : Same H H') : Kp b H H' := fun a o _ e => h a o e
theorem Kp.trans {b : Addr} {H H1 H2 : Hp} (x : Kp b H H1) (y : Kp b H1 H2) : Kp b H H2 := fun a o n e => y a o n (x a o n e)
theorem same_new {H : Hp} {p : Addr} {o : HO} (h : H p = none) : Same H (upd H p o) := fun b x e => by
  rw [upd_ne (ne_of_none e h)]
  exact e
def low (t b : Int) : List V := [.int (t / (Int.gcd t b : Int)), .int (b / (Int.gcd t b : Int))]
/-! ### whole numbers -/
section
variable {P : Program} {w : World} {K : PySem.W.Frag} {mg : Str → Option Value} {base : Heap}
def sp_is_whole (K : PySem.W.Frag) : Sp := fun vs H Q _ => ∃ x, vs = [x] ∧ Kn K H x ∧ Q (.bl (whole x)) H
theorem ok_is_whole (T : Tx K mg) : FnOk P w K mg base CX0 1 T.a_is_whole T.d_is_whole ["thing"] (sp_is_whole K) := by
  refine T.F_is_whole.ok sc_is_whole (fun vs H Q E h => ?_) (fun cdv A outer s H vs Q E hr h => ?_)
  · obtain ⟨x, rfl, _⟩ := h; rfl
  obtain ⟨x, rfl, hx, q⟩ := h
  refine ⟨_, (pss_one (ps_ret (pe_and (pe_callB (r := rIsi K) call_isi (by rfl) T.m_isinstance bt_isinstance (pa_cons (pv 0) (pa_cons (pe_bltn (v := .ty "int") (by rfl) T.m_int bt_int rfl) pa_nil))) (pe_one (pe_not (pe_callB (r := rIsi K) call_isi (by rfl) T.m_isinstance bt_isinstance (pa_cons (pv 0) (pa_cons (pe_bltn (v := .ty "bool") (by rfl) T.m_bool bt_bool rfl) pa_nil)))))))), ?_⟩
  cases x with
  | non => exact ⟨_, rfl, _, _, _, _, false, rfl, .ty "int", .base .non, kit_ty (by decide +kernel), false, rfl, iteF q⟩
  | str y => exact ⟨_, rfl, _, _, _, _, false, rfl, .ty "int", .base (.str y), kit_ty (by decide +kernel), false, rfl, iteF q⟩
  | int i => exact ⟨_, rfl, _, _, _, _, true, rfl, .ty "int", .base (.int i), kit_ty (by decide +kernel), true, rfl, iteT ⟨_, rfl, _, _, _, _, false, rfl, .ty "bool", .base (.int i), kit_ty (by decide +kernel), false, rfl, q⟩⟩
  | bl y => exact ⟨_, rfl, _, _, _, _, true, rfl, .ty "int", .base (.bl y), kit_ty (by decide +kernel), true, rfl, iteT ⟨_, rfl, _, _, _, _, true, rfl, .ty "bool", .base (.bl y), kit_ty (by decide +kernel), true, rfl, q⟩⟩
  | ref a =>
    rcases hx with ⟨y, z⟩ | ⟨y, z⟩ | ⟨y, z⟩
    · exact ⟨_, rfl, _, _, _, _, false, rfl, .ty "int", .base (.lst z), kit_ty (by decide +kernel), false, rfl, iteF q⟩
    · exact ⟨_, rfl, _, _, _, _, false, rfl, .ty "int", .base (.tup z), kit_ty (by decide +kernel), false, rfl, iteF q⟩
    · exact ⟨_, rfl, _, _, _, _, false, rfl, .ty "int", .base (.dK z), kit_ty (by decide +kernel), false, rfl, iteF q⟩
  | byt y => exact hx.elim
  | flt y => exact hx.elim
  | ty y => exact hx.elim
def sp_is_whole_within (K : PySem.W.Frag) : Sp := fun vs H Q _ => ∃ x lo hi, vs = [x, .int lo, .int hi] ∧ Kn K H x ∧ Q (.bl (within lo hi x)) H
theorem ok_is_whole_within (T : Tx K mg) : FnOk P w K mg base CX0 2 T.a_is_whole_within T.d_is_whole_within ["thing", "least", "most"] (sp_is_whole_within K) := by
  refine T.F_is_whole_within.ok sc_is_whole_within (fun vs H Q E h => ?_) (fun cdv A outer s H vs Q E hr h => ?_)
  · obtain ⟨x, lo, hi, rfl, _⟩ := h; rfl
  obtain ⟨x, lo, hi, rfl, hx, q⟩ := h
  refine ⟨_, (pss_one (ps_ret (pe_and (pe_call (ok_is_whole T) (hr.mono (by decide)) (by rfl) T.g_is_whole T.F_is_whole.kp T.b_is_whole .nil pass0 (pa_cons (pv 0) pa_nil)) (pe_one (pe_chain op_le op_le (pv 1) (pv 0) (pv 2)))))), ?_⟩
  refine ⟨x, rfl, x, rfl, hx, whole x, rfl, ?_⟩
  cases x with
  | int i =>
    refine iteT ⟨_, rfl, _, rfl, lo, i, rfl, rfl, _, rfl, ?_⟩
    have q : Q (.bl (decide (lo ≤ i) && decide (i ≤ hi))) H := q
    by_cases h1 : lo ≤ i
    · rw [decide_eq_true h1] at q ⊢
      exact iteT ⟨_, rfl, i, hi, rfl, rfl, q⟩
    · rw [decide_eq_false h1] at q ⊢
      exact iteF q
  | _ => exact iteF q
/-! ### the greatest that divides both -/
theorem gcd_step (a b : Int) (ha : 0 ≤ a) (hb : 0 < b) : Int.gcd b (a % b) = Int.gcd a b := by
  obtain ⟨m, rfl⟩ := Int.eq_ofNat_of_zero_le ha
  obtain ⟨n, rfl⟩ := Int.eq_ofNat_of_zero_le (Int.le_of_lt hb)
  show Nat.gcd n (m % n) = Nat.gcd m n
  rw [Nat.gcd_comm n, ← Nat.gcd_rec, Nat.gcd_comm]
def spGcd : Sp := fun vs H Q _ => ∃ a b : Int, vs = [.int a, .int b] ∧ 0 ≤ a ∧ 0 ≤ b ∧ Q (.int (Int.gcd a b : Int)) H
theorem ok__law_common (T : Tx K mg) : FnOk P w K mg base CX0 1 T.a__law_common T.d__law_common ["_law_one", "_law_other"] spGcd := by
  refine T.F__law_common.ok sc__law_common (fun vs H Q E h => ?_) (fun cdv A outer s H vs Q E hr h => ?_)
  · obtain ⟨a, b, rfl, _⟩ := h; rfl
  obtain ⟨a, b, rfl, ha, hb, q⟩ := h
  refine ⟨_, (pss_cons (ps_while PassesOwn.never (pt_cmpR op_ne (pv 1) pe_int (nomark _)) (pss_one (ps_par (i := 0) (j := 1) (by rfl) sc__law_common.nd rfl rfl (by decide) rfl rfl (pa_cons (pv 1) (pa_cons (pe_op op_mod (pv 0) (pv 1)) pa_nil)) (by rfl))))
      (pss_one (ps_ret (pv 0)))), ?_⟩
  refine while_by (fun σ H' => ∃ x y : Int, σ = [some (.int x), some (.int y)] ∧ 0 ≤ x ∧ 0 ≤ y ∧ Int.gcd x y = Int.gcd a b ∧ H' = H) (fun σ _ => match σ with | [_, some (.int y)] => y.toNat | _ => 0) ⟨a, b, rfl, ha, hb, rfl, rfl⟩ ?_ ?_
  · rintro σ H' ⟨x, y, rfl, hx, hy, e, rfl⟩
    refine ⟨_, rfl, rfl, _, rfl, ?_⟩
    by_cases h0 : y = 0
    · subst h0
      refine iteNS rfl ⟨_, rfl, ?_⟩
      rw [Int.gcd_zero_right] at e
      have e2 : x = (Int.gcd a b : Int) := by omega
      rw [e2]
      exact q
    · have hd : (!decide (V.int y = V.int 0)) = true := by
        rw [decide_eq_false (fun z => h0 (V.int.inj z))]; rfl
      rw [hd]
      refine iteT ⟨_, rfl, _, rfl, _, rfl, x, y, rfl, rfl, (by omega : 0 < y), _, _, rfl, ⟨y, x % y, rfl, hy, Int.emod_nonneg _ h0, ?_, rfl⟩, ?_⟩
      · rw [gcd_step x y hx (by omega), e]
      · show (x % y).toNat < y.toNat
        have := Int.emod_lt_of_pos x (show 0 < y by omega)
        omega
  · rintro σ H' Q Q' m ⟨v, h1, h2, k, h3, h4⟩
    exact ⟨v, h1, h2, k, h3, m _ _ h4⟩
def sp_greatest_divisor : Sp := fun vs H Q _ => ∃ a b : Int, vs = [.int a, .int b] ∧ 0 ≤ b ∧ Q (.int (Int.gcd a b : Int)) H
theorem abs_eq (i : Int) : (if i < 0 then -i else i) = (i.natAbs : Int) := by
  split <;> omega
theorem ok_greatest_divisor (T : Tx K mg) : FnOk P w K mg base CX0 1 T.a_greatest_divisor T.d_greatest_divisor ["top", "bottom"] sp_greatest_divisor := by
  refine T.F_greatest_divisor.ok sc_greatest_divisor (fun vs H Q E h => ?_) (fun cdv A outer s H vs Q E hr h => ?_)
  · obtain ⟨a, b, rfl, _⟩ := h; rfl
  obtain ⟨a, b, rfl, hb, q⟩ := h
  refine ⟨_, (pss_cons (ps_par (i := 2) (j := 3) (by rfl) sc_greatest_divisor.nd rfl rfl (by decide) rfl rfl (pa_cons (pe_callB call_abs (by rfl) T.m_abs bt_abs (pa_cons (pv 0) pa_nil)) (pa_cons (pv 1) pa_nil)) (by rfl))
      (pss_cons (ps_while PassesOwn.never (pt_cmpR op_gt (pv 3) pe_int (nomark _)) (pss_one (ps_par (i := 2) (j := 3) (by rfl) sc_greatest_divisor.nd rfl rfl (by decide) rfl rfl (pa_cons (pv 3) (pa_cons (pe_op op_mod (pv 2) (pv 3)) pa_nil)) (by rfl))))
      (pss_one (ps_ret (pv 2))))), ?_⟩
  refine ⟨_, rfl, a, rfl, _, rfl, _, _, rfl, ?_⟩
  refine while_by (fun σ H' => ∃ x y : Int, σ = [some (.int a), some (.int b), some (.int x), some (.int y)] ∧ 0 ≤ x ∧ 0 ≤ y ∧ Int.gcd x y = Int.gcd a b ∧ H' = H) (fun σ _ => match σ with | [_, _, _, some (.int y)] => y.toNat | _ => 0) ?_ ?_ ?_
  · refine ⟨_, b, rfl, ?_, hb, ?_, rfl⟩
    · rw [abs_eq]; omega
    · rw [abs_eq]; rfl
  · rintro σ H' ⟨x, y, rfl, hx, hy, e, rfl⟩
    refine ⟨_, rfl, _, _, rfl, rfl, _, rfl, ?_⟩
    by_cases h0 : 0 < y
    · rw [decide_eq_true h0]
      refine iteT ⟨_, rfl, _, rfl, _, rfl, x, y, rfl, rfl, h0, _, _, rfl, ⟨y, x % y, rfl, hy, Int.emod_nonneg _ (by omega), ?_, rfl⟩, ?_⟩
      · rw [gcd_step x y hx (by omega), e]
      · show (x % y).toNat < y.toNat
        have := Int.emod_lt_of_pos x (show 0 < y by omega)
        omega
    · rw [decide_eq_false h0]
      have e0 : y = 0 := by omega
      subst e0
      refine iteF ⟨_, rfl, ?_⟩
      rw [Int.gcd_zero_right] at e
      have e2 : x = (Int.gcd a b : Int) := by omega
      rw [e2]
      exact q
  · rintro σ H' Q Q' m ⟨v, h1, i, j, h2, h3, k, h4, h5⟩
    exact ⟨v, h1, i, j, h2, h3, k, h4, m _ _ h5⟩
end
end KGX

namespace KGX
open PySem PySem.Spec PyProof.Rows L2
section
variable {P : Program} {w : World} {K : PySem.W.Frag} {mg : Str → Option Value} {base : Heap}
theorem sz1 : 1 ≤ sizeLine := by decide
theorem sz2 : 2 ≤ sizeLine := by decide
theorem sz3 : 3 ≤ sizeLine := by decide
/-! ### in lowest terms -/
def spLow : Sp := fun vs H Q _ => ∃ t b : Int, vs = [.int t, .int b] ∧ 0 < b ∧ b.natAbs.log2 < 9000 ∧ ∀ H' p, Same H H' → H p = none → H' p = some (.tup (low t b)) → Q (.ref p) H'
theorem gcd_pos {t b : Int} (h : 0 < b) : (0 : Int) < (Int.gcd t b : Int) := by
  have : 0 < Int.gcd t b := Int.gcd_pos_of_ne_zero_right t (by omega)
  omega
theorem gcd_le {t b : Int} (h : 0 < b) : (Int.gcd t b : Int) ≤ b := by
  have : Int.gcd t b ∣ b.natAbs := Nat.gcd_dvd_right _ _
  have := Nat.le_of_dvd (by omega) this
  omega
theorem log2_mono {a b : Nat} (h : a ≤ b) : a.log2 ≤ b.log2 := by
  by_cases h0 : a = 0
  · subst h0
    exact Nat.le_trans (by decide) (Nat.zero_le _)
  · exact (Nat.le_log2 (by omega)).mpr (Nat.le_trans (Nat.log2_self_le h0) h)
theorem gcd_div {t b : Int} (h : 0 < b) (hl : b.natAbs.log2 < 9000) {i : Int} : CDivW i (Int.gcd t b : Int) := by
  refine ⟨gcd_pos h, Nat.lt_of_le_of_lt (log2_mono ?_) hl⟩
  have := gcd_le (t := t) h
  omega
theorem ok__law_made (T : Tx K mg) : FnOk P w K mg base CX0 2 T.a__law_made T.d__law_made ["_law_top", "_law_bottom"] spLow := by
  refine T.F__law_made.ok sc__law_made (fun vs H Q E h => ?_) (fun cdv A outer s H vs Q E hr h => ?_)
  · obtain ⟨a, b, rfl, _⟩ := h; rfl
  obtain ⟨t, b, rfl, hb, hl, q⟩ := h
  refine ⟨_, (pss_cons (ps_set (i := 2) sc__law_made.nd rfl (Or.inl rfl) (pe_call (ok__law_common T) (hr.mono (by decide)) (by rfl) T.g__law_common T.F__law_common.kp T.b__law_common .nil pass0 (pa_cons (pv 1) (pa_cons (pe_callB call_abs (by rfl) T.m_abs bt_abs (pa_cons (pv 0) pa_nil)) pa_nil))))
      (pss_one (ps_ret (pe_tup (pa_cons (pe_op op_fdivW (pv 0) (pv 2)) (pa_cons (pe_op op_fdivW (pv 1) (pv 2)) pa_nil)))))), ?_⟩
  refine ⟨_, rfl, _, rfl, t, rfl, b, _, rfl, (by omega), ?_, ?_⟩
  · rw [abs_eq]; omega
  have e : Int.gcd b (if t < 0 then -t else t) = Int.gcd t b := by
    rw [abs_eq, Int.gcd_comm]; rfl
  rw [e]
  refine ⟨_, rfl, _, rfl, t, _, rfl, rfl, gcd_div hb hl, _, rfl, _, rfl, b, _, rfl, rfl, gcd_div hb hl, sz2, fun p hp => ?_⟩
  exact q _ p (same_new hp) hp upd_same
theorem ok_lowest (T : Tx K mg) : FnOk P w K mg base CX0 2 T.a_lowest T.d_lowest ["top", "bottom"] spLow := by
  refine T.F_lowest.ok sc_lowest (fun vs H Q E h => ?_) (fun cdv A outer s H vs Q E hr h => ?_)
  · obtain ⟨a, b, rfl, _⟩ := h; rfl
  obtain ⟨t, b, rfl, hb, hl, q⟩ := h
  refine ⟨_, (pss_cons (ps_if (pt_not (pt_val (pe_call (ok_is_whole T) (hr.mono (by decide)) (by rfl) T.g_is_whole T.F_is_whole.kp T.b_is_whole .nil pass0 (pa_cons (pv 0) pa_nil)))) (pss_one ps_never) pss_nil)
      (pss_cons (ps_if (PW.pt (pw_or (pt_not (pt_val (pe_call (ok_is_whole T) (hr.mono (by decide)) (by rfl) T.g_is_whole T.F_is_whole.kp T.b_is_whole .nil pass0 (pa_cons (pv 1) pa_nil)))) (pw_or1 (pt_cmpR op_lt (pv 1) pe_int (nomark _))))) (pss_one ps_never) pss_nil)
      (pss_cons (ps_set (i := 2) sc_lowest.nd rfl (Or.inl rfl) (pe_call (ok_greatest_divisor T) (hr.mono (by decide)) (by rfl) T.g_greatest_divisor T.F_greatest_divisor.kp T.b_greatest_divisor .nil pass0 (pa_cons (pv 0) (pa_cons (pv 1) pa_nil))))
      (pss_one (ps_ret (pe_tup (pa_cons (pe_op op_fdivW (pv 0) (pv 2)) (pa_cons (pe_op op_fdivW (pv 1) (pv 2)) pa_nil)))))))), ?_⟩
  refine ⟨_, rfl, _, rfl, trivial, true, rfl, iteF ?_⟩
  refine ⟨_, rfl, _, rfl, trivial, true, rfl, iteF ⟨_, rfl, b, 1, rfl, rfl, _, rfl, ?_⟩⟩
  rw [decide_eq_false (show ¬ b < 1 by omega)]
  refine iteF ⟨_, rfl, _, rfl, t, b, rfl, (by omega), ?_⟩
  refine ⟨_, rfl, _, rfl, t, _, rfl, rfl, gcd_div hb hl, _, rfl, _, rfl, b, _, rfl, rfl, gcd_div hb hl, sz2, fun p hp => ?_⟩
  exact q _ p (same_new hp) hp upd_same
/-! ### the law's cells -/
def sp__law_cell (K : PySem.W.Frag) : Sp := fun vs H Q _ => ∃ (a : Addr) (ns : List Int) (k : Nat), vs = [.ref a, .int k] ∧ SqL K H a (ns.map V.int) ∧ ∀ v : Int, Q (.int v) H
theorem ok__law_cell (T : Tx K mg) : FnOk P w K mg base CX0 1 T.a__law_cell T.d__law_cell ["_law_script", "_law_k"] (sp__law_cell K) := by
  refine T.F__law_cell.ok sc__law_cell (fun vs H Q E h => ?_) (fun cdv A outer s H vs Q E hr h => ?_)
  · obtain ⟨a, ns, k, rfl, _⟩ := h; rfl
  obtain ⟨a, ns, k, rfl, hS, q⟩ := h
  refine ⟨_, (pss_cons (ps_if (pt_cmpR op_lt (pv 1) (pe_callB (r := Evl.rLenS K) call_len_seq (by rfl) T.m_len bt_len (pa_cons (pv 0) pa_nil)) (nomark _)) (pss_one (ps_ret (pe_ix (r := rIxL K) ix_list (pv 0) (pv 1) (fun _ _ => rfl)))) pss_nil)
      (pss_one (ps_ret pe_int))), ?_⟩
  refine ⟨_, rfl, _, rfl, a, _, rfl, .inl hS, (k : Int), _, rfl, rfl, _, rfl, ite2 (fun e => ?_) (fun e => ?_)⟩
  · have hk : k < ns.length := by
      have := of_decide_eq_true e
      rw [List.length_map] at this
      omega
    refine ⟨_, rfl, _, rfl, a, _, (k : Int), .int ns[k], rfl, rfl, hS, atI_nat ?_, q _⟩
    rw [List.getElem?_map, List.getElem?_eq_getElem hk]
    rfl
  · exact q 0
def sp__law_mix : Sp := fun vs H Q _ => ∃ (c : Int) (k : Nat), vs = [.int c, .int k] ∧ k ≤ 1000 ∧ ∀ H' v, Same H H' → Q (.int v) H'
theorem ok__law_mix (T : Tx K mg) : FnOk P w K mg base CX0 1 T.a__law_mix T.d__law_mix ["_law_cell_here", "_law_k"] sp__law_mix := by
  refine T.F__law_mix.ok sc__law_mix (fun vs H Q E h => ?_) (fun cdv A outer s H vs Q E hr h => ?_)
  · obtain ⟨a, k, rfl, _⟩ := h; rfl
  obtain ⟨c, k, rfl, hk, q⟩ := h
  refine ⟨_, (pss_cons (ps_set (i := 2) sc__law_mix.nd rfl (Or.inl rfl) (pe_lst (pa_cons pe_int (pa_cons pe_int (pa_cons pe_int (pa_cons pe_int (pa_cons pe_int (pa_cons pe_int (pa_cons pe_int (pa_cons pe_int (pa_cons pe_int (pa_cons pe_int (pa_cons pe_int (pa_cons pe_int (pa_cons pe_int pa_nil)))))))))))))))
      (pss_cons (ps_set (i := 3) sc__law_mix.nd rfl (Or.inl rfl) (pe_op op_mul (pe_op op_add (pe_op op_mod (pv 0) pe_int) pe_int) (pe_ix (r := rIxL K) ix_list (pv 2) (pe_op op_mod (pv 1) pe_int) (fun _ _ => rfl))))
      (pss_cons (ps_set (i := 3) sc__law_mix.nd rfl (Or.inl rfl) (pe_op op_add (pe_op op_add (pv 3) (pe_op op_mul pe_int (pv 1))) (pe_op op_mul pe_int (pe_op op_fdivW (pv 1) pe_int))))
      (pss_cons (ps_set (i := 3) sc__law_mix.nd rfl (Or.inl rfl) (pe_op op_mod (pv 3) pe_int))
      (pss_one (ps_ret (pe_op op_fdivW (pe_op op_mod (pe_op op_add (pe_op op_mul (pv 3) (pv 3)) (pe_op op_mul pe_int (pv 1))) pe_int) pe_int))))))), ?_⟩
  refine ⟨by decide, fun p hp => ?_⟩
  have hm : (k : Int) % 13 = ((k % 13 : Nat) : Int) := by omega
  have h13 : k % 13 < 13 := Nat.mod_lt _ (by decide)
  obtain ⟨z, hz⟩ : ∃ z : Int, ([V.int 48271, .int 69621, .int 16807, .int 39373, .int 30269, .int 40014, .int 40692, .int 50021, .int 61687, .int 71993, .int 83869, .int 95561, .int 30307])[k % 13]? = some (.int z) := by
    generalize k % 13 = m at h13
    match m, h13 with
    | 0, _ => exact ⟨_, rfl⟩
    | 1, _ => exact ⟨_, rfl⟩
    | 2, _ => exact ⟨_, rfl⟩
    | 3, _ => exact ⟨_, rfl⟩
    | 4, _ => exact ⟨_, rfl⟩
    | 5, _ => exact ⟨_, rfl⟩
    | 6, _ => exact ⟨_, rfl⟩
    | 7, _ => exact ⟨_, rfl⟩
    | 8, _ => exact ⟨_, rfl⟩
    | 9, _ => exact ⟨_, rfl⟩
    | 10, _ => exact ⟨_, rfl⟩
    | 11, _ => exact ⟨_, rfl⟩
    | 12, _ => exact ⟨_, rfl⟩
  have c1 := Int.emod_nonneg c (show (2147483647 : Int) ≠ 0 by decide)
  have c2 := Int.emod_lt_of_pos c (show (0 : Int) < 2147483647 by decide)
  refine ⟨_, rfl, c, 2147483647, rfl, rfl, (by show (0 : Int) < 2147483647; decide), _, _, rfl, rfl, _, rfl, _, rfl, k, 13, rfl, rfl, (by show (0 : Int) < 13; decide), p, _, _, .int z, rfl, rfl, .inl (.inl upd_same), at_of hm hz, _, z, rfl, rfl, .inl ⟨by omega, by omega⟩, ?_⟩
  refine ⟨_, rfl, _, rfl, 977, k, rfl, rfl, .inl ⟨by omega, by omega⟩, _, _, rfl, rfl, _, rfl, k, 13, rfl, rfl, ⟨by decide, by decide⟩, 7919, _, rfl, rfl, .inl ⟨by omega, by omega⟩, _, _, rfl, rfl, ?_⟩
  refine ⟨_, rfl, _, 1000000007, rfl, rfl, (by show (0 : Int) < 1000000007; decide), ?_⟩
  refine ⟨_, rfl, _, rfl, _, _, rfl, rfl, .inl ⟨Int.lt_of_lt_of_le (by decide) (Int.emod_nonneg _ (by decide)), Int.lt_trans (Int.emod_lt_of_pos _ (by decide)) (by decide)⟩, _, rfl, 48271, k, rfl, rfl, .inl ⟨by omega, by omega⟩, _, _, rfl, rfl, _, 1000000007, rfl, rfl, (by show (0 : Int) < 1000000007; decide), _, 7, rfl, rfl, ⟨by decide, by decide⟩, ?_⟩
  exact q _ _ (same_new hp)
def spBox (K : PySem.W.Frag) : Sp := fun vs H Q _ => ∃ (a : Addr) (ns : List Int) (k : Nat), vs = [.ref a, .int k] ∧ SqL K H a (ns.map V.int) ∧ ∀ H' b n, Same H H' → H b = none → H' b = some (.lst [.int n]) → Q (.ref b) H'
theorem ok__law_box (T : Tx K mg) : FnOk P w K mg base CX0 2 T.a__law_box T.d__law_box ["_law_script", "_law_k"] (spBox K) := by
  refine T.F__law_box.ok sc__law_box (fun vs H Q E h => ?_) (fun cdv A outer s H vs Q E hr h => ?_)
  · obtain ⟨a, ns, k, rfl, _⟩ := h; rfl
  obtain ⟨a, ns, k, rfl, hS, q⟩ := h
  refine ⟨_, (pss_cons (ps_set (i := 2) sc__law_box.nd rfl (Or.inl rfl) (pe_call (ok__law_cell T) (hr.mono (by decide)) (by rfl) T.g__law_cell T.F__law_cell.kp T.b__law_cell .nil pass0 (pa_cons (pv 0) (pa_cons (pv 1) pa_nil))))
      (pss_cons (ps_if (pt_cmpR op_eq (pe_op op_mod (pv 2) pe_int) pe_int (nomark _)) (pss_one (ps_ret (pe_lst (pa_cons (pe_op op_fdiv (pe_callB call_abs (by rfl) T.m_abs bt_abs (pa_cons (pv 2) pa_nil)) pe_int) pa_nil)))) pss_nil)
      (pss_cons (ps_set (i := 3) sc__law_box.nd rfl (Or.inl rfl) pe_int)
      (pss_cons (ps_for PassesOwn.never rfl (pi_range1 (by rfl) T.m_range (pa_cons pe_int pa_nil)) (pg_name (i := 4) sc__law_box.nd rfl (Or.inl rfl)) (pss_one (ps_set (i := 3) sc__law_box.nd rfl (Or.inl rfl) (pe_op op_add (pe_op op_mul (pv 3) pe_int) (pe_call (ok__law_mix T) (hr.mono (by decide)) (by rfl) T.g__law_mix T.F__law_mix.kp T.b__law_mix .nil pass0 (pa_cons (pv 2) (pa_cons (pv 4) pa_nil)))))))
      (pss_one (ps_ret (pe_lst (pa_cons (pv 3) pa_nil)))))))), ?_⟩
  refine ⟨_, rfl, _, rfl, a, ns, k, rfl, hS, fun c => ?_⟩
  refine ⟨_, rfl, c, 2, rfl, rfl, (by show (0 : Int) < 2; decide), rfl, _, rfl, ite2 (fun _ => ?_) (fun _ => ?_)⟩
  · exact ⟨_, rfl, c, rfl, _, 2, rfl, rfl, ⟨by decide, by decide⟩, sz1, fun p hp => q _ p _ (same_new hp) hp upd_same⟩
  · refine ⟨40, rfl, by decide, by decide, for_range (n := 40) (fun i σ H' => ∃ n y, σ = [some (.ref a), some (.int k), some (.int c), some (.int n), y] ∧ Same H H') ⟨0, none, rfl, Same.refl _⟩ ?_ ?_⟩
    · rintro i σ H' hi ⟨n, y, rfl, sm⟩
      refine ⟨_, rfl, n, 142857143, rfl, rfl, .inr ⟨by decide, by decide⟩, _, rfl, _, rfl, c, i, ?_, by omega, fun H2 v sm2 => ?_⟩
      · rw [Int.zero_add]; rfl
      · exact ⟨_, _, rfl, rfl, _, _, rfl, sm.trans sm2⟩
    · rintro σ H' ⟨n, y, rfl, sm⟩
      exact ⟨_, rfl, sz1, fun p hp => q _ p _ (sm.trans (same_new hp)) (sm.free hp) upd_same⟩
/-- a digit of the box -/
def spTake : Sp := fun vs H Q _ => ∃ (b : Addr) (n m : Int), vs = [.ref b, .int m] ∧ H b = some (.lst [.int n]) ∧ 0 < m ∧ m.natAbs.log2 < 9000 ∧
  ∀ H' n' d, Kp b H H' → H' b = some (.lst [.int n']) → 0 ≤ d → d < m → Q (.int d) H'
theorem noPy {i m : Int} (h0 : 0 < m) (h : m.natAbs.log2 < 9000) : CDivP i m := by
  refine ⟨h0, ?_⟩
  exact PyProof.noPylong_of_log2 h
theorem ok__law_take (T : Tx K mg) : FnOk P w K mg base CX0 1 T.a__law_take T.d__law_take ["_law_box_here", "_law_many"] spTake := by
  refine T.F__law_take.ok sc__law_take (fun vs H Q E h => ?_) (fun cdv A outer s H vs Q E hr h => ?_)
  · obtain ⟨b, n, m, rfl, _⟩ := h; rfl
  obtain ⟨b, n, m, rfl, hB, h0, hl, q⟩ := h
  refine ⟨_, (pss_cons (ps_asg (pe_callB call_divmodW (by rfl) T.m_divmod bt_divmod (pa_cons (pe_ix (r := rIxL K) ix_list (pv 0) pe_int (fun _ _ => rfl)) (pa_cons (pv 1) pa_nil))) (pg_tup (by rfl) (pgs_cons (pg_name (i := 2) sc__law_take.nd rfl (Or.inl rfl)) (pgs_cons (pg_name (i := 3) sc__law_take.nd rfl (Or.inl rfl)) pgs_nil))))
      (pss_cons (ps_asg (pv 2) (pg_sub (pv 0) pe_int set_list))
      (pss_one (ps_ret (pv 3))))), ?_⟩
  refine ⟨_, rfl, b, _, 0, _, rfl, rfl, .inl (.inl hB), rfl, _, rfl, n, m, rfl, noPy h0 hl, fun p hp => ?_⟩
  have nb : b ≠ p := ne_of_none hB hp
  refine ⟨p, _, rfl, .inl (.inl upd_same), rfl, _, _, rfl, _, _, rfl, rfl, ?_⟩
  refine ⟨_, rfl, _, rfl, b, [.int n], 0, 0, rfl, rfl, ?_, rfl, ?_⟩
  · rw [upd_ne nb]; exact hB
  · refine ⟨_, rfl, q _ (n / m) (n % m) ?_ upd_same (Int.emod_nonneg _ (by omega)) (Int.emod_lt_of_pos _ h0)⟩
    intro a o na ea
    rw [upd_ne na]
    exact same_new hp a o ea
end
end KGX

namespace KGX
open PySem PySem.Spec PyProof.Rows L2
theorem yesT {σ : L2.St} {H : Hp} {F G : Hp → Prop} (h : F H) : tYes σ H (fun b H3 => if b = true then F H3 else G H3) := iteT (A := F H) (B := G H) h
theorem Kp.free {b p : Addr} {H H' : Hp} {o : HO} (k : Kp b H H') (e : H' b = some o) (hp : H' p = none) : H p = none := by
  cases q : H p with
  | none => rfl
  | some u =>
    by_cases z : p = b
    · subst z
      rw [hp] at e
      exact nomatch e
    · rw [k p u z q] at hp
      exact nomatch hp
theorem small_log {m : Int} (h : m.natAbs < 2 ^ 60) : m.natAbs.log2 < 9000 := Nat.lt_of_lt_of_le (PySem.Flt.log2_lt_of (by decide) h) (by decide)
theorem small_log' {m : Int} (h0 : 0 ≤ m) (h : m ≤ 100000) : m.natAbs.log2 < 9000 := small_log (Nat.lt_of_le_of_lt (show m.natAbs ≤ 100000 by omega) (by decide))
theorem rep_map (k : Nat) (x : Int) : (List.replicate k [V.int x]).flatten = (List.replicate k x).map V.int := by
  induction k with
  | zero => rfl
  | succ k ih =>
    rw [List.replicate_succ, List.replicate_succ, List.flatten_cons, ih]
    rfl
section
variable {P : Program} {w : World} {K : PySem.W.Frag} {mg : Str → Option Value} {base : Heap}
def spDrawn : Sp := fun vs H Q _ => ∃ (b : Addr) (n most top : Int), vs = [.ref b, .int most, .int top] ∧ H b = some (.lst [.int n]) ∧ 1 ≤ most ∧ most ≤ 100 ∧ 2 ≤ top ∧ top ≤ 1000 ∧
  ∀ H' p n' (ns : List Int), Kp b H H' → H' b = some (.lst [.int n']) → H p = none → H' p = some (.tup (ns.map V.int)) → 1 ≤ ns.length → (ns.length : Int) ≤ most → (∀ x ∈ ns, 1 ≤ x ∧ x ≤ top) → Q (.ref p) H'
theorem menu {top kind : Int} (h1 : 1 ≤ kind) (h2 : kind < 4) (h3 : 2 ≤ top) : ∃ m, atI [V.int top, .int 2, .int top] (kind - 1) = some (.int m) ∧ 0 < m ∧ m ≤ top := by
  rcases (show kind = 1 ∨ kind = 2 ∨ kind = 3 by omega) with rfl | rfl | rfl
  · exact ⟨top, at_of (j := 0) rfl rfl, by omega, by omega⟩
  · exact ⟨2, at_of (j := 1) rfl rfl, by omega, by omega⟩
  · exact ⟨top, at_of (j := 2) rfl rfl, by omega, by omega⟩
theorem ok__law_drawn_shares (T : Tx K mg) : FnOk P w K mg base CX0 2 T.a__law_drawn_shares T.d__law_drawn_shares ["_law_box_here", "_law_most", "_law_top"] spDrawn := by
  refine T.F__law_drawn_shares.ok sc__law_drawn_shares (fun vs H Q E h => ?_) (fun cdv A outer s H vs Q E hr h => ?_)
  · obtain ⟨b, n, most, top, rfl, _⟩ := h; rfl
  obtain ⟨b, n, most, top, rfl, hB, m1, m2, t1, t2, q⟩ := h
  refine ⟨_, (pss_cons (ps_set (i := 3) sc__law_drawn_shares.nd rfl (Or.inl rfl) (pe_op op_add pe_int (pe_call (ok__law_take T) (hr.mono (by decide)) (by rfl) T.g__law_take T.F__law_take.kp T.b__law_take .nil pass0 (pa_cons (pv 0) (pa_cons (pv 1) pa_nil)))))
      (pss_cons (ps_set (i := 4) sc__law_drawn_shares.nd rfl (Or.inr rfl) (pe_call (ok__law_take T) (hr.mono (by decide)) (by rfl) T.g__law_take T.F__law_take.kp T.b__law_take .nil pass0 (pa_cons (pv 0) (pa_cons pe_int pa_nil))))
      (pss_cons (ps_if (pt_cmpR op_eq (pv 4) pe_int (nomark _)) (pss_one (ps_ret (pe_op (r := KG.rTimes K) KG.op_times (pe_tup (pa_cons (pe_op op_add pe_int (pe_call (ok__law_take T) (hr.mono (by decide)) (by rfl) T.g__law_take T.F__law_take.kp T.b__law_take .nil pass0 (pa_cons (pv 0) (pa_cons (pv 2) pa_nil)))) pa_nil)) (pv 3)))) pss_nil)
      (pss_one (ps_ret (pe_callTy call_tuple_of (by rfl) T.m_tuple bt_tuple (pa_cons (pe_lc (own := [("_law_place", 5)]) (g := gName 5) (tt := tYes) rfl sc__law_drawn_shares.nd (pi_range1 (by rfl) T.m_range (pa_cons (pv 3) pa_nil)) (blkOk_by (N := ["_law_box_here", "_law_most", "_law_top", "_law_many", "_law_kind", "_law_place"]) (sc := defScope s__law_drawn_shares) (by decide +kernel)) (fun _ _ _ _ _ => (pg_name (i := 5) sc__law_drawn_shares.nd rfl (Or.inl rfl))) (fun _ _ _ _ _ => pts_nil) (fun _ _ _ _ _ => (pe_op op_add pe_int (pe_call (ok__law_take T) (hr.mono (by decide)) (by rfl) T.g__law_take T.F__law_take.kp T.b__law_take .nil pass0 (pa_cons (pv 0) (pa_cons (pe_ix (r := rIxL K) ix_list (pe_lst (pa_cons (pv 2) (pa_cons pe_int (pa_cons (pv 2) pa_nil)))) (pe_op op_sub (pv 4) pe_int) (fun _ _ => rfl)) pa_nil)))))) pa_nil))))))), ?_⟩
  refine ⟨_, rfl, _, rfl, b, n, most, rfl, hB, by omega, small_log' (by omega) (by omega), fun H1 n1 d1 k1 e1 z1 z2 => ⟨1, d1, rfl, rfl, ?_⟩⟩
  refine ⟨_, rfl, b, n1, 4, rfl, e1, by decide, by decide, fun H2 n2 d2 k2 e2 z3 z4 => ?_⟩
  refine ⟨_, rfl, rfl, _, rfl, ite2 (fun _ => ?_) (fun e => ?_)⟩
  · refine ⟨_, rfl, _, rfl, b, n2, top, rfl, e2, by omega, small_log' (by omega) (by omega), fun H3 n3 d3 k3 e3 z5 z6 => ⟨1, d3, rfl, rfl, sz1, fun p hp => ?_⟩⟩
    have kp : Kp b H (upd H3 p (.tup [.int (1 + d3)])) := k1.trans (k2.trans (k3.trans (Kp.of (same_new hp))))
    have nb : b ≠ p := ne_of_none e3 hp
    have eb : (upd H3 p (.tup [.int (1 + d3)])) b = some (.lst [.int n3]) := by rw [upd_ne nb]; exact e3
    have hn : H p = none := (k1.trans (k2.trans k3)).free e3 hp
    refine ⟨_, rfl, p, 1 + d1, [.int (1 + d3)], rfl, rfl, .inl (.inl upd_same), by simp, by omega, by omega, by show 1 ≤ 1000; decide, fun h1 => ?_, fun h2 p2 hp2 => ?_⟩
    · refine q _ p n3 [1 + d3] kp eb hn upd_same (Nat.le_refl _) (by show (1 : Int) ≤ most; omega) (fun x hx => ?_)
      rw [List.mem_singleton] at hx
      omega
    · have nb2 : b ≠ p2 := ne_of_none eb hp2
      refine q _ p2 n3 (List.replicate (1 + d1).toNat (1 + d3)) (kp.trans (Kp.of (same_new hp2))) ?_ (kp.free eb hp2) ?_ ?_ ?_ (fun x hx => ?_)
      · rw [upd_ne nb2]; exact eb
      · rw [upd_same, rep_map]
      · rw [List.length_replicate]; omega
      · rw [List.length_replicate]; omega
      · have := List.eq_of_mem_replicate hx
        omega
  · have hk0 : d2 ≠ 0 := fun z => e (decide_eq_true (by rw [z]))
    obtain ⟨m, hm, hm0, hm1⟩ := menu (show 1 ≤ d2 by omega) z4 t1
    refine ⟨_, rfl, 1 + d1, rfl, by omega, by omega, fun D hD => ?_⟩
    have kp0 : Kp b H H2 := k1.trans k2
    have hDb : D ≠ b := fun z => by rw [z, e2] at hD; exact nomatch hD
    refine lc_range (n := (1 + d1).toNat) (fun i H' => ∃ (ns : List Int) (n' : Int), H' D = some (.lst (ns.map V.int)) ∧ ns.length = i ∧ (∀ x ∈ ns, 1 ≤ x ∧ x ≤ top) ∧ H' b = some (.lst [.int n']) ∧ Kp b H2 H') ?_ ?_ ?_
    · exact ⟨[], n2, upd_same, rfl, (fun x hx => nomatch hx), by rw [upd_ne hDb.symm]; exact e2, Kp.of (same_new hD)⟩
    · rintro i H3 hi ⟨ns, n', eD, el, ha, eb, kp⟩
      refine ⟨rfl, yesT ⟨_, rfl, _, rfl, _, rfl, sz3, fun l hl => ⟨_, rfl, d2, 1, rfl, rfl, l, _, _, _, rfl, rfl, .inl (.inl upd_same), hm, ?_⟩⟩⟩
      have nlb : b ≠ l := ne_of_none eb hl
      have nlD : D ≠ l := ne_of_none eD hl
      refine ⟨b, n', m, rfl, by rw [upd_ne nlb]; exact eb, hm0, small_log' (by omega) (by omega), fun H5 n5 d5 k5 e5 w0 w1 => ⟨1, d5, rfl, rfl, ns.map V.int, ?_, ?_, ns ++ [1 + d5], n5, ?_, ?_, ?_, ?_, ?_⟩⟩
      · refine k5 D _ hDb ?_
        rw [upd_ne nlD]; exact eD
      · rw [List.length_map]; exact small1000 (by omega)
      · rw [upd_same, List.map_append]; rfl
      · rw [List.length_append, el]; rfl
      · intro x hx
        rcases List.mem_append.mp hx with hx | hx
        · exact ha x hx
        · rw [List.mem_singleton] at hx
          omega
      · rw [upd_ne hDb.symm]; exact e5
      · intro a o na ea
        have nD : a ≠ D := ne_of_none ea hD
        rw [upd_ne nD]
        exact k5 a o na (same_new hl a o (kp a o na ea))
    · rintro H3 ⟨ns, n', eD, el, ha, eb, kp⟩
      refine ⟨D, _, rfl, .inl ⟨.inl (.inl eD), fun p hp => ?_⟩⟩
      have nb : b ≠ p := ne_of_none eb hp
      exact q _ p n' ns (kp0.trans (kp.trans (Kp.of (same_new hp)))) (by rw [upd_ne nb]; exact eb) ((kp0.trans kp).free eb hp) upd_same (by omega) (by omega) ha
/-! ### some kinds, drawn -/
def Rise (ks : List Int) : Prop := ks.Pairwise (· < ·)
theorem rise_add {ks : List Int} {k : Int} (h : Rise ks) (hk : ∀ x ∈ ks, x < k) : Rise (ks ++ [k]) := by
  refine List.pairwise_append.mpr ⟨h, List.pairwise_singleton _ _, fun a ha b hb => ?_⟩
  rw [List.mem_singleton] at hb
  subst hb
  exact hk a ha
def spSome : Sp := fun vs H Q _ => ∃ (b : Addr) (n many : Int), vs = [.ref b, .int many] ∧ H b = some (.lst [.int n]) ∧ 0 ≤ many ∧ many ≤ 100 ∧
  ∀ H' p n' (ks : List Int), Kp b H H' → H' b = some (.lst [.int n']) → H p = none → H' p = some (.tup (ks.map V.int)) → (ks.length : Int) ≤ many → Rise ks → (∀ x ∈ ks, 0 ≤ x ∧ x < many) → Q (.ref p) H'
theorem ok__law_some (T : Tx K mg) : FnOk P w K mg base CX0 2 T.a__law_some T.d__law_some ["_law_box_here", "_law_many"] spSome := by
  refine T.F__law_some.ok sc__law_some (fun vs H Q E h => ?_) (fun cdv A outer s H vs Q E hr h => ?_)
  · obtain ⟨b, n, most, rfl, _⟩ := h; rfl
  obtain ⟨b, n, many, rfl, hB, m1, m2, q⟩ := h
  refine ⟨_, (pss_one (ps_ret (pe_callTy call_tuple_of (by rfl) T.m_tuple bt_tuple (pa_cons (pe_lc (own := [("_law_kind", 2)]) (g := gName 2) rfl sc__law_some.nd (pi_range1 (by rfl) T.m_range (pa_cons (pv 1) pa_nil)) (blkOk_by (N := ["_law_box_here", "_law_many", "_law_kind"]) (sc := defScope s__law_some) (by decide +kernel)) (fun _ _ _ _ _ => (pg_name (i := 2) sc__law_some.nd rfl (Or.inl rfl))) (fun _ _ _ _ _ => pts_one (pt_cmpR op_eq (pe_call (ok__law_take T) (hr.mono (by decide)) (by rfl) T.g__law_take T.F__law_take.kp T.b__law_take .nil pass0 (pa_cons (pv 0) (pa_cons pe_int pa_nil))) pe_int (nomark _))) (fun _ _ _ _ _ => (pv 2))) pa_nil)))), ?_⟩
  refine ⟨_, rfl, many, rfl, by omega, by omega, fun D hD => ?_⟩
  have hDb : D ≠ b := fun z => by rw [z, hB] at hD; exact nomatch hD
  refine lc_range (n := many.toNat) (fun i H' => ∃ (ks : List Int) (n' : Int), H' D = some (.lst (ks.map V.int)) ∧ ks.length ≤ i ∧ Rise ks ∧ (∀ x ∈ ks, 0 ≤ x ∧ x < i) ∧ H' b = some (.lst [.int n']) ∧ Kp b H H') ?_ ?_ ?_
  · exact ⟨[], n, upd_same, Nat.le_refl _, .nil, (fun x hx => nomatch hx), by rw [upd_ne hDb.symm]; exact hB, Kp.of (same_new hD)⟩
  · rintro i H3 hi ⟨ks, n', eD, el, hr', ha, eb, kp⟩
    refine ⟨rfl, _, rfl, b, n', 2, rfl, eb, by decide, by decide, fun H5 n5 d5 k5 e5 w0 w1 => ⟨rfl, _, rfl, ite2 (fun _ => ?_) (fun _ => ?_)⟩⟩
    · refine ⟨_, rfl, ks.map V.int, k5 D _ hDb eD, ?_, ks ++ [(i : Int)], n5, ?_, ?_, rise_add hr' (fun x hx => (ha x hx).2), ?_, ?_, ?_⟩
      · rw [List.length_map]; exact small1000 (by omega)
      · rw [upd_same, List.map_append]
        show some (HO.lst (ks.map V.int ++ [V.int (0 + i)])) = _
        rw [Int.zero_add]; rfl
      · rw [List.length_append, List.length_singleton]; omega
      · intro x hx
        rcases List.mem_append.mp hx with hx | hx
        · have := ha x hx
          omega
        · rw [List.mem_singleton] at hx
          omega
      · rw [upd_ne hDb.symm]; exact e5
      · intro a o na ea
        rw [upd_ne (ne_of_none ea hD)]
        exact k5 a o na (kp a o na ea)
    · refine ⟨ks, n5, k5 D _ hDb eD, by omega, hr', fun x hx => ?_, e5, kp.trans k5⟩
      have := ha x hx
      omega
  · rintro H3 ⟨ks, n', eD, el, hr', ha, eb, kp⟩
    refine ⟨D, _, rfl, .inl ⟨.inl (.inl eD), fun p hp => ?_⟩⟩
    have nb : b ≠ p := ne_of_none eb hp
    refine q _ p n' ks (kp.trans (Kp.of (same_new hp))) (by rw [upd_ne nb]; exact eb) (kp.free eb hp) upd_same (by omega) hr' (fun x hx => ?_)
    have := ha x hx
    omega
/-! ### shares -/
def shs (xs : List V) : Bool := decide (1 ≤ xs.length) && decide (xs.length ≤ 5) && xs.all (within 1 9)
def NotTup (H : Hp) : V → Prop
  | .non | .bl _ | .int _ | .str _ => True
  | .ref a => (∃ xs, H a = some (.lst xs)) ∨ ∃ kv, H a = some (.dK kv)
  | _ => False
/-- a thing: a tuple of things whose types are known, or no tuple -/
def Thing (K : PySem.W.Frag) (H : Hp) (x : V) : Prop := (∃ a xs, x = .ref a ∧ H a = some (.tup xs) ∧ (∀ y ∈ xs, Kn K H y)) ∨ NotTup H x
def isShs (H : Hp) : V → Bool
  | .ref a => match H a with
    | some (.tup xs) => shs xs
    | _ => false
  | _ => false
theorem isi_not {K : PySem.W.Frag} {H : Hp} {x : V} (h : NotTup H x) : ∃ t u, ClsV (.ty "tuple") u ∧ TyX K H x t ∧ PySem.W.kitOne K t u = some false := by
  cases x with
  | non => exact ⟨_, _, .ty "tuple", .base .non, kit_ty (by decide +kernel)⟩
  | bl y => exact ⟨_, _, .ty "tuple", .base (.bl y), kit_ty (by decide +kernel)⟩
  | int i => exact ⟨_, _, .ty "tuple", .base (.int i), kit_ty (by decide +kernel)⟩
  | str y => exact ⟨_, _, .ty "tuple", .base (.str y), kit_ty (by decide +kernel)⟩
  | ref a =>
    rcases h with ⟨y, z⟩ | ⟨y, z⟩
    · exact ⟨_, _, .ty "tuple", .base (.lst z), kit_ty (by decide +kernel)⟩
    · exact ⟨_, _, .ty "tuple", .base (.dK z), kit_ty (by decide +kernel)⟩
  | byt y => exact h.elim
  | flt y => exact h.elim
  | ty y => exact h.elim
theorem isShs_not {H : Hp} {x : V} (h : NotTup H x) : isShs H x = false := by
  cases x with
  | ref a => rcases h with ⟨y, z⟩ | ⟨y, z⟩ <;> simp only [isShs, z]
  | _ => rfl
theorem isi_tup {K : PySem.W.Frag} {H : Hp} {a : Addr} {xs : List V} (h : H a = some (.tup xs)) : ∃ t u, ClsV (.ty "tuple") u ∧ TyX K H (.ref a) t ∧ PySem.W.kitOne K t u = some true := ⟨_, _, .ty "tuple", .base (.tup h), kit_ty (by decide +kernel)⟩
def spShares (K : PySem.W.Frag) : Sp := fun vs H Q _ => ∃ x, vs = [x] ∧ Thing K H x ∧ ∀ H', Same H H' → Q (.bl (isShs H x)) H'
theorem ok_is_shares (T : Tx K mg) : FnOk P w K mg base CX0 3 T.a_is_shares T.d_is_shares ["thing"] (spShares K) := by
  refine T.F_is_shares.ok sc_is_shares (fun vs H Q E h => ?_) (fun cdv A outer s H vs Q E hr h => ?_)
  · obtain ⟨x, rfl, _⟩ := h; rfl
  obtain ⟨x, rfl, ht, q⟩ := h
  refine ⟨_, (pss_cons (ps_if (PW.pt (pw_or (pt_not (pt_val (pe_callB (r := rIsi K) call_isi (by rfl) T.m_isinstance bt_isinstance (pa_cons (pv 0) (pa_cons (pe_bltn (v := .ty "tuple") (by rfl) T.m_tuple bt_tuple rfl) pa_nil))))) (pw_or1 (pt_not (pt_chain op_le op_le pe_int (pe_callB (r := Evl.rLenS K) call_len_seq (by rfl) T.m_len bt_len (pa_cons (pv 0) pa_nil)) (pe_glob (v := .int 5) rfl T.c_MOST_KINDS ⟨_, rfl⟩)))))) (pss_one (ps_ret pe_bl)) pss_nil)
      (pss_one (ps_ret (pe_callB (r := rAll K) (cr_all rfl) (by rfl) T.m_all bt_all (pa_cons (pe_lc (own := [("share", 1)]) (g := gName 1) (tt := tYes) rfl sc_is_shares.nd (pi_tup (pv 0)) (blkOk_by (N := ["thing", "share"]) (sc := defScope s_is_shares) (by decide +kernel)) (fun _ _ _ _ _ => (pg_name (i := 1) sc_is_shares.nd rfl (Or.inl rfl))) (fun _ _ _ _ _ => pts_nil) (fun _ _ _ _ _ => (pe_call (ok_is_whole_within T) (hr.mono (by decide)) (by rfl) T.g_is_whole_within T.F_is_whole_within.kp T.b_is_whole_within .nil pass0 (pa_cons (pv 1) (pa_cons pe_int (pa_cons (pe_glob (v := .int 9) rfl T.c_MOST_SHARE ⟨_, rfl⟩) pa_nil)))))) pa_nil))))), ?_⟩
  rcases ht with ⟨a, xs, rfl, ha, hk⟩ | hn
  · have e0 : isShs H (.ref a) = shs xs := by simp only [isShs, ha]
    rw [e0] at q
    obtain ⟨t, u, c1, c2, c3⟩ := isi_tup (K := K) ha
    refine ⟨_, rfl, _, _, t, u, true, rfl, c1, c2, c3, _, rfl, iteF ?_⟩
    refine ⟨_, rfl, a, xs, rfl, .inr (.inl (.inl ha)), 1, _, rfl, rfl, _, rfl, ?_⟩
    by_cases h1 : 1 ≤ xs.length
    · rw [decide_eq_true (show (1 : Int) ≤ (xs.length : Int) by omega)]
      refine iteT ⟨_, 5, rfl, rfl, _, rfl, ?_⟩
      by_cases h5 : xs.length ≤ 5
      · rw [decide_eq_true (show (xs.length : Int) ≤ 5 by omega)]
        refine iteF ⟨_, rfl, a, rfl, ⟨xs, .inl (.inl ha)⟩, fun D hD => ?_⟩
        refine lc_tup (xs := xs) (fun i H' => Same H H' ∧ H' D = some (.lst ((xs.take i).map fun y => .bl (within 1 9 y)))) ⟨same_new hD, upd_same⟩ (fun i H' _ h => .inl (.inl (h.1 a _ ha))) ?_ ?_
        · rintro i y H' hi ⟨sm, eD⟩
          refine ⟨rfl, yesT ⟨_, rfl, y, 1, 9, rfl, (hk y (List.mem_of_getElem? hi)).mono sm, _, eD, ?_, ?_, ?_⟩⟩
          · rw [List.length_map, List.length_take]; exact small1000 (by omega)
          · intro b o eb
            rw [upd_ne (ne_of_none eb hD)]
            exact sm b o eb
          · rw [upd_same, List.take_add_one, hi, List.map_append]
            rfl
        · rintro H' ⟨sm, eD⟩
          rw [List.take_length] at eD
          refine ⟨D, xs.map (within 1 9), rfl, .inl (.inl ?_), ?_⟩
          · rw [eD, List.map_map]; rfl
          · have e1 : shs xs = (xs.map (within 1 9)).all id := by
              unfold shs
              rw [decide_eq_true h1, decide_eq_true h5, List.all_map]
              rfl
            rw [e1] at q
            exact q _ sm
      · rw [decide_eq_false (show ¬ (xs.length : Int) ≤ 5 by omega)]
        refine iteT ?_
        have e1 : shs xs = false := by
          unfold shs
          rw [decide_eq_false h5, Bool.and_false]; rfl
        rw [e1] at q
        exact q _ (Same.refl _)
    · rw [decide_eq_false (show ¬ (1 : Int) ≤ (xs.length : Int) by omega)]
      refine iteF ⟨_, rfl, iteT ?_⟩
      have e1 : shs xs = false := by
        unfold shs
        rw [decide_eq_false h1]; rfl
      rw [e1] at q
      exact q _ (Same.refl _)
  · obtain ⟨t, u, c1, c2, c3⟩ := isi_not (K := K) hn
    refine ⟨_, rfl, _, _, t, u, false, rfl, c1, c2, c3, _, rfl, iteT (iteT ?_)⟩
    rw [isShs_not hn] at q
    exact q _ (Same.refl _)
end
end KGX

namespace KGX
open PySem PySem.Spec PyProof.Rows L2
theorem walk_zipT {K : PySem.W.Frag} {a b : Addr} {xs ys : List V} : Walk (RZ.ItzT K a b) (min xs.length ys.length) (fun H => SqT K H a xs ∧ SqT K H b ys) (YPair (fun i => xs[i]?) (fun i => ys[i]?)) :=
  ⟨fun i _ hi q => ⟨xs, ys, xs[i]'(by omega), ys[i]'(by omega), q.1, q.2, by simp [show i < xs.length by omega], by simp [show i < ys.length by omega]⟩,
    fun _ q => ⟨xs, ys, q.1, q.2, by omega⟩, fun i H v H' _ q y => by
      obtain ⟨T, x, y, e1, e2, e3, e4, e5⟩ := y
      exact ⟨T, x, y, e1, e2, e3, e4 xs q.1, e5 ys q.2⟩⟩
def ltB : V → V → Bool
  | .int a, .int b => decide (a < b)
  | _, _ => false
def ups (xs : List V) : Bool := (List.zipWith ltB xs (xs.drop 1)).all id
def someK (n : Nat) (xs : List V) : Bool := xs.all (within 0 ((n : Int) - 1)) && ups xs
theorem all_ints {lo hi : Int} : ∀ {xs : List V}, xs.all (within lo hi) = true → ∃ ks : List Int, xs = ks.map V.int ∧ ∀ k ∈ ks, lo ≤ k ∧ k ≤ hi
  | [], _ => ⟨[], rfl, fun _ h => nomatch h⟩
  | x :: xs, h => by
    rw [List.all_cons, Bool.and_eq_true] at h
    obtain ⟨ks, e, hk⟩ := all_ints h.2
    cases x with
    | int i =>
      have h1 : (decide (lo ≤ i) && decide (i ≤ hi)) = true := h.1
      rw [Bool.and_eq_true, decide_eq_true_eq, decide_eq_true_eq] at h1
      refine ⟨i :: ks, by rw [e]; rfl, fun k hk' => ?_⟩
      rcases List.mem_cons.mp hk' with rfl | hk'
      · exact h1
      · exact hk k hk'
    | _ => exact nomatch h.1
theorem ups_rise : ∀ {ks : List Int}, Rise ks → ups (ks.map V.int) = true
  | [], _ => rfl
  | [_], _ => rfl
  | a :: b :: r, h => by
    have h2 := List.pairwise_cons.mp h
    have ih := ups_rise h2.2
    show (ltB (.int a) (.int b) && (List.zipWith ltB ((b :: r).map V.int) (((b :: r).map V.int).drop 1)).all id) = true
    rw [Bool.and_eq_true]
    exact ⟨decide_eq_true (h2.1 b List.mem_cons_self), ih⟩
theorem within_all {ks : List Int} {lo hi : Int} (h : ∀ k ∈ ks, lo ≤ k ∧ k ≤ hi) : (ks.map V.int).all (within lo hi) = true := by
  rw [List.all_map, List.all_eq_true]
  intro k hk
  show (decide (lo ≤ k) && decide (k ≤ hi)) = true
  rw [decide_eq_true (h k hk).1, decide_eq_true (h k hk).2]; rfl
theorem someK_of {n : Nat} {ks : List Int} (h : Rise ks) (hk : ∀ k ∈ ks, 0 ≤ k ∧ k < n) : someK n (ks.map V.int) = true := by
  unfold someK
  rw [ups_rise h, within_all (fun k hk' => ⟨(hk k hk').1, by have := (hk k hk').2; omega⟩)]; rfl
def isSm (H : Hp) (n : Nat) : V → Bool
  | .ref a => match H a with
    | some (.tup xs) => someK n xs
    | _ => false
  | _ => false
theorem isSm_not {H : Hp} {x : V} {n : Nat} (h : NotTup H x) : isSm H n x = false := by
  cases x with
  | ref a => rcases h with ⟨y, z⟩ | ⟨y, z⟩ <;> simp only [isSm, z]
  | _ => rfl
theorem cut_tail (xs : List V) (h : ¬ (HT.sIx xs.length 0 (some 1) = 0 ∧ HT.sIx xs.length xs.length none = xs.length)) : cutV xs (some 1) none = xs.drop 1 ∧ xs ≠ [] := by
  have e1 : HT.sIx xs.length 0 (some 1) = min 1 xs.length := HT.sIx_nat xs.length 0 1
  have e2 : HT.sIx xs.length xs.length none = xs.length := HT.sIx_none _ _
  rw [e1, e2] at h
  unfold cutV
  rw [e1, e2]
  cases xs with
  | nil => exact absurd ⟨rfl, rfl⟩ h
  | cons x r =>
    refine ⟨?_, fun z => nomatch z⟩
    rw [List.length_cons, show min 1 (r.length + 1) = 1 by omega, Nat.add_sub_cancel]
    exact List.take_length
theorem cut_whole (xs : List V) (h : HT.sIx xs.length 0 (some 1) = 0) : xs.length = 0 := by
  have e1 : HT.sIx xs.length 0 (some 1) = min 1 xs.length := HT.sIx_nat xs.length 0 1
  omega
section
variable {P : Program} {w : World} {K : PySem.W.Frag} {mg : Str → Option Value} {base : Heap}
def spChk (K : PySem.W.Frag) : Sp := fun vs H Q _ => ∃ x, vs = [x] ∧ Thing K H x ∧ isShs H x = true ∧ ∀ H', Same H H' → Q .non H'
theorem ok_check_shares (T : Tx K mg) : FnOk P w K mg base CX0 4 T.a_check_shares T.d_check_shares ["thing"] (spChk K) := by
  refine T.F_check_shares.ok sc_check_shares (fun vs H Q E h => ?_) (fun cdv A outer s H vs Q E hr h => ?_)
  · obtain ⟨x, rfl, _⟩ := h; rfl
  obtain ⟨x, rfl, ht, hs, q⟩ := h
  refine ⟨_, (pss_one (ps_if (pt_not (pt_val (pe_call (ok_is_shares T) (hr.mono (by decide)) (by rfl) T.g_is_shares T.F_is_shares.kp T.b_is_shares .nil pass0 (pa_cons (pv 0) pa_nil)))) (pss_one ps_never) pss_nil)), ?_⟩
  refine ⟨_, rfl, x, rfl, ht, fun H1 sm => ?_⟩
  rw [hs]
  exact ⟨true, rfl, iteF (q _ sm)⟩
def spIsSome (K : PySem.W.Frag) : Sp := fun vs H Q _ => ∃ x a ss, vs = [x, .ref a] ∧ H a = some (.tup ss) ∧ ss.length ≤ 1000 ∧ Thing K H x ∧ (∀ c xs, x = .ref c → H c = some (.tup xs) → xs.length ≤ 1000) ∧ ∀ H', Same H H' → Q (.bl (isSm H ss.length x)) H'
theorem ok_is_some_kinds (T : Tx K mg) : FnOk P w K mg base CX0 3 T.a_is_some_kinds T.d_is_some_kinds ["thing", "shares"] (spIsSome K) := by
  refine T.F_is_some_kinds.ok sc_is_some_kinds (fun vs H Q E h => ?_) (fun cdv A outer s H vs Q E hr h => ?_)
  · obtain ⟨x, a, ss, rfl, _⟩ := h; rfl
  obtain ⟨x, a, ss, rfl, hA, hl, ht, hx, q⟩ := h
  refine ⟨_, (pss_cons (ps_if (pt_not (pt_val (pe_callB (r := rIsi K) call_isi (by rfl) T.m_isinstance bt_isinstance (pa_cons (pv 0) (pa_cons (pe_bltn (v := .ty "tuple") (by rfl) T.m_tuple bt_tuple rfl) pa_nil))))) (pss_one (ps_ret pe_bl)) pss_nil)
      (pss_cons (ps_if (pt_not (pt_val (pe_callB (r := rAll K) (cr_all rfl) (by rfl) T.m_all bt_all (pa_cons (pe_lc (own := [("kind", 2)]) (g := gName 2) (tt := tYes) rfl sc_is_some_kinds.nd (pi_tup (pv 0)) (blkOk_by (N := ["thing", "shares", "kind", "one", "other"]) (sc := defScope s_is_some_kinds) (by decide +kernel)) (fun _ _ _ _ _ => (pg_name (i := 2) sc_is_some_kinds.nd rfl (Or.inl rfl))) (fun _ _ _ _ _ => pts_nil) (fun _ _ _ _ _ => (pe_call (ok_is_whole_within T) (hr.mono (by decide)) (by rfl) T.g_is_whole_within T.F_is_whole_within.kp T.b_is_whole_within .nil pass0 (pa_cons (pv 2) (pa_cons pe_int (pa_cons (pe_op op_sub (pe_callB (r := Evl.rLenS K) call_len_seq (by rfl) T.m_len bt_len (pa_cons (pv 1) pa_nil)) pe_int) pa_nil)))))) pa_nil)))) (pss_one (ps_ret pe_bl)) pss_nil)
      (pss_one (ps_ret (pe_callB (r := rAll K) (cr_all rfl) (by rfl) T.m_all bt_all (pa_cons (pe_lc (own := [("one", 3), ("other", 4)]) (g := gTup K 2 (gCons (gName 3) (gCons (gName 4) gNil))) (tt := tYes) rfl sc_is_some_kinds.nd (RZ.pi_zipA (by rfl) T.m_zip (pa_cons (pv 0) (pa_cons (pe_slice (r := rSlA K) sl_tupA (pv 0) (po_some pe_int) po_none) pa_nil))) (blkOk_by (N := ["thing", "shares", "kind", "one", "other"]) (sc := defScope s_is_some_kinds) (by decide +kernel)) (fun _ _ _ _ _ => (pg_tup (by rfl) (pgs_cons (pg_name (i := 3) sc_is_some_kinds.nd rfl (Or.inl rfl)) (pgs_cons (pg_name (i := 4) sc_is_some_kinds.nd rfl (Or.inl rfl)) pgs_nil)))) (fun _ _ _ _ _ => pts_nil) (fun _ _ _ _ _ => (pe_cmpR op_lt (pv 3) (pv 4) (nomark _)))) pa_nil)))))), ?_⟩
  rcases ht with ⟨c, xs, rfl, hc, hk⟩ | hn
  · have e0 : isSm H ss.length (.ref c) = someK ss.length xs := by simp only [isSm, hc]
    rw [e0] at q
    have hxl := hx c xs rfl hc
    obtain ⟨t, u, c1, c2, c3⟩ := isi_tup (K := K) hc
    refine ⟨_, rfl, _, _, t, u, true, rfl, c1, c2, c3, _, rfl, iteF ?_⟩
    refine ⟨_, rfl, c, rfl, ⟨xs, .inl (.inl hc)⟩, fun D hD => ?_⟩
    refine lc_tup (xs := xs) (fun i H' => Same H H' ∧ H' D = some (.lst ((xs.take i).map fun y => .bl (within 0 ((ss.length : Int) - 1) y)))) ⟨same_new hD, upd_same⟩ (fun i H' _ h => .inl (.inl (h.1 c _ hc))) ?_ ?_
    · rintro i y H' hi ⟨sm, eD⟩
      have hi' := (List.getElem?_eq_some_iff.mp hi).1
      refine ⟨rfl, yesT ⟨_, rfl, _, rfl, a, ss, rfl, .inr (.inl (.inl (sm a _ hA))), _, 1, rfl, rfl, y, 0, _, rfl, (hk y (List.mem_of_getElem? hi)).mono sm, _, eD, ?_, ?_, ?_⟩⟩
      · rw [List.length_map, List.length_take]; exact small1000 (by omega)
      · intro b o eb
        rw [upd_ne (ne_of_none eb hD)]
        exact sm b o eb
      · rw [upd_same, List.take_add_one, hi, List.map_append]
        rfl
    · rintro H1 ⟨sm, eD⟩
      rw [List.take_length] at eD
      refine ⟨D, xs.map (within 0 ((ss.length : Int) - 1)), rfl, .inl (.inl ?_), ?_⟩
      · rw [eD, List.map_map]; rfl
      have e1 : (xs.map (within 0 ((ss.length : Int) - 1))).all id = xs.all (within 0 ((ss.length : Int) - 1)) := by
        rw [List.all_map]; rfl
      rw [e1]
      refine ⟨_, rfl, ?_⟩
      cases hall : xs.all (within 0 ((ss.length : Int) - 1)) with
      | false =>
        refine iteT ?_
        have e2 : someK ss.length xs = false := by unfold someK; rw [hall]; rfl
        rw [e2] at q
        exact q _ sm
      | true =>
        refine iteF ?_
        have e2 : someK ss.length xs = ups xs := by unfold someK; rw [hall]; rfl
        rw [e2] at q
        obtain ⟨ks, ek, _⟩ := all_ints hall
        have step : ∀ (c2 : Addr) (H2 : Hp), Same H H2 → SqT K H2 c2 (xs.drop 1) → ∀ D2, H2 D2 = none → ∃ W : Nat → Nat → Hp → Prop, (∃ m, W 0 m (upd H2 D2 (.lst []))) ∧ ∀ i m H, W i m H →
            ((RZ.ItzT K c c2).stop i H ∧ (∃ (a : Addr) (bs : List Bool), [V.ref D2] = [V.ref a] ∧ SqL K H a (bs.map V.bl) ∧ Q (.bl (bs.all id)) H)) ∨ ((RZ.ItzT K c c2).go i H ∧ ∃ Nx : Hp → Prop, (∀ H', Nx H' → ∃ m', m' < m ∧ W (i + 1) m' H') ∧
              ∀ x H', (RZ.ItzT K c c2).yld i H x H' → gTup K 2 (gCons (gName 3) (gCons (gName 4) gNil)) x (wipe [some (.ref c), some (.ref a), none, none, none] [3, 4]) H' fun σ2 H2 => wipe σ2 [3, 4] = wipe [some (.ref c), some (.ref a), none, none, none] [3, 4] ∧ tYes σ2 H2 fun b H3 =>
                if b = true then tOp (rI0 fun i j => .bl (decide (i < j))) (tVar 3) (tVar 4) σ2 H3 fun y H4 => ∃ acc, H4 D2 = some (.lst acc) ∧ acc.length < sizeLine ∧ Nx (upd H4 D2 (.lst (acc ++ [y]))) else Nx H3) := by
          intro c2 H2 s2 hc2 D2 hD2
          have hz : (List.zipWith ltB xs (xs.drop 1)).length = min xs.length (xs.drop 1).length := List.length_zipWith
          refine lc_it (walk_zipT (xs := xs) (ys := xs.drop 1)) (fun i H' => Same H2 H' ∧ H' D2 = some (.lst (((List.zipWith ltB xs (xs.drop 1)).take i).map V.bl))) ⟨same_new hD2, upd_same⟩ (fun i H' _ h => ⟨.inl (.inl (h.1 c _ (s2 c _ hc))), Evl.ex_t h.1 hc2⟩) ?_ ?_
          · rintro i v H3 H4 hi ⟨sm3, eD3⟩ ⟨Tp, x, y, rfl, nT, rfl, hx1, hy1⟩
            have hx1 : xs[i]? = some x := hx1
            have hy1 : (xs.drop 1)[i]? = some y := hy1
            have hxi : ∃ z : Int, x = .int z := by
              rw [ek, List.getElem?_map] at hx1
              cases hz2 : ks[i]? with
              | none => rw [hz2] at hx1; exact nomatch hx1
              | some z => rw [hz2] at hx1; exact ⟨z, (Option.some.inj hx1).symm⟩
            have hyi : ∃ z : Int, y = .int z := by
              rw [ek, ← List.map_drop, List.getElem?_map] at hy1
              cases hz2 : (ks.drop 1)[i]? with
              | none => rw [hz2] at hy1; exact nomatch hy1
              | some z => rw [hz2] at hy1; exact ⟨z, (Option.some.inj hy1).symm⟩
            obtain ⟨x, rfl⟩ := hxi
            obtain ⟨y, rfl⟩ := hyi
            have nD : D2 ≠ Tp := ne_of_none eD3 nT
            refine ⟨Tp, _, rfl, .inl (.inl upd_same), rfl, _, _, rfl, _, _, rfl, rfl, rfl, yesT ⟨_, rfl, _, rfl, x, y, rfl, rfl, ((List.zipWith ltB xs (xs.drop 1)).take i).map V.bl, ?_, ?_, ?_, ?_⟩⟩
            · rw [upd_ne nD]; exact eD3
            · rw [List.length_map, List.length_take]; exact small1000 (by omega)
            · intro b o eb
              rw [upd_ne (ne_of_none eb hD2)]
              exact same_new nT b o (sm3 b o eb)
            · have hzi : (List.zipWith ltB xs (xs.drop 1))[i]? = some (decide (x < y)) := by
                rw [List.getElem?_zipWith, hx1, hy1]
                rfl
              rw [upd_same, List.take_add_one, hzi, List.map_append]
              rfl
          · rintro H3 ⟨sm3, eD3⟩
            rw [← hz, List.take_length] at eD3
            exact ⟨D2, _, rfl, .inl (.inl eD3), q _ (s2.trans sm3)⟩
        refine ⟨_, rfl, _, rfl, 1, rfl, c, xs, rfl, .inl (.inl (sm c _ hc)), fun hw => ?_, fun hw p hp => ?_⟩
        · have h0 := cut_whole xs hw.1
          have he : xs = [] := List.eq_nil_of_length_eq_zero h0
          refine ⟨c, c, xs, xs, rfl, .inr ⟨.inl (.inl (sm c _ hc)), .inl (.inl (sm c _ hc)), fun D2 hD2 => ?_⟩⟩
          exact step c H1 sm (by rw [he]; rw [he] at hc; exact .inl (.inl (sm c _ hc))) D2 hD2
        · obtain ⟨e3, _⟩ := cut_tail xs hw
          have s2 : Same H (upd H1 p (.tup (cutV xs (some 1) none))) := sm.trans (same_new hp)
          refine ⟨c, p, xs, xs.drop 1, rfl, .inr ⟨.inl (.inl (s2 c _ hc)), .inl (.inl (by rw [upd_same, e3])), fun D2 hD2 => ?_⟩⟩
          exact step p _ s2 (.inl (.inl (by rw [upd_same, e3]))) D2 hD2
  · obtain ⟨t, u, c1, c2, c3⟩ := isi_not (K := K) hn
    refine ⟨_, rfl, _, _, t, u, false, rfl, c1, c2, c3, _, rfl, iteT ?_⟩
    rw [isSm_not hn] at q
    exact q _ (Same.refl _)
def spChkSome (K : PySem.W.Frag) : Sp := fun vs H Q _ => ∃ x a ss, vs = [x, .ref a] ∧ H a = some (.tup ss) ∧ ss.length ≤ 1000 ∧ Thing K H x ∧ (∀ c xs, x = .ref c → H c = some (.tup xs) → xs.length ≤ 1000) ∧ isSm H ss.length x = true ∧ ∀ H', Same H H' → Q .non H'
theorem ok_check_some_kinds (T : Tx K mg) : FnOk P w K mg base CX0 4 T.a_check_some_kinds T.d_check_some_kinds ["thing", "shares"] (spChkSome K) := by
  refine T.F_check_some_kinds.ok sc_check_some_kinds (fun vs H Q E h => ?_) (fun cdv A outer s H vs Q E hr h => ?_)
  · obtain ⟨x, a, ss, rfl, _⟩ := h; rfl
  obtain ⟨x, a, ss, rfl, hA, hl, ht, hx, hs, q⟩ := h
  refine ⟨_, (pss_one (ps_if (pt_not (pt_val (pe_call (ok_is_some_kinds T) (hr.mono (by decide)) (by rfl) T.g_is_some_kinds T.F_is_some_kinds.kp T.b_is_some_kinds .nil pass0 (pa_cons (pv 0) (pa_cons (pv 1) pa_nil))))) (pss_one ps_never) pss_nil)), ?_⟩
  refine ⟨_, rfl, _, rfl, x, a, ss, rfl, hA, hl, ht, hx, fun H1 sm => ?_⟩
  rw [hs]
  exact ⟨true, rfl, iteF (q _ sm)⟩
/-! ### totals and parts of shares -/
/-- shares, as numbers -/
def Good (ns : List Int) : Prop := 1 ≤ ns.length ∧ ns.length ≤ 5 ∧ ∀ x ∈ ns, 1 ≤ x ∧ x ≤ 9
theorem Good.shs {ns : List Int} (h : Good ns) : shs (ns.map V.int) = true := by
  unfold KGX.shs
  rw [List.length_map, decide_eq_true h.1, decide_eq_true h.2.1, within_all h.2.2]; rfl
theorem kn_ints {K : PySem.W.Frag} {H : Hp} {ns : List Int} : ∀ y ∈ ns.map V.int, Kn K H y := fun y hy => by
  obtain ⟨x, _, rfl⟩ := List.mem_map.mp hy
  trivial
theorem thing_ints {K : PySem.W.Frag} {H : Hp} {a : Addr} {ns : List Int} (h : H a = some (.tup (ns.map V.int))) : Thing K H (.ref a) := .inl ⟨a, _, rfl, h, kn_ints⟩
theorem isShs_of {H : Hp} {a : Addr} {ns : List Int} (h : H a = some (.tup (ns.map V.int))) (g : Good ns) : isShs H (.ref a) = true := by
  simp only [isShs, h]; exact g.shs
theorem sum_bounds : ∀ {ns : List Int}, (∀ x ∈ ns, 0 ≤ x ∧ x ≤ 9) → 0 ≤ ns.sum ∧ ns.sum ≤ 9 * ns.length
  | [], _ => by decide
  | x :: r, h => by
    have h1 := h x List.mem_cons_self
    have h2 := sum_bounds (ns := r) fun y hy => h y (List.mem_cons_of_mem _ hy)
    rw [List.sum_cons, List.length_cons]
    omega
theorem Good.sum_pos {ns : List Int} (g : Good ns) : 0 < ns.sum ∧ ns.sum ≤ 45 := by
  obtain ⟨h1, h5, hx⟩ := g
  cases ns with
  | nil => exact absurd h1 (by decide)
  | cons x r =>
    have a1 := hx x List.mem_cons_self
    have a2 := sum_bounds (ns := r) fun y hy => ⟨by have := (hx y (List.mem_cons_of_mem _ hy)).1; omega, (hx y (List.mem_cons_of_mem _ hy)).2⟩
    rw [List.sum_cons]
    rw [List.length_cons] at h5
    omega
def pick (ns ks : List Int) : List Int := ks.map fun k => ns.getD k.toNat 0
def spTotal : Sp := fun vs H Q _ => ∃ (a : Addr) (ns : List Int), vs = [.ref a] ∧ H a = some (.tup (ns.map V.int)) ∧ Good ns ∧ ∀ H', Same H H' → Q (.int ns.sum) H'
theorem ok_total (T : Tx K mg) : FnOk P w K mg base CX0 5 T.a_total T.d_total ["shares"] spTotal := by
  refine T.F_total.ok sc_total (fun vs H Q E h => ?_) (fun cdv A outer s H vs Q E hr h => ?_)
  · obtain ⟨a, ns, rfl, _⟩ := h; rfl
  obtain ⟨a, ns, rfl, hA, g, q⟩ := h
  refine ⟨_, (pss_cons (ps_expr (pe_call (ok_check_shares T) (hr.mono (by decide)) (by rfl) T.g_check_shares T.F_check_shares.kp T.b_check_shares .nil pass0 (pa_cons (pv 0) pa_nil)))
      (pss_one (ps_ret (pe_callB (r := KG.rSum2 K) (KG.call_sum rfl) (by rfl) T.m_sum bt_sum (pa_cons (pv 0) pa_nil))))), ?_⟩
  refine ⟨_, rfl, _, rfl, thing_ints hA, isShs_of hA g, fun H1 sm => ?_⟩
  exact ⟨_, rfl, a, ns, rfl, .inr (.inl (.inl (sm a _ hA))), q _ sm⟩
/-- [shares[kind] for kind in some] -/
theorem at_kind {ns : List Int} {k : Int} (h0 : 0 ≤ k) (h1 : k < ns.length) : atI (ns.map V.int) k = some (.int (ns.getD k.toNat 0)) := by
  refine at_of (j := k.toNat) (by omega) ?_
  have hk : k.toNat < ns.length := by omega
  rw [List.getElem?_map, List.getElem?_eq_getElem hk, List.getD_eq_getElem?_getD, List.getElem?_eq_getElem hk]
  rfl
def spPart : Sp := fun vs H Q _ => ∃ (a c : Addr) (ns ks : List Int), vs = [.ref a, .ref c] ∧ H a = some (.tup (ns.map V.int)) ∧ Good ns ∧ H c = some (.tup (ks.map V.int)) ∧ ks.length ≤ 1000 ∧ Rise ks ∧ (∀ k ∈ ks, 0 ≤ k ∧ k < ns.length) ∧
  ∀ H' p, Same H H' → H p = none → H' p = some (.tup (low (pick ns ks).sum ns.sum)) → Q (.ref p) H'
theorem ok_part (T : Tx K mg) : FnOk P w K mg base CX0 5 T.a_part T.d_part ["shares", "some"] spPart := by
  refine T.F_part.ok sc_part (fun vs H Q E h => ?_) (fun cdv A outer s H vs Q E hr h => ?_)
  · obtain ⟨a, c, ns, ks, rfl, _⟩ := h; rfl
  obtain ⟨a, c, ns, ks, rfl, hA, g, hC, hkl, hR, hK, q⟩ := h
  refine ⟨_, (pss_cons (ps_expr (pe_call (ok_check_shares T) (hr.mono (by decide)) (by rfl) T.g_check_shares T.F_check_shares.kp T.b_check_shares .nil pass0 (pa_cons (pv 0) pa_nil)))
      (pss_cons (ps_expr (pe_call (ok_check_some_kinds T) (hr.mono (by decide)) (by rfl) T.g_check_some_kinds T.F_check_some_kinds.kp T.b_check_some_kinds .nil pass0 (pa_cons (pv 1) (pa_cons (pv 0) pa_nil))))
      (pss_one (ps_ret (pe_call (ok_lowest T) (hr.mono (by decide)) (by rfl) T.g_lowest T.F_lowest.kp T.b_lowest .nil pass0 (pa_cons (pe_callB (r := KG.rSum2 K) (KG.call_sum rfl) (by rfl) T.m_sum bt_sum (pa_cons (pe_lc (own := [("kind", 2)]) (g := gName 2) (tt := tYes) rfl sc_part.nd (pi_tup (pv 1)) (blkOk_by (N := ["shares", "some", "kind"]) (sc := defScope s_part) (by decide +kernel)) (fun _ _ _ _ _ => (pg_name (i := 2) sc_part.nd rfl (Or.inl rfl))) (fun _ _ _ _ _ => pts_nil) (fun _ _ _ _ _ => (pe_ix (r := rIxT K) ix_tup (pv 0) (pv 2) (fun _ _ => rfl)))) pa_nil)) (pa_cons (pe_callB (r := KG.rSum2 K) (KG.call_sum rfl) (by rfl) T.m_sum bt_sum (pa_cons (pv 0) pa_nil)) pa_nil))))))), ?_⟩
  refine ⟨_, rfl, _, rfl, thing_ints hA, isShs_of hA g, fun H1 s1 => ?_⟩
  refine ⟨_, rfl, _, rfl, _, a, _, rfl, s1 a _ hA, ?_, thing_ints (s1 c _ hC), ?_, ?_, fun H2 s2 => ?_⟩
  · rw [List.length_map]; have := g.2.1; omega
  · intro c' xs e hc'
    cases e
    rw [s1 c _ hC] at hc'
    cases hc'
    rw [List.length_map]; exact hkl
  · simp only [isSm, s1 c _ hC]
    rw [List.length_map]
    exact someK_of hR hK
  have s12 := s1.trans s2
  refine ⟨_, rfl, c, rfl, ⟨_, .inl (.inl (s12 c _ hC))⟩, fun D hD => ?_⟩
  refine lc_tup (xs := ks.map V.int) (fun i H' => Same H2 H' ∧ H' D = some (.lst ((pick ns (ks.take i)).map V.int))) ⟨same_new hD, upd_same⟩ (fun i H' _ h => .inl (.inl (h.1 c _ (s12 c _ hC)))) ?_ ?_
  · rintro i y H' hi ⟨sm, eD⟩
    rw [List.getElem?_map] at hi
    cases hz : ks[i]? with
    | none => rw [hz] at hi; exact nomatch hi
    | some k =>
      rw [hz] at hi
      cases hi
      have hk := hK k (List.mem_of_getElem? hz)
      have hi' := (List.getElem?_eq_some_iff.mp hz).1
      refine ⟨rfl, yesT ⟨_, rfl, _, rfl, a, _, k, _, rfl, rfl, .inl (.inl (sm a _ (s12 a _ hA))), at_kind hk.1 hk.2, (pick ns (ks.take i)).map V.int, eD, ?_, ?_, ?_⟩⟩
      · rw [List.length_map, pick, List.length_map, List.length_take]; exact small1000 (by omega)
      · intro b o eb
        rw [upd_ne (ne_of_none eb hD)]
        exact sm b o eb
      · rw [upd_same, List.take_add_one, hz, pick, pick, List.map_append, List.map_append]
        rfl
  · rintro H3 ⟨s3, eD⟩
    rw [List.length_map, List.take_length] at eD
    have s13 := s12.trans s3
    have sp := g.sum_pos
    refine ⟨D, pick ns ks, rfl, .inl (.inl (.inl eD)), _, rfl, a, ns, rfl, .inr (.inl (.inl (s13 a _ hA))), _, ns.sum, rfl, sp.1, small_log' (by omega) (by omega), fun H4 p s4 hp ep => ?_⟩
    exact q H4 p (s13.trans s4) (s13.free hp) ep
end
end KGX

namespace KGX
open PySem PySem.Spec PyProof.Rows L2
/-! ### what is shown -/
theorem shown_int {i : Int} (h : i.natAbs.log2 < 1920) : (PyData.shown (.int i)).length ≤ 1921 := by
  have e := int_text_length_le (k := 1920) (by decide) h
  show (Str.ofString (toString i)).length ≤ _
  rw [PySem.ofString_length]
  exact e
theorem sh_int {i : Int} (h : i.natAbs.log2 < 1920) : KG.ShowOk (.int i) := ⟨decide_eq_true h, rfl, (by show (0 : Nat) ≤ 20; decide), Nat.le_trans (shown_int h) (by decide)⟩
theorem sh_two {i j : Int} (hi : i.natAbs.log2 < 1920) (hj : j.natAbs.log2 < 1920) : KG.ShowOk (.tuple [.int i, .int j]) := by
  refine ⟨?_, rfl, by show 0 + 1 ≤ 20; decide, ?_⟩
  · show (decide (i.natAbs.log2 < 1920) && (decide (j.natAbs.log2 < 1920) && true)) = true
    rw [decide_eq_true hi, decide_eq_true hj]; rfl
  · have e := tupleText_len_le [PyData.shown (.int i), PyData.shown (.int j)]
    have e1 := shown_int hi
    have e2 := shown_int hj
    show (tupleText [PyData.shown (.int i), PyData.shown (.int j)]).length ≤ _
    refine Nat.le_trans e (Nat.le_trans ?_ (show 4000 ≤ sizeLine by decide))
    simp only [List.map_cons, List.map_nil, List.sum_cons, List.sum_nil, List.length_cons, List.length_nil]
    omega
theorem log_of {i : Int} {n : Nat} (h : i.natAbs < 2 ^ n) (h0 : 0 < n) (hn : n ≤ 1920) : i.natAbs.log2 < 1920 := Nat.lt_of_lt_of_le (PySem.Flt.log2_lt_of h0 h) hn
theorem log_small {i : Int} (h : i.natAbs ≤ 1000000) : i.natAbs.log2 < 1920 := log_of (n := 20) (Nat.lt_of_le_of_lt h (by decide)) (by decide) (by decide)
section
variable {P : Program} {w : World} {K : PySem.W.Frag} {mg : Str → Option Value} {base : Heap}
/-- some kinds, written as a tuple -/
def KindsAt (m : Nat) (H : Hp) (q : Addr) : Prop := ∃ ks : List Int, H q = some (.tup (ks.map V.int)) ∧ ks.length ≤ 1000 ∧ Rise ks ∧ ∀ k ∈ ks, 0 ≤ k ∧ k < m
theorem KindsAt.mono {m : Nat} {H H' : Hp} {q : Addr} (h : KindsAt m H q) (s : Same H H') : KindsAt m H' q := by
  obtain ⟨ks, e, r⟩ := h
  exact ⟨ks, s _ _ e, r⟩
theorem KindsAt.kp {m : Nat} {b : Addr} {o : List V} {H H' : Hp} {q : Addr} (h : KindsAt m H q) (eb : H b = some (.lst o)) (s : Kp b H H') : KindsAt m H' q := by
  obtain ⟨ks, e, r⟩ := h
  exact ⟨ks, s _ _ (ne_of e eb (by intro z; cases z)) e, r⟩
theorem rise_range (n : Nat) : Rise ((List.range n).map fun i : Nat => (i : Int)) := by
  refine List.pairwise_map.mpr (List.Pairwise.imp ?_ List.pairwise_lt_range)
  intro a b h
  exact Int.ofNat_lt.mpr h
theorem rg_kinds {H : Hp} {q : Addr} {n : Nat} (hn : n ≤ 1000) (e : H q = some (.tup (rgV 0 n))) : KindsAt n H q := by
  refine ⟨(List.range n).map fun i : Nat => (i : Int), ?_, ?_, rise_range n, ?_⟩
  · rw [e]
    unfold rgV
    rw [List.map_map, show ((n : Int) - 0).toNat = n by omega]
    congr 2
    refine List.map_congr_left fun i _ => ?_
    show V.int (0 + (i : Int)) = V.int (i : Int)
    rw [Int.zero_add]
  · rw [List.length_map, List.length_range]; exact hn
  · intro k hk
    obtain ⟨i, hi, rfl⟩ := List.mem_map.mp hk
    have := List.mem_range.mp hi
    omega
theorem low_small {t b : Int} (ht : t.natAbs ≤ 1000000) (h0 : 0 < b) (hb : b ≤ 1000000) : (t / (Int.gcd t b : Int)).natAbs.log2 < 1920 ∧ (b / (Int.gcd t b : Int)).natAbs.log2 < 1920 := by
  have g := gcd_pos (t := t) h0
  have d : ∀ x : Int, x.natAbs ≤ 1000000 → (x / (Int.gcd t b : Int)).natAbs ≤ 1000000 := fun x hx => by
    have h1 : (x / (Int.gcd t b : Int)).natAbs ≤ x.natAbs := Int.natAbs_ediv_le_natAbs _ _
    omega
  exact ⟨log_small (d t ht), log_small (d b (by omega))⟩
def sp_law (K : PySem.W.Frag) : Sp := fun vs H Q _ => ∃ (a : Addr) (ns : List Int), vs = [.ref a] ∧ SqL K H a (ns.map V.int) ∧ ns.length ≤ 63 ∧ ∀ H', Q (.bl true) H'
theorem start_law (K : PySem.W.Frag) (H : Hp) (a : Addr) (ns : List Int) (hl : ns.length ≤ 63) (_ : Only H) (hS : SqL K H a (ns.map V.int)) : sp_law K [.ref a] H (fun v _ => v = .bl true) fun _ _ _ => False := ⟨a, ns, rfl, hS, hl, fun _ => rfl⟩
theorem pick_bounds {ss ks : List Int} (g : Good ss) (hk : ∀ k ∈ ks, 0 ≤ k ∧ k < ss.length) : ∀ x ∈ pick ss ks, 0 ≤ x ∧ x ≤ 9 := fun x hx => by
  obtain ⟨k, hk', rfl⟩ := List.mem_map.mp hx
  have h := hk k hk'
  have hl : k.toNat < ss.length := by omega
  rw [List.getD_eq_getElem?_getD, List.getElem?_eq_getElem hl]
  have := g.2.2 ss[k.toNat] (List.getElem_mem hl)
  show 0 ≤ ss[k.toNat] ∧ ss[k.toNat] ≤ 9
  omega
theorem ok_law (T : Tx K mg) : KG.FnG P w K mg base 6 T.a_law T.d_law ["_law_script"] (sp_law K) := by
  refine KG.okG T.F_law sc_law (fun vs H Q E h => ?_) (fun cdv A outer s H vs Q E gd hr h => ?_)
  · obtain ⟨a, ns, rfl, _⟩ := h; rfl
  obtain ⟨a, ns, rfl, hS, hl, q⟩ := h
  refine ⟨_, (pss_cons (ps_for PassesOwn.never rfl (pi_range1 (by rfl) T.m_range (pa_cons (pe_callB (call_max2 rfl) (by rfl) T.m_max bt_max (pa_cons pe_int (pa_cons (pe_callB (call_min2 rfl) (by rfl) T.m_min bt_min (pa_cons (pe_callB (r := Evl.rLenS K) call_len_seq (by rfl) T.m_len bt_len (pa_cons (pv 0) pa_nil)) (pa_cons pe_int pa_nil))) pa_nil))) pa_nil)) (pg_name (i := 1) sc_law.nd rfl (Or.inl rfl)) (pss_cons (ps_set (i := 2) sc_law.nd rfl (Or.inr rfl) (pe_call (ok__law_box T) (hr.mono (by decide)) (by rfl) T.g__law_box T.F__law_box.kp T.b__law_box .nil pass0 (pa_cons (pv 0) (pa_cons (pv 1) pa_nil))))
      (pss_cons (ps_set (i := 3) sc_law.nd rfl (Or.inr rfl) (pe_call (ok__law_drawn_shares T) (hr.mono (by decide)) (by rfl) T.g__law_drawn_shares T.F__law_drawn_shares.kp T.b__law_drawn_shares .nil pass0 (pa_cons (pv 2) (pa_cons pe_int (pa_cons pe_int pa_nil)))))
      (pss_cons (ps_if (pt_cmpR op_ne (pe_callB (r := KG.rRepr K) (KG.call_repr gd hr) (by rfl) T.m_repr bt_repr (pa_cons (pe_call (ok_total T) (hr.mono (by decide)) (by rfl) T.g_total T.F_total.kp T.b_total .nil pass0 (pa_cons (pv 3) pa_nil)) pa_nil)) (pe_callB (r := KG.rRepr K) (KG.call_repr gd hr) (by rfl) T.m_repr bt_repr (pa_cons (pe_callB (r := KG.rSum2 K) (KG.call_sum rfl) (by rfl) T.m_sum bt_sum (pa_cons (pv 3) pa_nil)) pa_nil)) (nomark _)) (pss_one (ps_ret pe_bl)) pss_nil)
      (pss_cons (ps_set (i := 4) sc_law.nd rfl (Or.inr rfl) (pe_callB (r := Evl.rLenS K) call_len_seq (by rfl) T.m_len bt_len (pa_cons (pv 3) pa_nil)))
      (pss_one (ps_for PassesOwn.never rfl (pi_list (pe_op op_cat (pe_lst (pa_cons (pe_tup pa_nil) (pa_cons (pe_tupRg rfl (by rfl) T.m_tuple (prg_1 (by rfl) T.m_range (pv 4))) pa_nil))) (pe_lc (own := [("_law_lap", 7)]) (g := gName 7) (tt := tYes) rfl sc_law.nd (pi_range1 (by rfl) T.m_range (pa_cons pe_int pa_nil)) (blkOk_by (N := ["_law_script", "_law_k", "_law_box_here", "_law_shares", "_law_many", "_law_some_here", "_law_due", "_law_lap", "_law_kind"]) (sc := defScope s_law) (by decide +kernel)) (fun _ _ _ _ _ => (pg_name (i := 7) sc_law.nd rfl (Or.inl rfl))) (fun _ _ _ _ _ => pts_nil) (fun _ _ _ _ _ => (pe_call (ok__law_some T) (hr.mono (by decide)) (by rfl) T.g__law_some T.F__law_some.kp T.b__law_some .nil pass0 (pa_cons (pv 2) (pa_cons (pv 4) pa_nil))))))) (pg_name (i := 5) sc_law.nd rfl (Or.inl rfl)) (pss_cons (ps_set (i := 6) sc_law.nd rfl (Or.inl rfl) (pe_call (ok__law_made T) (hr.mono (by decide)) (by rfl) T.g__law_made T.F__law_made.kp T.b__law_made .nil pass0 (pa_cons (pe_callB (r := KG.rSum2 K) (KG.call_sum rfl) (by rfl) T.m_sum bt_sum (pa_cons (pe_lc (own := [("_law_kind", 8)]) (g := gName 8) (tt := tYes) rfl sc_law.nd (pi_tup (pv 5)) (blkOk_by (N := ["_law_script", "_law_k", "_law_box_here", "_law_shares", "_law_many", "_law_some_here", "_law_due", "_law_lap", "_law_kind"]) (sc := defScope s_law) (by decide +kernel)) (fun _ _ _ _ _ => (pg_name (i := 8) sc_law.nd rfl (Or.inl rfl))) (fun _ _ _ _ _ => pts_nil) (fun _ _ _ _ _ => (pe_ix (r := rIxT K) ix_tup (pv 3) (pv 8) (fun _ _ => rfl)))) pa_nil)) (pa_cons (pe_callB (r := KG.rSum2 K) (KG.call_sum rfl) (by rfl) T.m_sum bt_sum (pa_cons (pv 3) pa_nil)) pa_nil))))
      (pss_one (ps_if (pt_cmpR op_ne (pe_callB (r := KG.rRepr K) (KG.call_repr gd hr) (by rfl) T.m_repr bt_repr (pa_cons (pe_call (ok_part T) (hr.mono (by decide)) (by rfl) T.g_part T.F_part.kp T.b_part .nil pass0 (pa_cons (pv 3) (pa_cons (pv 5) pa_nil))) pa_nil)) (pe_callB (r := KG.rRepr K) (KG.call_repr gd hr) (by rfl) T.m_repr bt_repr (pa_cons (pv 6) pa_nil)) (nomark _)) (pss_one (ps_ret pe_bl)) pss_nil))))))))))
      (pss_one (ps_ret pe_bl))), ?_⟩
  refine ⟨_, rfl, a, _, rfl, .inl hS, _, _, rfl, _, _, rfl, ?_⟩
  generalize hM : (if (if (6 : Int) < ((ns.map V.int).length : Int) then (6 : Int) else ((ns.map V.int).length : Int)) > 1 then (if (6 : Int) < ((ns.map V.int).length : Int) then (6 : Int) else ((ns.map V.int).length : Int)) else (1 : Int)) = M
  have hM1 : 1 ≤ M ∧ M ≤ 6 := by
    rw [← hM]
    split <;> split <;> omega
  refine ⟨M, rfl, by omega, by omega, for_range (n := M.toNat) (fun i σ H' => ∃ y1 y2 y3 y4 y5 y6 y7 y8, σ = [some (.ref a), y1, y2, y3, y4, y5, y6, y7, y8] ∧ Same H H') ⟨_, _, _, _, _, _, _, _, rfl, Same.refl _⟩ ?_ ?_⟩
  · rintro i σ H1 hi ⟨y1, y2, y3, y4, y5, y6, y7, y8, rfl, s1⟩
    refine ⟨_, rfl, _, rfl, a, ns, i, by rw [Int.zero_add]; rfl, s1.seq hS, fun H2 b n s2 hb eb => ?_⟩
    refine ⟨_, rfl, b, n, 5, 9, rfl, eb, by decide, by decide, by decide, by decide, fun H3 p n3 ss k3 e3 hp ep l1 l2 hss => ?_⟩
    have g : Good ss := ⟨l1, by omega, hss⟩
    have sb := g.sum_pos
    have hb0 : H b = none := s1.free hb
    have s13 : Same H H3 := fun x o e => k3 x o (ne_of_none e hb0) (s2 x o (s1 x o e))
    refine ⟨_, rfl, p, ss, rfl, ep, g, fun H4 s4 => ?_⟩
    have shs : KG.ShowOk (.int ss.sum) := sh_int (log_small (by omega))
    refine ⟨_, _, rfl, .int ss.sum, shs, _, rfl, p, ss, rfl, .inr (.inl (.inl (s4 p _ ep))), _, _, rfl, .int ss.sum, shs, rfl, _, rfl, iteNS rfl ?_⟩
    have ep4 := s4 p _ ep
    have eb4 := s4 b _ e3
    refine ⟨_, rfl, p, _, rfl, .inr (.inl (.inl ep4)), ?_⟩
    have elen : ((ss.map V.int).length : Int) = (ss.length : Int) := by rw [List.length_map]
    rw [elen]
    refine ⟨Nat.zero_le _, fun q0 h0 => ⟨_, rfl, _, rfl, RgOk.of_le (by omega) (by omega) (by omega) (by omega), fun q1 h1 => ⟨sz2, fun L hL => ?_⟩⟩⟩
    generalize hH7 : upd (upd (upd H4 q0 (.tup [])) q1 (.tup (rgV 0 (ss.length : Int)))) L (.lst [.ref q0, .ref q1]) = H7
    have s47 : Same H4 H7 := by
      rw [← hH7]
      exact ((same_new h0).trans (same_new h1)).trans (same_new hL)
    have kq0 : KindsAt ss.length H7 q0 := by
      refine ⟨[], ?_, by decide, .nil, fun k hk => nomatch hk⟩
      rw [← hH7]
      exact same_new hL _ _ (same_new h1 _ _ upd_same)
    have kq1 : KindsAt ss.length H7 q1 := by
      refine rg_kinds (by omega) ?_
      rw [← hH7]
      exact same_new hL _ _ upd_same
    have eL : H7 L = some (.lst [.ref q0, .ref q1]) := by rw [← hH7]; exact upd_same
    have eb7 := s47 b _ eb4
    refine ⟨4, rfl, by decide, by decide, fun D hD => ?_⟩
    have hDb : D ≠ b := fun z => by rw [z, eb7] at hD; exact nomatch hD
    refine lc_range (n := 4) (fun j H' => ∃ (qs : List Addr) (n' : Int), H' D = some (.lst (qs.map V.ref)) ∧ qs.length = j ∧ (∀ x ∈ qs, KindsAt ss.length H' x) ∧ H' b = some (.lst [.int n']) ∧ Kp b H7 H') ?_ ?_ ?_
    · exact ⟨[], n3, upd_same, rfl, (fun x hx => nomatch hx), by rw [upd_ne hDb.symm]; exact eb7, Kp.of (same_new hD)⟩
    · rintro j H8 hj ⟨qs, n', eD, el, hq, eb8, kp8⟩
      refine ⟨rfl, yesT ⟨_, rfl, _, rfl, b, n', ss.length, rfl, eb8, by omega, by omega, fun H9 x n9 ks k9 e9 hx ex kl kr kk => ⟨qs.map V.ref, k9 D _ hDb eD, ?_, qs ++ [x], n9, ?_, ?_, ?_, ?_, ?_⟩⟩⟩
      · rw [List.length_map]; exact small1000 (by omega)
      · rw [upd_same, List.map_append]; rfl
      · rw [List.length_append, el]; rfl
      · intro z hz
        have base8 : KindsAt ss.length H9 z := by
          rcases List.mem_append.mp hz with hz | hz
          · exact (hq z hz).kp eb8 k9
          · rw [List.mem_singleton] at hz
            subst hz
            exact ⟨ks, ex, by omega, kr, kk⟩
        obtain ⟨ks', e', r'⟩ := base8
        have nz : z ≠ D := fun w => by
          rw [w, k9 D _ hDb eD] at e'
          exact nomatch e'
        exact ⟨ks', by rw [upd_ne nz]; exact e', r'⟩
      · rw [upd_ne hDb.symm]; exact e9
      · intro x' o na ea
        rw [upd_ne (ne_of_none ea hD)]
        exact k9 x' o na (kp8 x' o na ea)
    · rintro H8 ⟨qs, n', eD, el, hq, eb8, kp8⟩
      have nLb : L ≠ b := fun z => by rw [z] at hL; rw [same_new h1 _ _ (same_new h0 _ _ eb4)] at hL; exact nomatch hL
      refine ⟨L, D, _, _, rfl, rfl, kp8 L _ nLb eL, eD, ?_, fun A9 hA9 => ?_⟩
      · rw [List.length_map, el]; show 2 + 4 ≤ sizeLine; decide
      have kp : Kp b H4 (upd H8 A9 (.lst ([.ref q0, .ref q1] ++ qs.map V.ref))) := (Kp.of s47).trans (kp8.trans (Kp.of (same_new hA9)))
      generalize hH9 : upd H8 A9 (.lst ([.ref q0, .ref q1] ++ qs.map V.ref)) = H9 at kp ⊢
      have s89 : Same H8 H9 := by rw [← hH9]; exact same_new hA9
      have eA : H9 A9 = some (.lst ((q0 :: q1 :: qs).map V.ref)) := by rw [← hH9]; exact upd_same
      have hall : ∀ z ∈ q0 :: q1 :: qs, KindsAt ss.length H9 z := fun z hz => by
        rcases List.mem_cons.mp hz with rfl | hz
        · exact (kq0.kp eb7 kp8).mono s89
        · rcases List.mem_cons.mp hz with rfl | hz
          · exact (kq1.kp eb7 kp8).mono s89
          · exact (hq z hz).mono s89
      have npb : p ≠ b := ne_of ep e3 (by intro z; cases z)
      have ep9 : H9 p = some (.tup (ss.map V.int)) := kp p _ npb ep4
      have s09 : Same H H9 := fun x o e => kp x o (ne_of_none e hb0) (s4 x o (s13 x o e))
      refine ⟨A9, rfl, ⟨_, .inl (.inl eA)⟩, for_list (xs := (q0 :: q1 :: qs).map V.ref) (fun j σ' H' => ∃ y5 y6 y7 y8, σ' = [some (.ref a), some (.int i), some (.ref b), some (.ref p), some (.int ss.length), y5, y6, y7, y8] ∧ Same H9 H') ?_ (fun j σ' H' _ h => ?_) ?_ ?_⟩
      · refine ⟨y5, y6, y7, y8, ?_, Same.refl _⟩
        rw [Int.zero_add]
        rfl
      · obtain ⟨_, _, _, _, _, s9⟩ := h
        exact .inl (.inl (s9 _ _ eA))
      · rintro j x σ' H10 hx ⟨y5, y6, y7, y8, rfl, s9⟩
        rw [List.getElem?_map] at hx
        cases hz : (q0 :: q1 :: qs)[j]? with
        | none => rw [hz] at hx; exact nomatch hx
        | some z =>
          rw [hz] at hx
          cases hx
          obtain ⟨ks, ek, kl, kr, kk⟩ := (hall z (List.mem_of_getElem? hz)).mono s9
          have ep10 := s9 _ _ ep9
          -- the due fraction
          refine ⟨_, rfl, z, rfl, ⟨_, .inl (.inl ek)⟩, fun D2 hD2 => ?_⟩
          refine lc_tup (xs := ks.map V.int) (fun m H' => Same H10 H' ∧ H' D2 = some (.lst ((pick ss (ks.take m)).map V.int))) ⟨same_new hD2, upd_same⟩ (fun m H' _ h => .inl (.inl (h.1 z _ ek))) ?_ ?_
          · rintro m y H' hm ⟨sm, eD2⟩
            rw [List.getElem?_map] at hm
            cases hz2 : ks[m]? with
            | none => rw [hz2] at hm; exact nomatch hm
            | some k =>
              rw [hz2] at hm
              cases hm
              have hk := kk k (List.mem_of_getElem? hz2)
              have hm' := (List.getElem?_eq_some_iff.mp hz2).1
              refine ⟨rfl, yesT ⟨_, rfl, _, rfl, p, _, k, _, rfl, rfl, .inl (.inl (sm p _ ep10)), at_kind hk.1 hk.2, (pick ss (ks.take m)).map V.int, eD2, ?_, ?_, ?_⟩⟩
              · rw [List.length_map, pick, List.length_map, List.length_take]; exact small1000 (by omega)
              · intro b' o eb'
                rw [upd_ne (ne_of_none eb' hD2)]
                exact sm b' o eb'
              · rw [upd_same, List.take_add_one, hz2, pick, pick, List.map_append, List.map_append]
                rfl
          · rintro H11 ⟨s11, eD2⟩
            rw [List.length_map, List.take_length] at eD2
            have ep11 := s11 _ _ ep10
            have pb := sum_bounds (pick_bounds g kk)
            have pl : (pick ss ks).length = ks.length := by rw [pick, List.length_map]
            refine ⟨D2, pick ss ks, rfl, .inl (.inl (.inl eD2)), _, rfl, p, ss, rfl, .inr (.inl (.inl ep11)), _, ss.sum, rfl, sb.1, small_log' (by omega) (by omega), fun H12 pd s12 hpd epd => ?_⟩
            refine ⟨_, rfl, _, rfl, p, z, ss, ks, rfl, s12 _ _ ep11, g, s12 _ _ (s11 _ _ ek), kl, kr, kk, fun H13 pp s13' hpp epp => ?_⟩
            have lows := low_small (t := (pick ss ks).sum) (b := ss.sum) (by omega) sb.1 (by omega)
            refine ⟨_, _, rfl, .tup (.inl (.inl epp)) (.cons (.int _) (.cons (.int _) .nil)), sh_two lows.1 lows.2, _, rfl, _, _, rfl, .tup (.inl (.inl (s13' _ _ epd))) (.cons (.int _) (.cons (.int _) .nil)), sh_two lows.1 lows.2, rfl, _, rfl, iteNS rfl ?_⟩
            exact ⟨_, _, _, _, rfl, ((s9.trans s11).trans s12).trans s13'⟩
      · rintro σ' H10 ⟨y5, y6, y7, y8, rfl, s9⟩
        exact ⟨_, _, _, _, _, _, _, _, rfl, s09.trans s9⟩
  · rintro σ H1 _
    exact q _
end
end KGX

namespace KGX
open PySem PySem.Spec PyProof.Rows L2
theorem all_mk {l : PySem.W.OpenLaw} {w : World} {K : PySem.W.Frag} {h : Heap} {mg : Str → Option Value} {fa : Addr} (X : K.In h) (G : h.Ns mainGlobals mg) (hfa : mg "law" = some (.ref fa))
    {f0 : Addr} {od0 an0 : Option Addr} {sl0 : Array (Option Value)} {oc0 kV0 dc0 pm0 cd0 ct0 : Value} {f1 : Addr} {od1 an1 : Option Addr} {sl1 : Array (Option Value)} {oc1 kV1 dc1 pm1 cd1 ct1 : Value} {f2 : Addr} {od2 an2 : Option Addr} {sl2 : Array (Option Value)} {oc2 kV2 dc2 pm2 cd2 ct2 : Value} {f3 : Addr} {od3 an3 : Option Addr} {sl3 : Array (Option Value)} {oc3 kV3 dc3 pm3 cd3 ct3 : Value} {f4 : Addr} {od4 an4 : Option Addr} {sl4 : Array (Option Value)} {oc4 kV4 dc4 pm4 cd4 ct4 : Value} {f5 : Addr} {od5 an5 : Option Addr} {sl5 : Array (Option Value)} {oc5 kV5 dc5 pm5 cd5 ct5 : Value} {f6 : Addr} {od6 an6 : Option Addr} {sl6 : Array (Option Value)} {oc6 kV6 dc6 pm6 cd6 ct6 : Value} {f7 : Addr} {od7 an7 : Option Addr} {sl7 : Array (Option Value)} {oc7 kV7 dc7 pm7 cd7 ct7 : Value} {f8 : Addr} {od8 an8 : Option Addr} {sl8 : Array (Option Value)} {oc8 kV8 dc8 pm8 cd8 ct8 : Value} {f9 : Addr} {od9 an9 : Option Addr} {sl9 : Array (Option Value)} {oc9 kV9 dc9 pm9 cd9 ct9 : Value} {f10 : Addr} {od10 an10 : Option Addr} {sl10 : Array (Option Value)} {oc10 kV10 dc10 pm10 cd10 ct10 : Value} {f11 : Addr} {od11 an11 : Option Addr} {sl11 : Array (Option Value)} {oc11 kV11 dc11 pm11 cd11 ct11 : Value} {f12 : Addr} {od12 an12 : Option Addr} {sl12 : Array (Option Value)} {oc12 kV12 dc12 pm12 cd12 ct12 : Value} {f13 : Addr} {od13 an13 : Option Addr} {sl13 : Array (Option Value)} {oc13 kV13 dc13 pm13 cd13 ct13 : Value} {f14 : Addr} {od14 an14 : Option Addr} {sl14 : Array (Option Value)} {oc14 kV14 dc14 pm14 cd14 ct14 : Value} {f15 : Addr} {od15 an15 : Option Addr} {sl15 : Array (Option Value)} {oc15 kV15 dc15 pm15 cd15 ct15 : Value} {f16 : Addr} {od16 an16 : Option Addr} {sl16 : Array (Option Value)} {oc16 kV16 dc16 pm16 cd16 ct16 : Value} {f17 : Addr} {od17 an17 : Option Addr} {sl17 : Array (Option Value)} {oc17 kV17 dc17 pm17 cd17 ct17 : Value} {f18 : Addr} {od18 an18 : Option Addr} {sl18 : Array (Option Value)} {oc18 kV18 dc18 pm18 cd18 ct18 : Value} {t_MOST_KINDS : Tok} {t_MOST_SHARE : Tok}
    (a0 : PySem.W.nsIn K mainGlobals "is_whole" = some (some (.ref f0))) (l0 : K.lookup f0 = some ⟨oc0, od0, .func (PySem.W.fnOf "is_whole" "is_whole" (defArgs s_is_whole) (defBody s_is_whole) (defScope s_is_whole) .none kV0 dc0 pm0 an0 cd0 ct0), sl0⟩)
    (c0 : PySem.W.codeIn K cd0 "is_whole" = true) (k0 : PySem.W.keepIn K (.ref f0) = true)
    (a1 : PySem.W.nsIn K mainGlobals "is_whole_within" = some (some (.ref f1))) (l1 : K.lookup f1 = some ⟨oc1, od1, .func (PySem.W.fnOf "is_whole_within" "is_whole_within" (defArgs s_is_whole_within) (defBody s_is_whole_within) (defScope s_is_whole_within) .none kV1 dc1 pm1 an1 cd1 ct1), sl1⟩)
    (c1 : PySem.W.codeIn K cd1 "is_whole_within" = true) (k1 : PySem.W.keepIn K (.ref f1) = true)
    (a2 : PySem.W.nsIn K mainGlobals "greatest_divisor" = some (some (.ref f2))) (l2 : K.lookup f2 = some ⟨oc2, od2, .func (PySem.W.fnOf "greatest_divisor" "greatest_divisor" (defArgs s_greatest_divisor) (defBody s_greatest_divisor) (defScope s_greatest_divisor) .none kV2 dc2 pm2 an2 cd2 ct2), sl2⟩)
    (c2 : PySem.W.codeIn K cd2 "greatest_divisor" = true) (k2 : PySem.W.keepIn K (.ref f2) = true)
    (a3 : PySem.W.nsIn K mainGlobals "lowest" = some (some (.ref f3))) (l3 : K.lookup f3 = some ⟨oc3, od3, .func (PySem.W.fnOf "lowest" "lowest" (defArgs s_lowest) (defBody s_lowest) (defScope s_lowest) .none kV3 dc3 pm3 an3 cd3 ct3), sl3⟩)
    (c3 : PySem.W.codeIn K cd3 "lowest" = true) (k3 : PySem.W.keepIn K (.ref f3) = true)
    (a4 : PySem.W.nsIn K mainGlobals "is_shares" = some (some (.ref f4))) (l4 : K.lookup f4 = some ⟨oc4, od4, .func (PySem.W.fnOf "is_shares" "is_shares" (defArgs s_is_shares) (defBody s_is_shares) (defScope s_is_shares) .none kV4 dc4 pm4 an4 cd4 ct4), sl4⟩)
    (c4 : PySem.W.codeIn K cd4 "is_shares" = true) (k4 : PySem.W.keepIn K (.ref f4) = true)
    (a5 : PySem.W.nsIn K mainGlobals "check_shares" = some (some (.ref f5))) (l5 : K.lookup f5 = some ⟨oc5, od5, .func (PySem.W.fnOf "check_shares" "check_shares" (defArgs s_check_shares) (defBody s_check_shares) (defScope s_check_shares) .none kV5 dc5 pm5 an5 cd5 ct5), sl5⟩)
    (c5 : PySem.W.codeIn K cd5 "check_shares" = true) (k5 : PySem.W.keepIn K (.ref f5) = true)
    (a6 : PySem.W.nsIn K mainGlobals "is_some_kinds" = some (some (.ref f6))) (l6 : K.lookup f6 = some ⟨oc6, od6, .func (PySem.W.fnOf "is_some_kinds" "is_some_kinds" (defArgs s_is_some_kinds) (defBody s_is_some_kinds) (defScope s_is_some_kinds) .none kV6 dc6 pm6 an6 cd6 ct6), sl6⟩)
    (c6 : PySem.W.codeIn K cd6 "is_some_kinds" = true) (k6 : PySem.W.keepIn K (.ref f6) = true)
    (a7 : PySem.W.nsIn K mainGlobals "check_some_kinds" = some (some (.ref f7))) (l7 : K.lookup f7 = some ⟨oc7, od7, .func (PySem.W.fnOf "check_some_kinds" "check_some_kinds" (defArgs s_check_some_kinds) (defBody s_check_some_kinds) (defScope s_check_some_kinds) .none kV7 dc7 pm7 an7 cd7 ct7), sl7⟩)
    (c7 : PySem.W.codeIn K cd7 "check_some_kinds" = true) (k7 : PySem.W.keepIn K (.ref f7) = true)
    (a8 : PySem.W.nsIn K mainGlobals "total" = some (some (.ref f8))) (l8 : K.lookup f8 = some ⟨oc8, od8, .func (PySem.W.fnOf "total" "total" (defArgs s_total) (defBody s_total) (defScope s_total) .none kV8 dc8 pm8 an8 cd8 ct8), sl8⟩)
    (c8 : PySem.W.codeIn K cd8 "total" = true) (k8 : PySem.W.keepIn K (.ref f8) = true)
    (a9 : PySem.W.nsIn K mainGlobals "part" = some (some (.ref f9))) (l9 : K.lookup f9 = some ⟨oc9, od9, .func (PySem.W.fnOf "part" "part" (defArgs s_part) (defBody s_part) (defScope s_part) .none kV9 dc9 pm9 an9 cd9 ct9), sl9⟩)
    (c9 : PySem.W.codeIn K cd9 "part" = true) (k9 : PySem.W.keepIn K (.ref f9) = true)
    (a10 : PySem.W.nsIn K mainGlobals "_law_cell" = some (some (.ref f10))) (l10 : K.lookup f10 = some ⟨oc10, od10, .func (PySem.W.fnOf "_law_cell" "_law_cell" (defArgs s__law_cell) (defBody s__law_cell) (defScope s__law_cell) .none kV10 dc10 pm10 an10 cd10 ct10), sl10⟩)
    (c10 : PySem.W.codeIn K cd10 "_law_cell" = true) (k10 : PySem.W.keepIn K (.ref f10) = true)
    (a11 : PySem.W.nsIn K mainGlobals "_law_mix" = some (some (.ref f11))) (l11 : K.lookup f11 = some ⟨oc11, od11, .func (PySem.W.fnOf "_law_mix" "_law_mix" (defArgs s__law_mix) (defBody s__law_mix) (defScope s__law_mix) .none kV11 dc11 pm11 an11 cd11 ct11), sl11⟩)
    (c11 : PySem.W.codeIn K cd11 "_law_mix" = true) (k11 : PySem.W.keepIn K (.ref f11) = true)
    (a12 : PySem.W.nsIn K mainGlobals "_law_box" = some (some (.ref f12))) (l12 : K.lookup f12 = some ⟨oc12, od12, .func (PySem.W.fnOf "_law_box" "_law_box" (defArgs s__law_box) (defBody s__law_box) (defScope s__law_box) .none kV12 dc12 pm12 an12 cd12 ct12), sl12⟩)
    (c12 : PySem.W.codeIn K cd12 "_law_box" = true) (k12 : PySem.W.keepIn K (.ref f12) = true)
    (a13 : PySem.W.nsIn K mainGlobals "_law_take" = some (some (.ref f13))) (l13 : K.lookup f13 = some ⟨oc13, od13, .func (PySem.W.fnOf "_law_take" "_law_take" (defArgs s__law_take) (defBody s__law_take) (defScope s__law_take) .none kV13 dc13 pm13 an13 cd13 ct13), sl13⟩)
    (c13 : PySem.W.codeIn K cd13 "_law_take" = true) (k13 : PySem.W.keepIn K (.ref f13) = true)
    (a14 : PySem.W.nsIn K mainGlobals "_law_drawn_shares" = some (some (.ref f14))) (l14 : K.lookup f14 = some ⟨oc14, od14, .func (PySem.W.fnOf "_law_drawn_shares" "_law_drawn_shares" (defArgs s__law_drawn_shares) (defBody s__law_drawn_shares) (defScope s__law_drawn_shares) .none kV14 dc14 pm14 an14 cd14 ct14), sl14⟩)
    (c14 : PySem.W.codeIn K cd14 "_law_drawn_shares" = true) (k14 : PySem.W.keepIn K (.ref f14) = true)
    (a15 : PySem.W.nsIn K mainGlobals "_law_common" = some (some (.ref f15))) (l15 : K.lookup f15 = some ⟨oc15, od15, .func (PySem.W.fnOf "_law_common" "_law_common" (defArgs s__law_common) (defBody s__law_common) (defScope s__law_common) .none kV15 dc15 pm15 an15 cd15 ct15), sl15⟩)
    (c15 : PySem.W.codeIn K cd15 "_law_common" = true) (k15 : PySem.W.keepIn K (.ref f15) = true)
    (a16 : PySem.W.nsIn K mainGlobals "_law_made" = some (some (.ref f16))) (l16 : K.lookup f16 = some ⟨oc16, od16, .func (PySem.W.fnOf "_law_made" "_law_made" (defArgs s__law_made) (defBody s__law_made) (defScope s__law_made) .none kV16 dc16 pm16 an16 cd16 ct16), sl16⟩)
    (c16 : PySem.W.codeIn K cd16 "_law_made" = true) (k16 : PySem.W.keepIn K (.ref f16) = true)
    (a17 : PySem.W.nsIn K mainGlobals "_law_some" = some (some (.ref f17))) (l17 : K.lookup f17 = some ⟨oc17, od17, .func (PySem.W.fnOf "_law_some" "_law_some" (defArgs s__law_some) (defBody s__law_some) (defScope s__law_some) .none kV17 dc17 pm17 an17 cd17 ct17), sl17⟩)
    (c17 : PySem.W.codeIn K cd17 "_law_some" = true) (k17 : PySem.W.keepIn K (.ref f17) = true)
    (a18 : PySem.W.nsIn K mainGlobals "law" = some (some (.ref f18))) (l18 : K.lookup f18 = some ⟨oc18, od18, .func (PySem.W.fnOf "law" "law" (defArgs s_law) (defBody s_law) (defScope s_law) .none kV18 dc18 pm18 an18 cd18 ct18), sl18⟩)
    (c18 : PySem.W.codeIn K cd18 "law" = true) (k18 : PySem.W.keepIn K (.ref f18) = true)
    (z_isinstance : PySem.W.nsIn K mainGlobals "isinstance" = some none)
    (z_int : PySem.W.nsIn K mainGlobals "int" = some none)
    (z_bool : PySem.W.nsIn K mainGlobals "bool" = some none)
    (z_abs : PySem.W.nsIn K mainGlobals "abs" = some none)
    (z_all : PySem.W.nsIn K mainGlobals "all" = some none)
    (z_tuple : PySem.W.nsIn K mainGlobals "tuple" = some none)
    (z_len : PySem.W.nsIn K mainGlobals "len" = some none)
    (z_zip : PySem.W.nsIn K mainGlobals "zip" = some none)
    (z_sum : PySem.W.nsIn K mainGlobals "sum" = some none)
    (z_range : PySem.W.nsIn K mainGlobals "range" = some none)
    (z_divmod : PySem.W.nsIn K mainGlobals "divmod" = some none)
    (z_max : PySem.W.nsIn K mainGlobals "max" = some none)
    (z_min : PySem.W.nsIn K mainGlobals "min" = some none)
    (z_repr : PySem.W.nsIn K mainGlobals "repr" = some none)
    (y_MOST_KINDS : PySem.W.nsIn K mainGlobals "MOST_KINDS" = some (some (.int 5 t_MOST_KINDS)))
    (y_MOST_SHARE : PySem.W.nsIn K mainGlobals "MOST_SHARE" = some (some (.int 9 t_MOST_SHARE))) :
    ∃ fd : FuncData, (∀ (s : Shared) (v : Value), BindsTo s fd ⟨[v], []⟩ [("_law_script", v)]) ∧ ∀ base : Heap, K.In base → base.Ns mainGlobals mg → KG.FnG l.prog w K mg base 6 fa fd ["_law_script"] (sp_law K) := by
  have T : ∃ T : Tx K mg, T.a_law = f18 ∧ T.d_law = PySem.W.fnOf "law" "law" (defArgs s_law) (defBody s_law) (defScope s_law) .none kV18 dc18 pm18 an18 cd18 ct18 := ⟨{
    a_is_whole := f0, d_is_whole := _, F_is_whole := fun_mk (st := s_is_whole) l0 c0 k0, g_is_whole := PySem.W.mg_of X G a0, b_is_whole := (fun_mk (st := s_is_whole) l0 c0 k0).binds (ps := ["thing"]) fun _ _ _ _ _ _ us hl => match us, hl with | [_], _ => rfl,
    a_is_whole_within := f1, d_is_whole_within := _, F_is_whole_within := fun_mk (st := s_is_whole_within) l1 c1 k1, g_is_whole_within := PySem.W.mg_of X G a1, b_is_whole_within := (fun_mk (st := s_is_whole_within) l1 c1 k1).binds (ps := ["thing", "least", "most"]) fun _ _ _ _ _ _ us hl => match us, hl with | [_, _, _], _ => rfl,
    a_greatest_divisor := f2, d_greatest_divisor := _, F_greatest_divisor := fun_mk (st := s_greatest_divisor) l2 c2 k2, g_greatest_divisor := PySem.W.mg_of X G a2, b_greatest_divisor := (fun_mk (st := s_greatest_divisor) l2 c2 k2).binds (ps := ["top", "bottom"]) fun _ _ _ _ _ _ us hl => match us, hl with | [_, _], _ => rfl,
    a_lowest := f3, d_lowest := _, F_lowest := fun_mk (st := s_lowest) l3 c3 k3, g_lowest := PySem.W.mg_of X G a3, b_lowest := (fun_mk (st := s_lowest) l3 c3 k3).binds (ps := ["top", "bottom"]) fun _ _ _ _ _ _ us hl => match us, hl with | [_, _], _ => rfl,
    a_is_shares := f4, d_is_shares := _, F_is_shares := fun_mk (st := s_is_shares) l4 c4 k4, g_is_shares := PySem.W.mg_of X G a4, b_is_shares := (fun_mk (st := s_is_shares) l4 c4 k4).binds (ps := ["thing"]) fun _ _ _ _ _ _ us hl => match us, hl with | [_], _ => rfl,
    a_check_shares := f5, d_check_shares := _, F_check_shares := fun_mk (st := s_check_shares) l5 c5 k5, g_check_shares := PySem.W.mg_of X G a5, b_check_shares := (fun_mk (st := s_check_shares) l5 c5 k5).binds (ps := ["thing"]) fun _ _ _ _ _ _ us hl => match us, hl with | [_], _ => rfl,
    a_is_some_kinds := f6, d_is_some_kinds := _, F_is_some_kinds := fun_mk (st := s_is_some_kinds) l6 c6 k6, g_is_some_kinds := PySem.W.mg_of X G a6, b_is_some_kinds := (fun_mk (st := s_is_some_kinds) l6 c6 k6).binds (ps := ["thing", "shares"]) fun _ _ _ _ _ _ us hl => match us, hl with | [_, _], _ => rfl,
    a_check_some_kinds := f7, d_check_some_kinds := _, F_check_some_kinds := fun_mk (st := s_check_some_kinds) l7 c7 k7, g_check_some_kinds := PySem.W.mg_of X G a7, b_check_some_kinds := (fun_mk (st := s_check_some_kinds) l7 c7 k7).binds (ps := ["thing", "shares"]) fun _ _ _ _ _ _ us hl => match us, hl with | [_, _], _ => rfl,
    a_total := f8, d_total := _, F_total := fun_mk (st := s_total) l8 c8 k8, g_total := PySem.W.mg_of X G a8, b_total := (fun_mk (st := s_total) l8 c8 k8).binds (ps := ["shares"]) fun _ _ _ _ _ _ us hl => match us, hl with | [_], _ => rfl,
    a_part := f9, d_part := _, F_part := fun_mk (st := s_part) l9 c9 k9, g_part := PySem.W.mg_of X G a9, b_part := (fun_mk (st := s_part) l9 c9 k9).binds (ps := ["shares", "some"]) fun _ _ _ _ _ _ us hl => match us, hl with | [_, _], _ => rfl,
    a__law_cell := f10, d__law_cell := _, F__law_cell := fun_mk (st := s__law_cell) l10 c10 k10, g__law_cell := PySem.W.mg_of X G a10, b__law_cell := (fun_mk (st := s__law_cell) l10 c10 k10).binds (ps := ["_law_script", "_law_k"]) fun _ _ _ _ _ _ us hl => match us, hl with | [_, _], _ => rfl,
    a__law_mix := f11, d__law_mix := _, F__law_mix := fun_mk (st := s__law_mix) l11 c11 k11, g__law_mix := PySem.W.mg_of X G a11, b__law_mix := (fun_mk (st := s__law_mix) l11 c11 k11).binds (ps := ["_law_cell_here", "_law_k"]) fun _ _ _ _ _ _ us hl => match us, hl with | [_, _], _ => rfl,
    a__law_box := f12, d__law_box := _, F__law_box := fun_mk (st := s__law_box) l12 c12 k12, g__law_box := PySem.W.mg_of X G a12, b__law_box := (fun_mk (st := s__law_box) l12 c12 k12).binds (ps := ["_law_script", "_law_k"]) fun _ _ _ _ _ _ us hl => match us, hl with | [_, _], _ => rfl,
    a__law_take := f13, d__law_take := _, F__law_take := fun_mk (st := s__law_take) l13 c13 k13, g__law_take := PySem.W.mg_of X G a13, b__law_take := (fun_mk (st := s__law_take) l13 c13 k13).binds (ps := ["_law_box_here", "_law_many"]) fun _ _ _ _ _ _ us hl => match us, hl with | [_, _], _ => rfl,
    a__law_drawn_shares := f14, d__law_drawn_shares := _, F__law_drawn_shares := fun_mk (st := s__law_drawn_shares) l14 c14 k14, g__law_drawn_shares := PySem.W.mg_of X G a14, b__law_drawn_shares := (fun_mk (st := s__law_drawn_shares) l14 c14 k14).binds (ps := ["_law_box_here", "_law_most", "_law_top"]) fun _ _ _ _ _ _ us hl => match us, hl with | [_, _, _], _ => rfl,
    a__law_common := f15, d__law_common := _, F__law_common := fun_mk (st := s__law_common) l15 c15 k15, g__law_common := PySem.W.mg_of X G a15, b__law_common := (fun_mk (st := s__law_common) l15 c15 k15).binds (ps := ["_law_one", "_law_other"]) fun _ _ _ _ _ _ us hl => match us, hl with | [_, _], _ => rfl,
    a__law_made := f16, d__law_made := _, F__law_made := fun_mk (st := s__law_made) l16 c16 k16, g__law_made := PySem.W.mg_of X G a16, b__law_made := (fun_mk (st := s__law_made) l16 c16 k16).binds (ps := ["_law_top", "_law_bottom"]) fun _ _ _ _ _ _ us hl => match us, hl with | [_, _], _ => rfl,
    a__law_some := f17, d__law_some := _, F__law_some := fun_mk (st := s__law_some) l17 c17 k17, g__law_some := PySem.W.mg_of X G a17, b__law_some := (fun_mk (st := s__law_some) l17 c17 k17).binds (ps := ["_law_box_here", "_law_many"]) fun _ _ _ _ _ _ us hl => match us, hl with | [_, _], _ => rfl,
    a_law := f18, d_law := _, F_law := fun_mk (st := s_law) l18 c18 k18, g_law := PySem.W.mg_of X G a18, b_law := (fun_mk (st := s_law) l18 c18 k18).binds (ps := ["_law_script"]) fun _ _ _ _ _ _ us hl => match us, hl with | [_], _ => rfl,
    m_isinstance := PySem.W.mg_none_of X G z_isinstance,
    m_int := PySem.W.mg_none_of X G z_int,
    m_bool := PySem.W.mg_none_of X G z_bool,
    m_abs := PySem.W.mg_none_of X G z_abs,
    m_all := PySem.W.mg_none_of X G z_all,
    m_tuple := PySem.W.mg_none_of X G z_tuple,
    m_len := PySem.W.mg_none_of X G z_len,
    m_zip := PySem.W.mg_none_of X G z_zip,
    m_sum := PySem.W.mg_none_of X G z_sum,
    m_range := PySem.W.mg_none_of X G z_range,
    m_divmod := PySem.W.mg_none_of X G z_divmod,
    m_max := PySem.W.mg_none_of X G z_max,
    m_min := PySem.W.mg_none_of X G z_min,
    m_repr := PySem.W.mg_none_of X G z_repr,
    t_MOST_KINDS := t_MOST_KINDS, c_MOST_KINDS := PySem.W.mg_of X G y_MOST_KINDS,
    t_MOST_SHARE := t_MOST_SHARE, c_MOST_SHARE := PySem.W.mg_of X G y_MOST_SHARE }, rfl, rfl⟩
  obtain ⟨T, e1, e2⟩ := T
  have e := hfa.symm.trans (PySem.W.mg_of X G a18)
  cases e
  have ok : ∀ base : Heap, KG.FnG l.prog w K mg base 6 T.a_law T.d_law ["_law_script"] (sp_law K) := fun base => ok_law T
  rw [e1, e2] at ok
  exact ⟨_, fun s v => .of_eq rfl, fun base _ _ => ok base⟩
end KGX
open PySem PySem.W PyProof.Rows
set_option maxRecDepth 100000 in
set_option maxHeartbeats 0 in
theorem PySem.Challenge.cw_kindsgathered_k03_totals_and_parts_holds : PySem.Challenge.rw_kindsgathered_k03_totals_and_parts.Holds := by
  w_on; o_law; k_head; (case hw => w_witness2)
  k_fill
  refine KG.walkG (l := PySem.Challenge.rw_kindsgathered_k03_totals_and_parts) (n := 63) (k := 6) (x := "_law_script") (sp := KGX.sp_law) rfl (by decide) rfl ⟨rfl, by decide, by decide⟩ (fun w h Y => PySem.W.kIn_of Y) ?F KGX.start_law
  case F =>
    intro w mg fa h KX G hmg
    refine' KGX.all_mk KX G hmg ?a0 ?l0 ?c0 ?k0 ?a1 ?l1 ?c1 ?k1 ?a2 ?l2 ?c2 ?k2 ?a3 ?l3 ?c3 ?k3 ?a4 ?l4 ?c4 ?k4 ?a5 ?l5 ?c5 ?k5 ?a6 ?l6 ?c6 ?k6 ?a7 ?l7 ?c7 ?k7 ?a8 ?l8 ?c8 ?k8 ?a9 ?l9 ?c9 ?k9 ?a10 ?l10 ?c10 ?k10 ?a11 ?l11 ?c11 ?k11 ?a12 ?l12 ?c12 ?k12 ?a13 ?l13 ?c13 ?k13 ?a14 ?l14 ?c14 ?k14 ?a15 ?l15 ?c15 ?k15 ?a16 ?l16 ?c16 ?k16 ?a17 ?l17 ?c17 ?k17 ?a18 ?l18 ?c18 ?k18 ?z_isinstance ?z_int ?z_bool ?z_abs ?z_all ?z_tuple ?z_len ?z_zip ?z_sum ?z_range ?z_divmod ?z_max ?z_min ?z_repr ?y_MOST_KINDS ?y_MOST_SHARE
    (case a0 => k_is)
    (case l0 => k_is)
    (case c0 => k_is)
    (case k0 => k_is)
    (case a1 => k_is)
    (case l1 => k_is)
    (case c1 => k_is)
    (case k1 => k_is)
    (case a2 => k_is)
    (case l2 => k_is)
    (case c2 => k_is)
    (case k2 => k_is)
    (case a3 => k_is)
    (case l3 => k_is)
    (case c3 => k_is)
    (case k3 => k_is)
    (case a4 => k_is)
    (case l4 => k_is)
    (case c4 => k_is)
    (case k4 => k_is)
    (case a5 => k_is)
    (case l5 => k_is)
    (case c5 => k_is)
    (case k5 => k_is)
    (case a6 => k_is)
    (case l6 => k_is)
    (case c6 => k_is)
    (case k6 => k_is)
    (case a7 => k_is)
    (case l7 => k_is)
    (case c7 => k_is)
    (case k7 => k_is)
    (case a8 => k_is)
    (case l8 => k_is)
    (case c8 => k_is)
    (case k8 => k_is)
    (case a9 => k_is)
    (case l9 => k_is)
    (case c9 => k_is)
    (case k9 => k_is)
    (case a10 => k_is)
    (case l10 => k_is)
    (case c10 => k_is)
    (case k10 => k_is)
    (case a11 => k_is)
    (case l11 => k_is)
    (case c11 => k_is)
    (case k11 => k_is)
    (case a12 => k_is)
    (case l12 => k_is)
    (case c12 => k_is)
    (case k12 => k_is)
    (case a13 => k_is)
    (case l13 => k_is)
    (case c13 => k_is)
    (case k13 => k_is)
    (case a14 => k_is)
    (case l14 => k_is)
    (case c14 => k_is)
    (case k14 => k_is)
    (case a15 => k_is)
    (case l15 => k_is)
    (case c15 => k_is)
    (case k15 => k_is)
    (case a16 => k_is)
    (case l16 => k_is)
    (case c16 => k_is)
    (case k16 => k_is)
    (case a17 => k_is)
    (case l17 => k_is)
    (case c17 => k_is)
    (case k17 => k_is)
    (case a18 => k_is)
    (case l18 => k_is)
    (case c18 => k_is)
    (case k18 => k_is)
    (case z_isinstance => k_is)
    (case z_int => k_is)
    (case z_bool => k_is)
    (case z_abs => k_is)
    (case z_all => k_is)
    (case z_tuple => k_is)
    (case z_len => k_is)
    (case z_zip => k_is)
    (case z_sum => k_is)
    (case z_range => k_is)
    (case z_divmod => k_is)
    (case z_max => k_is)
    (case z_min => k_is)
    (case z_repr => k_is)
    (case y_MOST_KINDS => k_is)
    (case y_MOST_SHARE => k_is)
