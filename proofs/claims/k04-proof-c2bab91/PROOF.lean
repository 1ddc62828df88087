import PyProof.Rows.All
import Wide.All
import OpenK.AllK
import Wide.FinOn
import HandS.ForMost
import HandS.Wide
import HandS.WideBits
import HandS.IsInst
import HandS.TupMul
import HandS.TupAny
import HandS.Conv
import HandS.Zip
import HandS.Walk
import HandS.Evl
import KE.KTupSum
import PyProof.ReprRoads
import PyProof.ReprLen
import KE.KDictDisplayH
import HandS.DictTup
import HandS.NoneIn
import HandS.Style
import KE.KeyNested
import KE.KDictKeyed
import KE.KDictWalk
import HandS.SetFor
import PyProof.Rows.SortShell
import HandS.Sort
import KE.SortData
import KE.KDictSum
import KE.KDictCopyH
import KE.KEqDict
import KE.GoesEnum
import HandS.ExcCtx
import HandS.HotCalls
import KE.KExcIs
import HandS.TryOnly
import KE.KIndexOf
import KE.KDictOf
import HandS.ExcValue
import HandS.ExcOwn
import HandS.Steps
import KE.GoesComp
import KE.GoesMore
import HandS.Deep
import KE.KRevSl
import KE.KIntText
import KE.DataFind
import HandS.Text
import HandS.Iter
import KE.KSuper
import KE.KExcSuper
import HandS.ExcInit
import HandS.ExcInitHot
import HandS.ExcField
import PySem.Challenge.RW_kindsgathered_k04_shares_written
set_option Elab.async false
set_option linter.all false
set_option maxRecDepth 100000
set_option maxHeartbeats 4000000
namespace KG
open PySem PySem.Spec PyProof.Rows L2

/-! ### defs that run where nothing is being shown -/
structure FnG (P : Program) (w : World) (K : PySem.W.Frag) (mg : Str → Option Value) (base : Heap) (k : Nat) (f : Addr) (fd : FuncData) (ps : List Str) (sp : Sp) : Prop where
  len : ∀ vs H Q E, sp vs H Q E → vs.length = ps.length
  run : ∀ (A : Around) (outer : List Env) (s : Shared) (H : Hp) (args : Args) (us : List Value) (vs : List V) (Q : VK) (E : XK), A.guards = some [] →
    Room k A → Env0 P w K mg base A outer s H → BindsTo s fd args (ps.zip us) → Vals vs us → sp vs H Q E → codeAny (model P w) A (.call (.ref f) args) (CR CX0 outer P w H s Q E) s

section
variable {P : Program} {w : World} {K : PySem.W.Frag} {mg : Str → Option Value} {base : Heap}
theorem okG {x qual : Str} {st : Stmt} {f : Addr} {fd : FuncData} {N ps : List Str} {k : Nat} {sp : Sp} (F : Fun K x qual st f fd) (S : FnScope N ps (defScope st))
    (len : ∀ vs H Q E, sp vs H Q E → vs.length = ps.length)
    (hb : ∀ (cdv : Value) (A : Around) (outer : List Env) (s : Shared) (H : Hp) (vs : List V) (Q : VK) (E : XK), A.guards = some [] →
      Room k (A.deeper (envOfC qual (defScope st) s.heap.objs.size f cdv)) → sp vs H Q E →
      ∃ t, PSs (cxOf CX0 P w K mg base N qual (defScope st) f cdv A outer s H E).nox (defBody st) t ∧ t { nx := fun _ H' => Q .non H', rt := Q } (start N vs) H) :
    FnG P w K mg base (k + 1) f fd ps sp := by
  obtain ⟨oc, od, kV, doc, pm, an, cdv, ct, osl, rfl, lk, hcd⟩ := F.ex
  refine ⟨len, ?_⟩
  intro A outer s H args us vs Q E hg hr e0 hbi r hsp
  -- the same as the layer's own rule, at this around alone
  have T : FnOk P w K mg base CX0 (k + 1) f (PySem.W.fnOf x qual (defArgs st) (defBody st) (defScope st) .none kV doc pm an cdv ct) ps sp ∨ True := .inr trivial
  clear T
  have hl := len _ _ _ _ hsp
  have keep : ∀ b o, base.get? b = some o → s.heap.get? b = some o := fun b o e => (e0.bs b o e).1
  have KX := e0.mod.kin.keeps keep
  have lim := e0.mod.nolimit.keeps keep
  obtain ⟨t, ht, hq⟩ := hb cdv A outer s H vs Q E hg (hr.deeper _) hsp
  have hkind : ∀ y ∈ ps.zip us, (defScope st).names.lookup y.1 = some .local ∨
      ((defScope st).names.lookup y.1 = some .cell ∧ ((cellsFrom (s.heap.objs.size + 1) (defScope st).names []).lookup y.1).isSome = true) := by
    rintro ⟨n, v⟩ hy
    cases S.par n (List.of_mem_zip hy).1 with
    | inl q => exact .inl q
    | inr q => exact .inr ⟨q, PySem.W.cellsFrom_some _ _ _ (.inl q)⟩
  refine codeAny_call_function hr.depth (KX _ _ lk) rfl S.co S.gen rfl (PySem.W.codeRec_of KX hcd) (hbi _ _ _ _ (wpAny_newFunctionEnv_cells S.kind hkind ?_))
  rintro env rfl s1 x1
  refine ⟨lim.keeps x1.toInCall.keep, codeAny_func ?_⟩
  have I : Inv (cxOf CX0 P w K mg base N qual (defScope st) f cdv A outer s H E) [] (start N vs) H s1 := inv_start S hr.hd e0 hl r x1
  refine wpAny_mono (ht.nox.run [] s1 (start N vs) H _ I hq) ?_ fun _ _ z => z
  intro fl s' hs
  match fl, hs with
  | .ret u, ⟨v, σ', H', J, rv, q⟩ => exact ⟨v, H', J.os, J.bare, J.base, J.hok, rv, q⟩
  | .next, ⟨σ', H', J, q⟩ => exact ⟨V.non, H', J.os, J.bare, J.base, J.hok, (show Value.none = Value.none from rfl), q⟩
  | .brk, ⟨_, _, _, q⟩ => exact q.elim
  | .cont, ⟨_, _, _, q⟩ => exact q.elim
/-- a def that asks for nothing of the kind -/
theorem FnG.of {f : Addr} {fd : FuncData} {ps : List Str} {k : Nat} {sp : Sp} (F : FnOk P w K mg base CX0 k f fd ps sp) : FnG P w K mg base k f fd ps sp :=
  ⟨F.len, fun A outer s H args us vs Q E _ hr e hb r h => F.run A outer s H args us vs Q E hr e hb r h⟩
end
section
variable {X : Cx} {f : Addr} {fd : FuncData} {ps : List Str} {k : Nat} {sp : Sp} {x : Str} {p pos : Pos} {e : Expr} {es : List Expr} {t : TA} {ds : List Value} {dvs : List V} {E : XK}
theorem pe_callG (F : FnG X.prog X.w X.K X.mg X.base k f fd ps sp) (gd : X.A.guards = some []) (hr : Room k X.A) (hg : Gl X x) (hm : X.mg x = some (.ref f)) (hk : PySem.W.keepIn X.K (.ref f) = true) (hb : Binds X.K fd ps ds)
    (hd : Vals dvs ds) (ha : PA X (e :: es) t) (hdb : (x == ("__debug__" : Str)) = false := by decide) (he : starEach (e :: es) X.env = (false, eval e X.env) :: starEach es X.env := by rfl)
    (hpl : (backTo pos (starEach es X.env)).any (·.1) = false := by rfl) : PE X (.Call (.Name x p) (e :: es) [] pos) (tCall sp dvs E0 t) := by
  constructor
  intro pins s σ H Q I h
  refine wpAny_Call_Name_kw (ld_glob I hg hm (PySem.W.callWith_K (h₀ := X.base) I.ok.mod.kin hk (thn (ha.run pos pins s σ H _ I h) ?_) he hpl) hdb)
  rintro us s1 ⟨vs, H1, I1, r, q⟩
  refine ⟨I1.kIn, ?_⟩
  have r2 : Vals (vs ++ dvs) (us ++ ds) := r.append hd
  have hl : (us ++ ds).length = ps.length := r2.length ▸ F.len _ _ _ _ q
  refine wpAny_call (codeAny_mono (F.run X.A X.stack s1 H1 ⟨us, []⟩ (us ++ ds) (vs ++ dvs) Q E0 gd hr I1.env0 (hb s1 us I1.kIn hl) r2 q) ?_)
  intro r s' hq
  match r, hq with
  | .ok (.ret u), hq => exact I1.after hq
/-- data that can be shown -/
def ShowOk (d : PyData) : Prop := d.showable = true ∧ d.hasDict = false ∧ d.depth ≤ 20 ∧ d.shown.length ≤ sizeLine
/-- repr of data: its text -/
def rRepr (K : PySem.W.Frag) : List V → Hp → VK → Prop := fun xs H Q => ∃ x d, xs = [x] ∧ Dp K H x d ∧ ShowOk d ∧ Q (.str d.shown) H
theorem call_repr {k : Nat} (gd : X.A.guards = some []) (hr : Room k X.A) : CallR X (.builtin "repr") (rRepr X.K) := by
  intro pins s σ H xs us Q I r h
  obtain ⟨x, d, rfl, hd, ⟨hs, hn, hz, hl⟩, q⟩ := h
  obtain ⟨u, rfl, ru⟩ := vals1 r
  have un := hr.un
  cases hd with
  | non => cases (show u = Value.none from ru); exact PySem.P.repr_of_none ⟨.str _, H, I.tok _, ⟨_, rfl⟩, q⟩
  | bl b => cases (show u = Value.bool b from ru); exact PySem.P.repr_of_bool ⟨.str _, H, I.tok _, ⟨_, rfl⟩, q⟩
  | int i => obtain ⟨t, rfl⟩ := (show ∃ t, u = Value.int i t from ru); exact PySem.P.repr_of_int (of_decide_eq_true hs) ⟨.str _, H, I.tok _, ⟨_, rfl⟩, q⟩
  | str y => obtain ⟨t, rfl⟩ := (show ∃ t, u = Value.str y t from ru); exact PySem.P.repr_of_str ⟨.str _, H, I.tok _, ⟨_, rfl⟩, q⟩ hl
  | @lst a ys ds h1 h2 =>
    cases (show u = Value.ref a from ru)
    obtain ⟨as, rd⟩ := Dp.reads I _ (.ref a) (.ref a) (.lst h1 h2) rfl
    exact repr_of_reads' rd hs (PyData.noDict_hsm hn) gd (by omega) (fun _ _ z => z) (fun h' u tk hk => ⟨.str _, H, I.kept hk, ⟨_, rfl⟩, q⟩) hl
  | @tup a ys ds h1 h2 =>
    cases (show u = Value.ref a from ru)
    obtain ⟨as, rd⟩ := Dp.reads I _ (.ref a) (.ref a) (.tup h1 h2) rfl
    exact repr_of_reads' rd hs (PyData.noDict_hsm hn) gd (by omega) (fun _ _ z => z) (fun h' u tk hk => ⟨.str _, H, I.kept hk, ⟨_, rfl⟩, q⟩) hl
/-- sum of a list or a tuple of ints -/
def rSum2 (K : PySem.W.Frag) : List V → Hp → VK → Prop := fun vs H Q => ∃ (a : Addr) (ns : List Int), vs = [V.ref a] ∧ (SqL K H a (ns.map V.int) ∨ SqT K H a (ns.map V.int)) ∧ Q (.int ns.sum) H
theorem call_sum (hc : X.calm = true) : CallR X (.builtin "sum") (rSum2 X.K) := by
  intro pins s σ H vs us Q I r h
  obtain ⟨a, ns, rfl, hs | hs, q⟩ := h
  · exact cr_sum hc pins s σ H _ us Q I r ⟨a, ns, rfl, hs, q⟩
  · obtain ⟨its, rv, ht, _⟩ := I.tuple hs
    rw [Vals.ref1 r]
    obtain ⟨ys, e⟩ := rv.ints.allInts.items
    have hn : numsOf (intItems ys).toList = ns := by rw [← e]; exact rv.ints.numsOf
    rw [nums_intItems] at hn
    rw [e] at ht
    refine PySem.W.ktm_sumG (I.ok.hd hc) ht fun h' tk t' hk => ?_
    rw [preSum_eq, List.take_of_length_le (by simp), hn]
    exact ⟨.int _, H, I.kept hk, ⟨_, rfl⟩, q⟩
end
end KG

namespace KG
open PySem PySem.Spec PyProof.Rows L2
/-! ### the end of a law whose defs run where nothing is being shown -/
section
variable {P : Program} {w : World} {K : PySem.W.Frag} {mg mb : Str → Option Value} {k : Nat} {fa a : Addr} {fd : FuncData} {x : Str} {sp : Sp} {s₁ : Shared} {vs : List Value} {ns : List Int}
/-- what is asked of the call's end -/
def EndT (s₁ : Shared) : Result → Shared → Prop := fun r s' => r = .ok (.ret (.bool true)) ∧ OldK s₁.heap s'.heap ∧ s'.os = s₁.os ∧ AllBare s'.gens
/-- from an abstract heap that tracks nothing but the script, locked -/
theorem endG_from {H : Hp} (KX : K.In s₁.heap) (hns : s₁.heap.Ns mainGlobals mg) (hb : s₁.heap.Ns builtinsNs mb) (hbb : ∀ y : Str, y ≠ "__name__" → mb y = bootBuiltins y) (hlim : s₁.heap.NoLimit) (hg : s₁.gens = #[])
    (ha : ∃ its n, s₁.heap.get? a = some { cls := .type "list", data := .seq its n }) (hr : Room k callerA)
    (F : ∀ base : Heap, K.In base → base.Ns mainGlobals mg → FnG P w K mg base k fa fd [x] sp) (hbind : ∀ (s : Shared) (u : Value), BindsTo s fd ⟨[u], []⟩ [(x, u)])
    (hO : Only H) (hok : HOk P w H s₁.heap) (hA : ∀ b, H b ≠ none → b = a) (hK : H a ≠ none → K.lookup a = none)
    (hsp : sp [.ref a] H (fun v _ => v = .bl true) fun _ _ _ => False) : codeAny (model P w) callerA (.call (.ref fa) ⟨[.ref a], []⟩) (EndT s₁) s₁ := by
  obtain ⟨its, n, ha⟩ := ha
  have cases2 : ∀ b, H b = none ∨ (b = a ∧ K.lookup a = none) := fun b => by
    by_cases z : H b = none
    · exact .inl z
    · have e := hA b z
      exact .inr ⟨e, hK (e ▸ z)⟩
  have nsK : ∀ {b : Addr} {m : Str → Option Value}, s₁.heap.Ns b m → (hidT s₁.heap H).Ns b m := by
    rintro b m ⟨o, es, ep, e, d, r⟩
    refine ⟨o, es, ep, hidT_get e ?_, d, r⟩
    rcases cases2 b with z | ⟨rfl, _⟩
    · exact z
    · rw [ha] at e
      cases e
      exact nomatch d
  have hKb : K.In (hidT s₁.heap H) := fun b o e => by
    refine hidT_get (KX b o e) ?_
    rcases cases2 b with z | ⟨rfl, z⟩
    · exact z
    · rw [z] at e
      exact nomatch e
  obtain ⟨mc, l1, l2⟩ := hlim
  have hM : Mod K mg (hidT s₁.heap H) := ⟨hKb, nsK hns, ⟨mb, nsK hb, hbb⟩, ⟨mc, nsK l1, l2⟩⟩
  have e0 : Env0 P w K mg (hidT s₁.heap H) callerA [] s₁ H :=
    { frames := rfl, mod := hM, bs := fun b o e => of_hidT e, bsz := Nat.le_of_eq (hidT_size _ _), funs := trivial, frf := (fun b z => nomatch (show b ∈ ([] : List Addr) from z)), hok := hok, bare := .of_eq hg }
  have run := (F _ hKb (nsK hns)).run callerA [] s₁ H ⟨[.ref a], []⟩ [.ref a] [.ref a] (fun v _ => v = .bl true) (fun _ _ _ => False) rfl hr e0 (hbind s₁ (.ref a)) (.cons rfl .nil) hsp
  refine codeAny_mono run ?_
  intro r s' h
  match r, h with
  | .ok (.ret u), ⟨v, H', os, bare, un, hok', r', q⟩ =>
    have q' : v = .bl true := q
    subst q'
    have eu : u = Value.bool true := r'
    subst eu
    refine ⟨rfl, OldK.of_keep ?_, os, bare⟩
    intro b o e
    rcases hO b with z | ⟨ob, xs, z⟩
    · exact un.keep b o e z (fun y => nomatch (show b ∈ ([] : List Addr) from y)) (fun y => nomatch y)
    · have e1 := (hok b _ z).1
      have e2 := (hok' b _ (un.frzs b ob _ z)).1
      rw [e] at e1
      cases e1
      exact e2
theorem endG (KX : K.In s₁.heap) (hns : s₁.heap.Ns mainGlobals mg) (hb : s₁.heap.Ns builtinsNs mb) (hbb : ∀ y : Str, y ≠ "__name__" → mb y = bootBuiltins y) (hlim : s₁.heap.NoLimit) (hg : s₁.gens = #[])
    (ha : s₁.heap.get? a = some { cls := .type "list", data := .seq vs.toArray }) (hi : IntsAre vs ns) (hl : ns.length ≤ sizeLine) (hr : Room k callerA)
    (F : ∀ base : Heap, K.In base → base.Ns mainGlobals mg → FnG P w K mg base k fa fd [x] sp) (hbind : ∀ (s : Shared) (u : Value), BindsTo s fd ⟨[u], []⟩ [(x, u)])
    (hsp : ∀ H : Hp, Only H → SqL K H a (ns.map V.int) → sp [.ref a] H (fun v _ => v = .bl true) fun _ _ _ => False) :
    codeAny (model P w) callerA (.call (.ref fa) ⟨[.ref a], []⟩) (EndT s₁) s₁ := by
  have rv := vals_ints hi
  cases hk : K.lookup a with
  | some o =>
    have e := KX a o hk
    rw [ha] at e
    cases e
    have sq : SqL K (fun _ => none) a (ns.map V.int) := .inr ⟨_, vs.toArray, _, hk, rfl, rfl, rfl, by rw [List.size_toArray, hi.length]; exact hl, by simpa using rv⟩
    have only : Only (fun _ => none) := fun _ => .inl rfl
    exact endG_from KX hns hb hbb hlim hg ⟨_, _, ha⟩ hr F hbind only (fun b u z => nomatch (show (none : Option HO) = some u from z)) (fun b z => (z rfl).elim) (fun z => (z rfl).elim) (hsp _ only sq)
  | none =>
    let H0 : Hp := upd (fun _ => none) a (.frz { cls := .type "list", data := .seq vs.toArray } (.lst (ns.map V.int)))
    have at0 : H0 a = some (.frz { cls := .type "list", data := .seq vs.toArray } (.lst (ns.map V.int))) := upd_same
    have off0 : ∀ b, b ≠ a → H0 b = none := fun b z => upd_ne z
    have only : Only H0 := fun b => by
      by_cases z : b = a
      · exact .inr ⟨_, _, z ▸ at0⟩
      · exact .inl (off0 b z)
    refine endG_from KX hns hb hbb hlim hg ⟨_, _, ha⟩ hr F hbind only ?_ ?_ (fun _ => hk) (hsp _ only (.inl (.inr ⟨_, at0⟩)))
    · intro b u z
      by_cases y : b = a
      · subst y
        rw [at0] at z
        cases z
        exact ⟨ha, by rw [List.length_map]; exact hl, vs, _, rv, ha⟩
      · rw [off0 b y] at z
        exact nomatch z
    · intro b z
      by_cases y : b = a
      · exact y
      · exact (z (off0 b y)).elim
end
theorem walkG {l : PySem.W.OpenLaw} {n k : Nat} {q : Program} {loose : List Str} {XP : (Str → Option Value) → Heap → Prop} {YP : World → Heap → Prop} {d : DefRec} {K : Params → PySem.W.Frag} {sp : PySem.W.Frag → Sp} {x : Str}
    (hn : l.most = some n) (hn2 : n ≤ sizeLine) (hdf : d.params.defaults = []) (hr : Room k callerA) (hY : ∀ (w : World) (h : Heap), YP w h → (K w.params).In h)
    (F : ∀ (w : World) (mg : Str → Option Value) (fa : Addr) (h : Heap), (K w.params).In h → h.Ns mainGlobals mg → mg d.name = some (.ref fa) →
      ∃ fd : FuncData, (∀ (s : Shared) (u : Value), BindsTo s fd ⟨[u], []⟩ [(x, u)]) ∧ ∀ base : Heap, (K w.params).In base → base.Ns mainGlobals mg → FnG l.prog w (K w.params) mg base k fa fd [x] (sp (K w.params)))
    (hsp : ∀ (K : PySem.W.Frag) (H : Hp) (a : Addr) (ns : List Int), ns.length ≤ n → Only H → SqL K H a (ns.map V.int) → sp K [.ref a] H (fun v _ => v = .bl true) fun _ _ _ => False) :
    PySem.W.WalkO q loose XP YP l.row.toRowW d [] (fun f vs => PySem.call f vs) := by
  refine Att.attach_call hn hdf ?_
  intro w s₀ s₁ mg mb fa o pm cd doc a vs ns G Y ho hd hcd hmg hobj hints hlen hg
  obtain ⟨fd, hb, hF⟩ := F w mg fa _ (hY w _ Y) G.T.g hmg
  exact endG (hY w _ Y) G.T.g G.T.b G.T.builtins G.T.nolimit hg hobj hints (Nat.le_trans hlen hn2) hr hF hb fun H hO hS => hsp _ H a ns hlen hO hS

/-! ### tuple * int, once too -/
section
variable {X : Cx}
theorem tuple_mul1 (l : Addr) (items : Array Value) (n : Nat) (dd : Option Addr) (sl : Array (Option Value)) (u : Tok) :
    Meets (Builtin.«tuple.__mul__» ⟨[.ref l, .int 1 u], []⟩) (fun _ R s => s.heap.get? l = some { cls := .type "tuple", dict := dd, data := .seq items n, slots := sl } ∧ R (.ok (.ret (Value.ref l))) s) :=
  .of_wp fun prog w A R s h => by
    obtain ⟨hp, g, d, tk, os⟩ := s
    obtain ⟨hl, h⟩ := h
    have f1 := AutoSeq1.idx_int
    have c1 : (items.isEmpty || (1 : Int) == 1) = true := by simp
    wp_walk using wpAny_loadPart' hl
    exact ⟨_, rfl, h⟩
/-- t * k, k from 1 on -/
def rTimes (K : PySem.W.Frag) : R2 := fun x y H Q => ∃ l k xs, x = .ref l ∧ y = .int k ∧ SqT K H l xs ∧ xs ≠ [] ∧ 1 ≤ k ∧ k ≤ 1000 ∧ xs.length ≤ 1000 ∧
  (k = 1 → Q (.ref l) H) ∧ (2 ≤ k → ∀ p, H p = none → Q (.ref p) (upd H p (.tup (List.replicate k.toNat xs).flatten)))
theorem op_times : OpR X (binaryOp .Mult) (rTimes X.K) := by
  intro pins s σ H x y v u Q I rx ry h
  obtain ⟨l, k, xs, rfl, rfl, hT, hne, h1, h2, hz, q1, q2⟩ := h
  by_cases hk : 2 ≤ k
  · exact op_repT pins s σ H _ _ v u Q I rx ry ⟨l, k, xs, rfl, rfl, hT, hne, hk, h2, hz, q2 hk⟩
  · have e1 : k = 1 := by omega
    subst e1
    cases rx
    obtain ⟨t, rfl⟩ := ry
    obtain ⟨its, r, ⟨⟨cls, dd, data, sl⟩, ho, hc, n, hd⟩, hs⟩ := I.tuple hT
    simp only at hc hd
    subst hc hd
    refine wpAny_binaryOp_repeat_ref (T := "tuple") (U := "int") (by decide) ⟨_, ho, rfl⟩ (fun s' => typeIs_int s' 1 t) noFill_tuple_mul F.fills_int_mul F.slot_int_rmul repeat_tuple F.slot_int_index.lookup ?_
    refine call_meets F.slot_int_rmul (typeIs_int s 1 t) F.entry_int_rmul (F.args_int_rmul_2 _ _) (int_rmul_tuple 1 t l its.toArray n dd sl) ?_
    exact ⟨ho, rfl, ⟨_, ho, rfl⟩, call_meets F.slot_tuple_mul ⟨_, ho, rfl⟩ F.entry_tuple_mul (F.args_tuple_mul_2 _ _) (tuple_mul1 l its.toArray n dd sl t) ⟨ho, ⟨.ref l, H, I, rfl, q1 rfl⟩⟩⟩
end
end KG

namespace KGX
open PySem PySem.Spec PyProof.Rows L2
/-! ### words of one's own -/
/-- the type of a value is known -/
def Kn (K : PySem.W.Frag) (H : Hp) : V → Prop
  | .non | .bl _ | .int _ | .str _ => True
  | .ref a => (∃ xs, H a = some (.lst xs)) ∨ (∃ xs, H a = some (.tup xs)) ∨ ∃ kv, H a = some (.dK kv)
  | _ => False
theorem Kn.mono {K : PySem.W.Frag} {H H' : Hp} (e : Same H H') : ∀ {x : V}, Kn K H x → Kn K H' x
  | .non, _ | .bl _, _ | .int _, _ | .str _, _ => trivial
  | .ref a, h => by
    rcases h with ⟨y, z⟩ | ⟨y, z⟩ | ⟨y, z⟩
    · exact .inl ⟨y, e _ _ z⟩
    · exact .inr (.inl ⟨y, e _ _ z⟩)
    · exact .inr (.inr ⟨y, e _ _ z⟩)
def whole : V → Bool
  | .int _ => true
  | _ => false
def within (lo hi : Int) : V → Bool
  | .int i => decide (lo ≤ i) && decide (i ≤ hi)
  | _ => false
/-- the box alone may change -/
def Kp (b : Addr) (H H' : Hp) : Prop := ∀ a o, a ≠ b → H a = some o → H' a = some o
theorem Kp.of {b : Addr} {H H' : Hp} (h : Same H H') : Kp b H H' := fun a o _ e => h a o e
theorem Kp.trans {b : Addr} {H H1 H2 : Hp} (x : Kp b H H1) (y : Kp b H1 H2) : Kp b H H2 := fun a o n e => y a o n (x a o n e)
theorem same_new {H : Hp} {p : Addr} {o : HO} (h : H p = none) : Same H (upd H p o) := fun b x e => by
  rw [upd_ne (ne_of_none e h)]
  exact e
def low (t b : Int) : List V := [.int (t / (Int.gcd t b : Int)), .int (b / (Int.gcd t b : Int))]
/-! ### whole numbers -/
def sp_is_whole (K : PySem.W.Frag) : Sp := fun vs H Q _ => ∃ x, vs = [x] ∧ Kn K H x ∧ Q (.bl (whole x)) H
def sp_is_whole_within (K : PySem.W.Frag) : Sp := fun vs H Q _ => ∃ x lo hi, vs = [x, .int lo, .int hi] ∧ Kn K H x ∧ Q (.bl (within lo hi x)) H
/-! ### the greatest that divides both -/
theorem gcd_step (a b : Int) (ha : 0 ≤ a) (hb : 0 < b) : Int.gcd b (a % b) = Int.gcd a b := by
  obtain ⟨m, rfl⟩ := Int.eq_ofNat_of_zero_le ha
  obtain ⟨n, rfl⟩ := Int.eq_ofNat_of_zero_le (Int.le_of_lt hb)
  show Nat.gcd n (m % n) = Nat.gcd m n
  rw [Nat.gcd_comm n, ← Nat.gcd_rec, Nat.gcd_comm]
def spGcd : Sp := fun vs H Q _ => ∃ a b : Int, vs = [.int a, .int b] ∧ 0 ≤ a ∧ 0 ≤ b ∧ Q (.int (Int.gcd a b : Int)) H
def sp_greatest_divisor : Sp := fun vs H Q _ => ∃ a b : Int, vs = [.int a, .int b] ∧ 0 ≤ b ∧ Q (.int (Int.gcd a b : Int)) H
theorem abs_eq (i : Int) : (if i < 0 then -i else i) = (i.natAbs : Int) := by
  split <;> omega
theorem sz1 : 1 ≤ sizeLine := by decide
theorem sz2 : 2 ≤ sizeLine := by decide
theorem sz3 : 3 ≤ sizeLine := by decide
theorem sz4 : 4 ≤ sizeLine := by decide
/-! ### in lowest terms -/
def spLow : Sp := fun vs H Q _ => ∃ t b : Int, vs = [.int t, .int b] ∧ 0 < b ∧ b.natAbs.log2 < 9000 ∧ ∀ H' p, Same H H' → H p = none → H' p = some (.tup (low t b)) → Q (.ref p) H'
theorem gcd_pos {t b : Int} (h : 0 < b) : (0 : Int) < (Int.gcd t b : Int) := by
  have : 0 < Int.gcd t b := Int.gcd_pos_of_ne_zero_right t (by omega)
  omega
theorem gcd_le {t b : Int} (h : 0 < b) : (Int.gcd t b : Int) ≤ b := by
  have : Int.gcd t b ∣ b.natAbs := Nat.gcd_dvd_right _ _
  have := Nat.le_of_dvd (by omega) this
  omega
theorem log2_mono {a b : Nat} (h : a ≤ b) : a.log2 ≤ b.log2 := by
  by_cases h0 : a = 0
  · subst h0
    exact Nat.le_trans (by decide) (Nat.zero_le _)
  · exact (Nat.le_log2 (by omega)).mpr (Nat.le_trans (Nat.log2_self_le h0) h)
theorem gcd_div {t b : Int} (h : 0 < b) (hl : b.natAbs.log2 < 9000) {i : Int} : CDivW i (Int.gcd t b : Int) := by
  refine ⟨gcd_pos h, Nat.lt_of_le_of_lt (log2_mono ?_) hl⟩
  have := gcd_le (t := t) h
  omega
/-! ### the law's cells -/
def sp__law_cell (K : PySem.W.Frag) : Sp := fun vs H Q _ => ∃ (a : Addr) (ns : List Int) (k : Nat), vs = [.ref a, .int k] ∧ SqL K H a (ns.map V.int) ∧ ∀ v : Int, Q (.int v) H
def sp__law_mix : Sp := fun vs H Q _ => ∃ (c : Int) (k : Nat), vs = [.int c, .int k] ∧ k ≤ 1000 ∧ ∀ H' v, Same H H' → Q (.int v) H'
def spBox (K : PySem.W.Frag) : Sp := fun vs H Q _ => ∃ (a : Addr) (ns : List Int) (k : Nat), vs = [.ref a, .int k] ∧ SqL K H a (ns.map V.int) ∧ ∀ H' b n, Same H H' → H b = none → H' b = some (.lst [.int n]) → Q (.ref b) H'
/-- a digit of the box -/
def spTake : Sp := fun vs H Q _ => ∃ (b : Addr) (n m : Int), vs = [.ref b, .int m] ∧ H b = some (.lst [.int n]) ∧ 0 < m ∧ m.natAbs.log2 < 9000 ∧
  ∀ H' n' d, Kp b H H' → H' b = some (.lst [.int n']) → 0 ≤ d → d < m → Q (.int d) H'
theorem noPy {i m : Int} (h0 : 0 < m) (h : m.natAbs.log2 < 9000) : CDivP i m := by
  refine ⟨h0, ?_⟩
  exact PyProof.noPylong_of_log2 h
theorem yesT {σ : L2.St} {H : Hp} {F G : Hp → Prop} (h : F H) : tYes σ H (fun b H3 => if b = true then F H3 else G H3) := iteT (A := F H) (B := G H) h
theorem Kp.free {b p : Addr} {H H' : Hp} {o : HO} (k : Kp b H H') (e : H' b = some o) (hp : H' p = none) : H p = none := by
  cases q : H p with
  | none => rfl
  | some u =>
    by_cases z : p = b
    · subst z
      rw [hp] at e
      exact nomatch e
    · rw [k p u z q] at hp
      exact nomatch hp
theorem small_log {m : Int} (h : m.natAbs < 2 ^ 60) : m.natAbs.log2 < 9000 := Nat.lt_of_lt_of_le (PySem.Flt.log2_lt_of (by decide) h) (by decide)
theorem small_log' {m : Int} (h0 : 0 ≤ m) (h : m ≤ 100000) : m.natAbs.log2 < 9000 := small_log (Nat.lt_of_le_of_lt (show m.natAbs ≤ 100000 by omega) (by decide))
theorem rep_map (k : Nat) (x : Int) : (List.replicate k [V.int x]).flatten = (List.replicate k x).map V.int := by
  induction k with
  | zero => rfl
  | succ k ih =>
    rw [List.replicate_succ, List.replicate_succ, List.flatten_cons, ih]
    rfl
def spDrawn : Sp := fun vs H Q _ => ∃ (b : Addr) (n most top : Int), vs = [.ref b, .int most, .int top] ∧ H b = some (.lst [.int n]) ∧ 1 ≤ most ∧ most ≤ 100 ∧ 2 ≤ top ∧ top ≤ 1000 ∧
  ∀ H' p n' (ns : List Int), Kp b H H' → H' b = some (.lst [.int n']) → H p = none → H' p = some (.tup (ns.map V.int)) → 1 ≤ ns.length → (ns.length : Int) ≤ most → (∀ x ∈ ns, 1 ≤ x ∧ x ≤ top) → Q (.ref p) H'
theorem menu {top kind : Int} (h1 : 1 ≤ kind) (h2 : kind < 4) (h3 : 2 ≤ top) : ∃ m, atI [V.int top, .int 2, .int top] (kind - 1) = some (.int m) ∧ 0 < m ∧ m ≤ top := by
  rcases (show kind = 1 ∨ kind = 2 ∨ kind = 3 by omega) with rfl | rfl | rfl
  · exact ⟨top, at_of (j := 0) rfl rfl, by omega, by omega⟩
  · exact ⟨2, at_of (j := 1) rfl rfl, by omega, by omega⟩
  · exact ⟨top, at_of (j := 2) rfl rfl, by omega, by omega⟩
/-! ### some kinds, drawn -/
def Rise (ks : List Int) : Prop := ks.Pairwise (· < ·)
theorem rise_add {ks : List Int} {k : Int} (h : Rise ks) (hk : ∀ x ∈ ks, x < k) : Rise (ks ++ [k]) := by
  refine List.pairwise_append.mpr ⟨h, List.pairwise_singleton _ _, fun a ha b hb => ?_⟩
  rw [List.mem_singleton] at hb
  subst hb
  exact hk a ha
def spSome : Sp := fun vs H Q _ => ∃ (b : Addr) (n many : Int), vs = [.ref b, .int many] ∧ H b = some (.lst [.int n]) ∧ 0 ≤ many ∧ many ≤ 100 ∧
  ∀ H' p n' (ks : List Int), Kp b H H' → H' b = some (.lst [.int n']) → H p = none → H' p = some (.tup (ks.map V.int)) → (ks.length : Int) ≤ many → Rise ks → (∀ x ∈ ks, 0 ≤ x ∧ x < many) → Q (.ref p) H'
/-! ### shares -/
def shs (xs : List V) : Bool := decide (1 ≤ xs.length) && decide (xs.length ≤ 5) && xs.all (within 1 9)
def NotTup (H : Hp) : V → Prop
  | .non | .bl _ | .int _ | .str _ => True
  | .ref a => (∃ xs, H a = some (.lst xs)) ∨ ∃ kv, H a = some (.dK kv)
  | _ => False
/-- a thing: a tuple of things whose types are known, or no tuple -/
def Thing (K : PySem.W.Frag) (H : Hp) (x : V) : Prop := (∃ a xs, x = .ref a ∧ H a = some (.tup xs) ∧ (∀ y ∈ xs, Kn K H y)) ∨ NotTup H x
def isShs (H : Hp) : V → Bool
  | .ref a => match H a with
    | some (.tup xs) => shs xs
    | _ => false
  | _ => false
theorem isi_not {K : PySem.W.Frag} {H : Hp} {x : V} (h : NotTup H x) : ∃ t u, ClsV (.ty "tuple") u ∧ TyX K H x t ∧ PySem.W.kitOne K t u = some false := by
  cases x with
  | non => exact ⟨_, _, .ty "tuple", .base .non, kit_ty (by decide +kernel)⟩
  | bl y => exact ⟨_, _, .ty "tuple", .base (.bl y), kit_ty (by decide +kernel)⟩
  | int i => exact ⟨_, _, .ty "tuple", .base (.int i), kit_ty (by decide +kernel)⟩
  | str y => exact ⟨_, _, .ty "tuple", .base (.str y), kit_ty (by decide +kernel)⟩
  | ref a =>
    rcases h with ⟨y, z⟩ | ⟨y, z⟩
    · exact ⟨_, _, .ty "tuple", .base (.lst z), kit_ty (by decide +kernel)⟩
    · exact ⟨_, _, .ty "tuple", .base (.dK z), kit_ty (by decide +kernel)⟩
  | byt y => exact h.elim
  | flt y => exact h.elim
  | ty y => exact h.elim
theorem isShs_not {H : Hp} {x : V} (h : NotTup H x) : isShs H x = false := by
  cases x with
  | ref a => rcases h with ⟨y, z⟩ | ⟨y, z⟩ <;> simp only [isShs, z]
  | _ => rfl
theorem isi_tup {K : PySem.W.Frag} {H : Hp} {a : Addr} {xs : List V} (h : H a = some (.tup xs)) : ∃ t u, ClsV (.ty "tuple") u ∧ TyX K H (.ref a) t ∧ PySem.W.kitOne K t u = some true := ⟨_, _, .ty "tuple", .base (.tup h), kit_ty (by decide +kernel)⟩
def spShares (K : PySem.W.Frag) : Sp := fun vs H Q _ => ∃ x, vs = [x] ∧ Thing K H x ∧ ∀ H', Same H H' → Q (.bl (isShs H x)) H'
theorem walk_zipT {K : PySem.W.Frag} {a b : Addr} {xs ys : List V} : Walk (RZ.ItzT K a b) (min xs.length ys.length) (fun H => SqT K H a xs ∧ SqT K H b ys) (YPair (fun i => xs[i]?) (fun i => ys[i]?)) :=
  ⟨fun i _ hi q => ⟨xs, ys, xs[i]'(by omega), ys[i]'(by omega), q.1, q.2, by simp [show i < xs.length by omega], by simp [show i < ys.length by omega]⟩,
    fun _ q => ⟨xs, ys, q.1, q.2, by omega⟩, fun i H v H' _ q y => by
      obtain ⟨T, x, y, e1, e2, e3, e4, e5⟩ := y
      exact ⟨T, x, y, e1, e2, e3, e4 xs q.1, e5 ys q.2⟩⟩
def ltB : V → V → Bool
  | .int a, .int b => decide (a < b)
  | _, _ => false
def ups (xs : List V) : Bool := (List.zipWith ltB xs (xs.drop 1)).all id
def someK (n : Nat) (xs : List V) : Bool := xs.all (within 0 ((n : Int) - 1)) && ups xs
theorem all_ints {lo hi : Int} : ∀ {xs : List V}, xs.all (within lo hi) = true → ∃ ks : List Int, xs = ks.map V.int ∧ ∀ k ∈ ks, lo ≤ k ∧ k ≤ hi
  | [], _ => ⟨[], rfl, fun _ h => nomatch h⟩
  | x :: xs, h => by
    rw [List.all_cons, Bool.and_eq_true] at h
    obtain ⟨ks, e, hk⟩ := all_ints h.2
    cases x with
    | int i =>
      have h1 : (decide (lo ≤ i) && decide (i ≤ hi)) = true := h.1
      rw [Bool.and_eq_true, decide_eq_true_eq, decide_eq_true_eq] at h1
      refine ⟨i :: ks, by rw [e]; rfl, fun k hk' => ?_⟩
      rcases List.mem_cons.mp hk' with rfl | hk'
      · exact h1
      · exact hk k hk'
    | _ => exact nomatch h.1
theorem ups_rise : ∀ {ks : List Int}, Rise ks → ups (ks.map V.int) = true
  | [], _ => rfl
  | [_], _ => rfl
  | a :: b :: r, h => by
    have h2 := List.pairwise_cons.mp h
    have ih := ups_rise h2.2
    show (ltB (.int a) (.int b) && (List.zipWith ltB ((b :: r).map V.int) (((b :: r).map V.int).drop 1)).all id) = true
    rw [Bool.and_eq_true]
    exact ⟨decide_eq_true (h2.1 b List.mem_cons_self), ih⟩
theorem within_all {ks : List Int} {lo hi : Int} (h : ∀ k ∈ ks, lo ≤ k ∧ k ≤ hi) : (ks.map V.int).all (within lo hi) = true := by
  rw [List.all_map, List.all_eq_true]
  intro k hk
  show (decide (lo ≤ k) && decide (k ≤ hi)) = true
  rw [decide_eq_true (h k hk).1, decide_eq_true (h k hk).2]; rfl
theorem someK_of {n : Nat} {ks : List Int} (h : Rise ks) (hk : ∀ k ∈ ks, 0 ≤ k ∧ k < n) : someK n (ks.map V.int) = true := by
  unfold someK
  rw [ups_rise h, within_all (fun k hk' => ⟨(hk k hk').1, by have := (hk k hk').2; omega⟩)]; rfl
def isSm (H : Hp) (n : Nat) : V → Bool
  | .ref a => match H a with
    | some (.tup xs) => someK n xs
    | _ => false
  | _ => false
theorem isSm_not {H : Hp} {x : V} {n : Nat} (h : NotTup H x) : isSm H n x = false := by
  cases x with
  | ref a => rcases h with ⟨y, z⟩ | ⟨y, z⟩ <;> simp only [isSm, z]
  | _ => rfl
theorem cut_tail (xs : List V) (h : ¬ (HT.sIx xs.length 0 (some 1) = 0 ∧ HT.sIx xs.length xs.length none = xs.length)) : cutV xs (some 1) none = xs.drop 1 ∧ xs ≠ [] := by
  have e1 : HT.sIx xs.length 0 (some 1) = min 1 xs.length := HT.sIx_nat xs.length 0 1
  have e2 : HT.sIx xs.length xs.length none = xs.length := HT.sIx_none _ _
  rw [e1, e2] at h
  unfold cutV
  rw [e1, e2]
  cases xs with
  | nil => exact absurd ⟨rfl, rfl⟩ h
  | cons x r =>
    refine ⟨?_, fun z => nomatch z⟩
    rw [List.length_cons, show min 1 (r.length + 1) = 1 by omega, Nat.add_sub_cancel]
    exact List.take_length
theorem cut_whole (xs : List V) (h : HT.sIx xs.length 0 (some 1) = 0) : xs.length = 0 := by
  have e1 : HT.sIx xs.length 0 (some 1) = min 1 xs.length := HT.sIx_nat xs.length 0 1
  omega
def spChk (K : PySem.W.Frag) : Sp := fun vs H Q _ => ∃ x, vs = [x] ∧ Thing K H x ∧ isShs H x = true ∧ ∀ H', Same H H' → Q .non H'
def spIsSome (K : PySem.W.Frag) : Sp := fun vs H Q _ => ∃ x a ss, vs = [x, .ref a] ∧ H a = some (.tup ss) ∧ ss.length ≤ 1000 ∧ Thing K H x ∧ (∀ c xs, x = .ref c → H c = some (.tup xs) → xs.length ≤ 1000) ∧ ∀ H', Same H H' → Q (.bl (isSm H ss.length x)) H'
def spChkSome (K : PySem.W.Frag) : Sp := fun vs H Q _ => ∃ x a ss, vs = [x, .ref a] ∧ H a = some (.tup ss) ∧ ss.length ≤ 1000 ∧ Thing K H x ∧ (∀ c xs, x = .ref c → H c = some (.tup xs) → xs.length ≤ 1000) ∧ isSm H ss.length x = true ∧ ∀ H', Same H H' → Q .non H'
/-! ### totals and parts of shares -/
/-- shares, as numbers -/
def Good (ns : List Int) : Prop := 1 ≤ ns.length ∧ ns.length ≤ 5 ∧ ∀ x ∈ ns, 1 ≤ x ∧ x ≤ 9
theorem Good.shs {ns : List Int} (h : Good ns) : shs (ns.map V.int) = true := by
  unfold KGX.shs
  rw [List.length_map, decide_eq_true h.1, decide_eq_true h.2.1, within_all h.2.2]; rfl
theorem kn_ints {K : PySem.W.Frag} {H : Hp} {ns : List Int} : ∀ y ∈ ns.map V.int, Kn K H y := fun y hy => by
  obtain ⟨x, _, rfl⟩ := List.mem_map.mp hy
  trivial
theorem thing_ints {K : PySem.W.Frag} {H : Hp} {a : Addr} {ns : List Int} (h : H a = some (.tup (ns.map V.int))) : Thing K H (.ref a) := .inl ⟨a, _, rfl, h, kn_ints⟩
theorem isShs_of {H : Hp} {a : Addr} {ns : List Int} (h : H a = some (.tup (ns.map V.int))) (g : Good ns) : isShs H (.ref a) = true := by
  simp only [isShs, h]; exact g.shs
theorem sum_bounds : ∀ {ns : List Int}, (∀ x ∈ ns, 0 ≤ x ∧ x ≤ 9) → 0 ≤ ns.sum ∧ ns.sum ≤ 9 * ns.length
  | [], _ => by decide
  | x :: r, h => by
    have h1 := h x List.mem_cons_self
    have h2 := sum_bounds (ns := r) fun y hy => h y (List.mem_cons_of_mem _ hy)
    rw [List.sum_cons, List.length_cons]
    omega
theorem Good.sum_pos {ns : List Int} (g : Good ns) : 0 < ns.sum ∧ ns.sum ≤ 45 := by
  obtain ⟨h1, h5, hx⟩ := g
  cases ns with
  | nil => exact absurd h1 (by decide)
  | cons x r =>
    have a1 := hx x List.mem_cons_self
    have a2 := sum_bounds (ns := r) fun y hy => ⟨by have := (hx y (List.mem_cons_of_mem _ hy)).1; omega, (hx y (List.mem_cons_of_mem _ hy)).2⟩
    rw [List.sum_cons]
    rw [List.length_cons] at h5
    omega
def pick (ns ks : List Int) : List Int := ks.map fun k => ns.getD k.toNat 0
def spTotal : Sp := fun vs H Q _ => ∃ (a : Addr) (ns : List Int), vs = [.ref a] ∧ H a = some (.tup (ns.map V.int)) ∧ Good ns ∧ ∀ H', Same H H' → Q (.int ns.sum) H'
/-- [shares[kind] for kind in some] -/
theorem at_kind {ns : List Int} {k : Int} (h0 : 0 ≤ k) (h1 : k < ns.length) : atI (ns.map V.int) k = some (.int (ns.getD k.toNat 0)) := by
  refine at_of (j := k.toNat) (by omega) ?_
  have hk : k.toNat < ns.length := by omega
  rw [List.getElem?_map, List.getElem?_eq_getElem hk, List.getD_eq_getElem?_getD, List.getElem?_eq_getElem hk]
  rfl
def spPart : Sp := fun vs H Q _ => ∃ (a c : Addr) (ns ks : List Int), vs = [.ref a, .ref c] ∧ H a = some (.tup (ns.map V.int)) ∧ Good ns ∧ H c = some (.tup (ks.map V.int)) ∧ ks.length ≤ 1000 ∧ Rise ks ∧ (∀ k ∈ ks, 0 ≤ k ∧ k < ns.length) ∧
  ∀ H' p, Same H H' → H p = none → H' p = some (.tup (low (pick ns ks).sum ns.sum)) → Q (.ref p) H'
/-! ### what is shown -/
theorem shown_int {i : Int} (h : i.natAbs.log2 < 1920) : (PyData.shown (.int i)).length ≤ 1921 := by
  have e := int_text_length_le (k := 1920) (by decide) h
  show (Str.ofString (toString i)).length ≤ _
  rw [PySem.ofString_length]
  exact e
theorem sh_int {i : Int} (h : i.natAbs.log2 < 1920) : KG.ShowOk (.int i) := ⟨decide_eq_true h, rfl, (by show (0 : Nat) ≤ 20; decide), Nat.le_trans (shown_int h) (by decide)⟩
theorem sh_two {i j : Int} (hi : i.natAbs.log2 < 1920) (hj : j.natAbs.log2 < 1920) : KG.ShowOk (.tuple [.int i, .int j]) := by
  refine ⟨?_, rfl, by show 0 + 1 ≤ 20; decide, ?_⟩
  · show (decide (i.natAbs.log2 < 1920) && (decide (j.natAbs.log2 < 1920) && true)) = true
    rw [decide_eq_true hi, decide_eq_true hj]; rfl
  · have e := tupleText_len_le [PyData.shown (.int i), PyData.shown (.int j)]
    have e1 := shown_int hi
    have e2 := shown_int hj
    show (tupleText [PyData.shown (.int i), PyData.shown (.int j)]).length ≤ _
    refine Nat.le_trans e (Nat.le_trans ?_ (show 4000 ≤ sizeLine by decide))
    simp only [List.map_cons, List.map_nil, List.sum_cons, List.sum_nil, List.length_cons, List.length_nil]
    omega
theorem log_of {i : Int} {n : Nat} (h : i.natAbs < 2 ^ n) (h0 : 0 < n) (hn : n ≤ 1920) : i.natAbs.log2 < 1920 := Nat.lt_of_lt_of_le (PySem.Flt.log2_lt_of h0 h) hn
theorem log_small {i : Int} (h : i.natAbs ≤ 1000000) : i.natAbs.log2 < 1920 := log_of (n := 20) (Nat.lt_of_le_of_lt h (by decide)) (by decide) (by decide)
/-- some kinds, written as a tuple -/
def KindsAt (m : Nat) (H : Hp) (q : Addr) : Prop := ∃ ks : List Int, H q = some (.tup (ks.map V.int)) ∧ ks.length ≤ 1000 ∧ Rise ks ∧ ∀ k ∈ ks, 0 ≤ k ∧ k < m
theorem KindsAt.mono {m : Nat} {H H' : Hp} {q : Addr} (h : KindsAt m H q) (s : Same H H') : KindsAt m H' q := by
  obtain ⟨ks, e, r⟩ := h
  exact ⟨ks, s _ _ e, r⟩
theorem KindsAt.kp {m : Nat} {b : Addr} {o : List V} {H H' : Hp} {q : Addr} (h : KindsAt m H q) (eb : H b = some (.lst o)) (s : Kp b H H') : KindsAt m H' q := by
  obtain ⟨ks, e, r⟩ := h
  exact ⟨ks, s _ _ (ne_of e eb (by intro z; cases z)) e, r⟩
theorem rise_range (n : Nat) : Rise ((List.range n).map fun i : Nat => (i : Int)) := by
  refine List.pairwise_map.mpr (List.Pairwise.imp ?_ List.pairwise_lt_range)
  intro a b h
  exact Int.ofNat_lt.mpr h
theorem rg_kinds {H : Hp} {q : Addr} {n : Nat} (hn : n ≤ 1000) (e : H q = some (.tup (rgV 0 n))) : KindsAt n H q := by
  refine ⟨(List.range n).map fun i : Nat => (i : Int), ?_, ?_, rise_range n, ?_⟩
  · rw [e]
    unfold rgV
    rw [List.map_map, show ((n : Int) - 0).toNat = n by omega]
    congr 2
    refine List.map_congr_left fun i _ => ?_
    show V.int (0 + (i : Int)) = V.int (i : Int)
    rw [Int.zero_add]
  · rw [List.length_map, List.length_range]; exact hn
  · intro k hk
    obtain ⟨i, hi, rfl⟩ := List.mem_map.mp hk
    have := List.mem_range.mp hi
    omega
theorem low_small {t b : Int} (ht : t.natAbs ≤ 1000000) (h0 : 0 < b) (hb : b ≤ 1000000) : (t / (Int.gcd t b : Int)).natAbs.log2 < 1920 ∧ (b / (Int.gcd t b : Int)).natAbs.log2 < 1920 := by
  have g := gcd_pos (t := t) h0
  have d : ∀ x : Int, x.natAbs ≤ 1000000 → (x / (Int.gcd t b : Int)).natAbs ≤ 1000000 := fun x hx => by
    have h1 : (x / (Int.gcd t b : Int)).natAbs ≤ x.natAbs := Int.natAbs_ediv_le_natAbs _ _
    omega
  exact ⟨log_small (d t ht), log_small (d b (by omega))⟩
def sp_law (K : PySem.W.Frag) : Sp := fun vs H Q _ => ∃ (a : Addr) (ns : List Int), vs = [.ref a] ∧ SqL K H a (ns.map V.int) ∧ ns.length ≤ 63 ∧ ∀ H', Q (.bl true) H'
theorem start_law (K : PySem.W.Frag) (H : Hp) (a : Addr) (ns : List Int) (hl : ns.length ≤ 63) (_ : Only H) (hS : SqL K H a (ns.map V.int)) : sp_law K [.ref a] H (fun v _ => v = .bl true) fun _ _ _ => False := ⟨a, ns, rfl, hS, hl, fun _ => rfl⟩
theorem pick_bounds {ss ks : List Int} (g : Good ss) (hk : ∀ k ∈ ks, 0 ≤ k ∧ k < ss.length) : ∀ x ∈ pick ss ks, 0 ≤ x ∧ x ≤ 9 := fun x hx => by
  obtain ⟨k, hk', rfl⟩ := List.mem_map.mp hx
  have h := hk k hk'
  have hl : k.toNat < ss.length := by omega
  rw [List.getD_eq_getElem?_getD, List.getElem?_eq_getElem hl]
  have := g.2.2 ss[k.toNat] (List.getElem_mem hl)
  show 0 ≤ ss[k.toNat] ∧ ss[k.toNat] ≤ 9
  omega
end KGX

namespace KGX
open PySem PySem.Spec PyProof.Rows L2
/-! ### fractions -/
def frB : List V → Bool
  | [.int t, .int b] => decide (1 ≤ b) && decide (Int.gcd t b = 1)
  | _ => false
def isFr (H : Hp) : V → Bool
  | .ref a => match H a with
    | some (.tup xs) => frB xs
    | _ => false
  | _ => false
theorem isFr_not {H : Hp} {x : V} (h : NotTup H x) : isFr H x = false := by
  cases x with
  | ref a => rcases h with ⟨y, z⟩ | ⟨y, z⟩ <;> simp only [isFr, z]
  | _ => rfl
theorem isFr_tup {H : Hp} {a : Addr} {xs : List V} (h : H a = some (.tup xs)) : isFr H (.ref a) = frB xs := by simp only [isFr, h]
theorem frB_len {xs : List V} (h : xs.length ≠ 2) : frB xs = false := by
  match xs, h with
  | [], _ => rfl
  | [x], _ => cases x <;> rfl
  | [_, _], h => exact absurd rfl h
  | x :: y :: z :: r, _ => cases x <;> first | rfl | (cases y <;> rfl)
theorem frB_not {x y : V} (h : whole x = false ∨ whole y = false) : frB [x, y] = false := by
  cases x with
  | int i =>
    cases y with
    | int j => rcases h with h | h <;> exact nomatch h
    | _ => rfl
  | _ => rfl
def spIsFr (K : PySem.W.Frag) : Sp := fun vs H Q _ => ∃ x, vs = [x] ∧ Thing K H x ∧ Q (.bl (isFr H x)) H
/-- a fraction of a size that can be reckoned with -/
def Fr (a b : Int) : Prop := 1 ≤ b ∧ Int.gcd a b = 1 ∧ a.natAbs < 2 ^ 4000 ∧ b.natAbs < 2 ^ 4000
theorem Fr.is {H : Hp} {p : Addr} {a b : Int} (h : Fr a b) (e : H p = some (.tup [.int a, .int b])) : isFr H (.ref p) = true := by
  rw [isFr_tup e]
  show (decide (1 ≤ b) && decide (Int.gcd a b = 1)) = true
  rw [decide_eq_true h.1, decide_eq_true h.2.1]; rfl
theorem thing_two {K : PySem.W.Frag} {H : Hp} {p : Addr} {a b : Int} (e : H p = some (.tup [.int a, .int b])) : Thing K H (.ref p) := thing_ints (ns := [a, b]) e
/-- two fractions handed in -/
def sp2 (g : Int → Int → Int → Int → VK → Hp → Prop) : Sp := fun vs H Q _ => ∃ p q a b c d, vs = [.ref p, .ref q] ∧ H p = some (.tup [.int a, .int b]) ∧ H q = some (.tup [.int c, .int d]) ∧ Fr a b ∧ Fr c d ∧ g a b c d Q H
/-- a new fraction -/
def newFr (t b : Int) : VK → Hp → Prop := fun Q H => ∀ H' r, Same H H' → H r = none → H' r = some (.tup (low t b)) → Q (.ref r) H'
def spChkFr : Sp := sp2 fun _ _ _ _ Q H => Q .non H
def spAdded : Sp := sp2 fun a b c d => newFr (a * d + c * b) (b * d)
def spLessened : Sp := sp2 fun a b c d => newFr (a * d - c * b) (b * d)
def spMultiplied : Sp := sp2 fun a b c d => newFr (a * c) (b * d)
def spIsLess : Sp := sp2 fun a b c d Q H => Q (.bl (decide (a * d < c * b))) H
theorem mulW {i j : Int} (hi : i.natAbs < 2 ^ 4000) (hj : j.natAbs < 2 ^ 4000) : CMulW i j := wide_mul hi hj (by decide) (by decide) (by decide)
theorem log_prod {b d : Int} (hb : b.natAbs < 2 ^ 4000) (hd : d.natAbs < 2 ^ 4000) : (b * d).natAbs.log2 < 9000 := by
  have h := wide_lt hb hd
  exact Nat.lt_of_lt_of_le (PySem.Flt.log2_lt_of (by decide) h) (by decide)
theorem pos_prod {b d : Int} (hb : 1 ≤ b) (hd : 1 ≤ d) : 0 < b * d := Int.mul_pos (by omega) (by omega)
/-! ### lowest terms -/
theorem low_mul {t b y : Int} (hb : 0 < b) (hy : 0 < y) : low (t * y) (b * y) = low t b := by
  have e : (Int.gcd (t * y) (b * y) : Int) = (Int.gcd t b : Int) * y := by
    rw [Int.gcd_mul_right]
    have : (y.natAbs : Int) = y := by omega
    rw [Int.natCast_mul, this]
  have g := gcd_pos (t := t) hb
  unfold low
  rw [e, Int.mul_ediv_mul_of_pos_left _ _ hy, Int.mul_ediv_mul_of_pos_left _ _ hy]
theorem low_fr {t b : Int} (hb : 0 < b) : 1 ≤ b / (Int.gcd t b : Int) ∧ Int.gcd (t / (Int.gcd t b : Int)) (b / (Int.gcd t b : Int)) = 1 := by
  have g := gcd_pos (t := t) hb
  have gl := gcd_le (t := t) hb
  refine ⟨?_, ?_⟩
  · exact (Int.le_ediv_iff_mul_le g).mpr (by omega)
  · exact Int.gcd_ediv_gcd_ediv_gcd (by omega)
theorem natAbs_div_le {x g : Int} : (x / g).natAbs ≤ x.natAbs := Int.natAbs_ediv_le_natAbs _ _
/-! ### numbers drawn -/
def spNum : Sp := fun vs H Q _ => ∃ (b : Addr) (n : Int), vs = [.ref b] ∧ H b = some (.lst [.int n]) ∧ ∀ H' n' v, Kp b H H' → H' b = some (.lst [.int n']) → v.natAbs ≤ 10 ^ 19 → Q (.int v) H'
def spTruth : Sp := fun vs H Q _ => ∃ x y, vs = [.bl x, .bl y] ∧ Q (.bl (decide (x = y))) H
/-- two pairs handed in, whatever they are -/
def spPlus : Sp := fun vs H Q _ => ∃ p q a b c d, vs = [.ref p, .ref q] ∧ H p = some (.tup [.int a, .int b]) ∧ H q = some (.tup [.int c, .int d]) ∧ 1 ≤ b ∧ 1 ≤ d ∧
  a.natAbs < 2 ^ 4000 ∧ b.natAbs < 2 ^ 4000 ∧ c.natAbs < 2 ^ 4000 ∧ d.natAbs < 2 ^ 4000 ∧ newFr (a * d + c * b) (b * d) Q H
/-- a size, kept below -/
theorem sz_mul {i j : Int} {m n : Nat} (hi : i.natAbs < 2 ^ m) (hj : j.natAbs < 2 ^ n) : (i * j).natAbs < 2 ^ (m + n) := wide_lt hi hj
theorem sz_add {i j : Int} {n : Nat} (hi : i.natAbs < 2 ^ n) (hj : j.natAbs < 2 ^ n) : (i + j).natAbs < 2 ^ (n + 1) := by
  rw [Nat.pow_succ]; omega
theorem sz_sub {i j : Int} {n : Nat} (hi : i.natAbs < 2 ^ n) (hj : j.natAbs < 2 ^ n) : (i - j).natAbs < 2 ^ (n + 1) := by
  rw [Nat.pow_succ]; omega
theorem sz_le {i : Int} {m n : Nat} (hi : i.natAbs < 2 ^ m) (h : m ≤ n) : i.natAbs < 2 ^ n := Nat.lt_of_lt_of_le hi (Nat.pow_le_pow_right (by decide) h)
theorem low_show {t b : Int} {n : Nat} (ht : t.natAbs < 2 ^ n) (hb : b.natAbs < 2 ^ n) (h0 : 0 < n) (hn : n ≤ 1920) : KG.ShowOk (.tuple [.int (t / (Int.gcd t b : Int)), .int (b / (Int.gcd t b : Int))]) :=
  sh_two (log_of (Nat.lt_of_le_of_lt natAbs_div_le ht) h0 hn) (log_of (Nat.lt_of_le_of_lt natAbs_div_le hb) h0 hn)
end KGX

namespace KGX
open PySem PySem.Spec PyProof.Rows L2
/-! ### things of whatever kind, off the box at b; l: lists, else dicts may be in them -/
def keyD : Key → PyData
  | .inl i => .int i
  | .inr x => .str x
mutual
inductive Dq (l : Bool) (b : Addr) (H : Hp) : V → PyData → Prop
  | non : Dq l b H .non .none
  | bl (x : Bool) : Dq l b H (.bl x) (.bool x)
  | int (i : Int) : Dq l b H (.int i) (.int i)
  | str (x : Str) : Dq l b H (.str x) (.str x)
  | lst {a : Addr} {xs : List V} {ds : List PyData} : l = true → a ≠ b → H a = some (.lst xs) → DqAll l b H xs ds → Dq l b H (.ref a) (.list ds)
  | tup {a : Addr} {xs : List V} {ds : List PyData} : H a = some (.tup xs) → DqAll l b H xs ds → Dq l b H (.ref a) (.tuple ds)
  | dct {a : Addr} {kvs : List (Key × Int)} : l = false → H a = some (.dK (kvs.map fun p => (p.1, V.int p.2))) → Dq l b H (.ref a) (.dict (kvs.map fun p => (keyD p.1, PyData.int p.2)))
inductive DqAll (l : Bool) (b : Addr) (H : Hp) : List V → List PyData → Prop
  | nil : DqAll l b H [] []
  | cons {v : V} {vs : List V} {d : PyData} {ds : List PyData} : Dq l b H v d → DqAll l b H vs ds → DqAll l b H (v :: vs) (d :: ds)
end
section
variable {l : Bool} {b : Addr} {H H' : Hp} {o : List V}
mutual
theorem Dq.kp (eb : H b = some (.lst o)) (k : Kp b H H') : ∀ {v : V} {d : PyData}, Dq l b H v d → Dq l b H' v d
  | _, _, .non => .non
  | _, _, .bl x => .bl x
  | _, _, .int x => .int x
  | _, _, .str x => .str x
  | _, _, .lst h1 h2 h3 h4 => .lst h1 h2 (k _ _ h2 h3) (DqAll.kp eb k h4)
  | _, _, .tup h1 h2 => .tup (k _ _ (ne_of h1 eb (by intro z; cases z)) h1) (DqAll.kp eb k h2)
  | _, _, .dct h1 h2 => .dct h1 (k _ _ (ne_of h2 eb (by intro z; cases z)) h2)
theorem DqAll.kp (eb : H b = some (.lst o)) (k : Kp b H H') : ∀ {vs : List V} {ds : List PyData}, DqAll l b H vs ds → DqAll l b H' vs ds
  | _, _, .nil => .nil
  | _, _, .cons h1 h2 => .cons (Dq.kp eb k h1) (DqAll.kp eb k h2)
end
mutual
theorem Dq.mono (k : Same H H') : ∀ {v : V} {d : PyData}, Dq l b H v d → Dq l b H' v d
  | _, _, .non => .non
  | _, _, .bl x => .bl x
  | _, _, .int x => .int x
  | _, _, .str x => .str x
  | _, _, .lst h1 h2 h3 h4 => .lst h1 h2 (k _ _ h3) (DqAll.mono k h4)
  | _, _, .tup h1 h2 => .tup (k _ _ h1) (DqAll.mono k h2)
  | _, _, .dct h1 h2 => .dct h1 (k _ _ h2)
theorem DqAll.mono (k : Same H H') : ∀ {vs : List V} {ds : List PyData}, DqAll l b H vs ds → DqAll l b H' vs ds
  | _, _, .nil => .nil
  | _, _, .cons h1 h2 => .cons (Dq.mono k h1) (DqAll.mono k h2)
end
theorem Dq.kn {K : PySem.W.Frag} {v : V} {d : PyData} (h : Dq l b H v d) : Kn K H v := by
  cases h with
  | non => trivial
  | bl x => trivial
  | int x => trivial
  | str x => trivial
  | lst h1 h2 h3 h4 => exact .inl ⟨_, h3⟩
  | tup h1 h2 => exact .inr (.inl ⟨_, h1⟩)
  | dct h1 h2 => exact .inr (.inr ⟨_, h2⟩)
theorem DqAll.kn {K : PySem.W.Frag} : ∀ {vs : List V} {ds : List PyData}, DqAll l b H vs ds → ∀ y ∈ vs, Kn K H y
  | _, _, .nil, _, hy => nomatch hy
  | _, _, .cons h1 h2, y, hy => by
    rcases List.mem_cons.mp hy with rfl | hy
    · exact h1.kn
    · exact DqAll.kn h2 y hy
theorem Dq.thing {K : PySem.W.Frag} {v : V} {d : PyData} (h : Dq l b H v d) : Thing K H v := by
  cases h with
  | non => exact .inr trivial
  | bl x => exact .inr trivial
  | int x => exact .inr trivial
  | str x => exact .inr trivial
  | lst h1 h2 h3 h4 => exact .inr (.inl ⟨_, h3⟩)
  | tup h1 h2 => exact .inl ⟨_, _, rfl, h1, h2.kn⟩
  | dct h1 h2 => exact .inr (.inr ⟨_, h2⟩)
theorem DqAll.append : ∀ {vs ws : List V} {ds es : List PyData}, DqAll l b H vs ds → DqAll l b H ws es → DqAll l b H (vs ++ ws) (ds ++ es)
  | _, _, _, _, .nil, h => h
  | _, _, _, _, .cons h1 h2, h => .cons h1 (DqAll.append h2 h)
theorem DqAll.ints : ∀ (ns : List Int), DqAll l b H (ns.map V.int) (ns.map PyData.int)
  | [] => .nil
  | i :: r => .cons (.int i) (DqAll.ints r)
mutual
theorem Dq.noDict : ∀ {v : V} {d : PyData}, Dq true b H v d → d.hasDict = false
  | _, _, .non => rfl
  | _, _, .bl x => rfl
  | _, _, .int x => rfl
  | _, _, .str x => rfl
  | _, _, .lst h1 h2 h3 h4 => by show PyData.hasDictAll _ = false; exact DqAll.noDict h4
  | _, _, .tup h1 h2 => by show PyData.hasDictAll _ = false; exact DqAll.noDict h2
theorem DqAll.noDict : ∀ {vs : List V} {ds : List PyData}, DqAll true b H vs ds → PyData.hasDictAll ds = false
  | _, _, .nil => rfl
  | _, _, .cons h1 h2 => by
    show (PyData.hasDict _ || PyData.hasDictAll _) = false
    rw [Dq.noDict h1, DqAll.noDict h2]; rfl
end
end
section
variable {X : Cx} {pins : List (Addr × Obj)} {σ : L2.St} {H : Hp} {s : Shared} {l : Bool} {b : Addr}
theorem pairs_read {h : Heap} : ∀ {es : List DictEntry} {vs : List (Key × Value)} {kvs : List (Key × Int)}, PySem.Pairs (mixKind X.prog X.w) es vs → KV (kvs.map fun p => (p.1, V.int p.2)) vs →
    ReadsAll h (es.map (·.key)) ((kvs.map fun p => (keyD p.1, PyData.int p.2)).map (·.1)) [] ∧ ReadsAll h (es.map (·.val)) ((kvs.map fun p => (keyD p.1, PyData.int p.2)).map (·.2)) []
  | _, _, [], hp, hk => by
    cases hk
    cases hp
    exact ⟨.nil, .nil⟩
  | _, _, (k, i) :: r, hp, hk => by
    cases hk with
    | cons h1 h2 =>
      cases hp with
      | @cons ent _ _ _ k1 k2 k3 =>
        obtain ⟨r1, r2⟩ := pairs_read (h := h) k3 h2
        obtain ⟨e1, e2⟩ := h1
        obtain ⟨t, e2⟩ := e2
        rw [← e1] at k1
        refine ⟨?_, ?_⟩
        · have hk2 : Reads h ent.key (keyD k) [] := by
            rcases keyIs_shape (show keyIs k _ = true from k1) with ⟨i', t', rfl, e⟩ | ⟨x', t', rfl, e⟩
            · rw [e]; exact .int _ _
            · rw [e]; exact .str _ _
          exact ReadsAll.cons (as := []) hk2 r1
        · rw [List.map_cons, k2, e2]
          exact ReadsAll.cons (as := []) (.int _ _) r2
mutual
theorem Dq.reads (I : Inv X pins σ H s) : ∀ {d : PyData} {v : V} {u : Value}, Dq l b H v d → RelV v u → ∃ as, Reads s.heap u d as ∧ (l = false → sysModules ∉ as)
  | _, _, u, .non, r => by
    cases (show u = Value.none from r)
    exact ⟨_, .none, fun _ z => nomatch z⟩
  | _, _, u, .bl x, r => by
    cases (show u = Value.bool x from r)
    exact ⟨_, .bool x, fun _ z => nomatch z⟩
  | _, _, u, .int i, r => by
    obtain ⟨t, rfl⟩ := (show ∃ t, u = Value.int i t from r)
    exact ⟨_, .int i t, fun _ z => nomatch z⟩
  | _, _, u, .str x, r => by
    obtain ⟨t, rfl⟩ := (show ∃ t, u = Value.str x t from r)
    exact ⟨_, .str x t, fun _ z => nomatch z⟩
  | _, _, u, .lst (a := a) h1 h2 h3 h4, r => by
    cases (show u = Value.ref a from r)
    obtain ⟨its, rv, ⟨o, n, ho, hc, _, hd⟩, _⟩ := I.list (.inl (.inl h3))
    obtain ⟨as, hr, _⟩ := DqAll.reads I h4 rv
    exact ⟨_, .list ho hc hd hr, fun z => by rw [h1] at z; exact nomatch z⟩
  | _, _, u, .tup (a := a) h1 h2, r => by
    cases (show u = Value.ref a from r)
    obtain ⟨its, rv, ⟨o, ho, hc, n, hd⟩, _⟩ := I.tuple (.inl (.inl h1))
    obtain ⟨as, hr, hn⟩ := DqAll.reads I h2 rv
    exact ⟨_, .tuple ho hc hd hr, hn⟩
  | _, _, u, .dct (a := a) (kvs := kvs) h1 h2, r => by
    cases (show u = Value.ref a from r)
    obtain ⟨_, hsys, vs, hk, o, es, ep, e1, e2, e3, _, hp, _⟩ := I.hok a _ h2
    obtain ⟨r1, r2⟩ := pairs_read (X := X) (h := s.heap) hp hk
    refine ⟨_, .dict e1 e2.1 e3 r1 r2, fun _ z => ?_⟩
    have z' : sysModules = a := by simpa using z
    rw [← z'] at hsys
    simp at hsys
theorem DqAll.reads (I : Inv X pins σ H s) : ∀ {ds : List PyData} {vs : List V} {us : List Value}, DqAll l b H vs ds → Vals vs us → ∃ as, ReadsAll s.heap us ds as ∧ (l = false → sysModules ∉ as)
  | _, _, _, .nil, r => by
    cases r
    exact ⟨_, .nil, fun _ z => nomatch z⟩
  | _, _, _, .cons h1 h2, r => by
    cases r with
    | cons r1 r2 =>
      obtain ⟨as, q1, n1⟩ := Dq.reads I h1 r1
      obtain ⟨bs, q2, n2⟩ := DqAll.reads I h2 r2
      refine ⟨_, .cons q1 q2, fun z y => ?_⟩
      rcases List.mem_append.mp y with y | y
      · exact n1 z y
      · exact n2 z y
end
/-- it can be shown in so many signs, at such a depth -/
def Small (m k : Nat) (d : PyData) : Prop := d.showable = true ∧ d.shown.length ≤ m ∧ d.depth ≤ k
/-- repr of a thing -/
def rReprQ : List V → Hp → VK → Prop := fun xs H Q => ∃ x l b d, xs = [x] ∧ Dq l b H x d ∧ Small 100000 20 d ∧ Q (.str d.shown) H
theorem call_reprQ {k : Nat} (gd : X.A.guards = some []) (hr : Room k X.A) : CallR X (.builtin "repr") rReprQ := by
  intro pins s σ H xs us Q I r h
  obtain ⟨x, l, b, d, rfl, hd, ⟨hs, hl, hz⟩, q⟩ := h
  obtain ⟨u, rfl, ru⟩ := vals1 r
  have un := hr.un
  have hl' : d.shown.length ≤ sizeLine := Nat.le_trans hl (by decide)
  obtain ⟨as, rd, hn⟩ := Dq.reads I hd ru
  have hsm : d.hasDict = true → sysModules ∉ as := fun z => by
    cases l with
    | false => exact hn rfl
    | true => rw [Dq.noDict hd] at z; exact nomatch z
  cases hd with
  | non => cases (show u = Value.none from ru); exact PySem.P.repr_of_none ⟨.str _, H, I.tok _, ⟨_, rfl⟩, q⟩
  | bl b => cases (show u = Value.bool b from ru); exact PySem.P.repr_of_bool ⟨.str _, H, I.tok _, ⟨_, rfl⟩, q⟩
  | int i => obtain ⟨t, rfl⟩ := (show ∃ t, u = Value.int i t from ru); exact PySem.P.repr_of_int (of_decide_eq_true hs) ⟨.str _, H, I.tok _, ⟨_, rfl⟩, q⟩
  | str y => obtain ⟨t, rfl⟩ := (show ∃ t, u = Value.str y t from ru); exact PySem.P.repr_of_str ⟨.str _, H, I.tok _, ⟨_, rfl⟩, q⟩ hl'
  | @lst a ys ds h1 h2 h3 h4 =>
    cases (show u = Value.ref a from ru)
    exact repr_of_reads' rd hs hsm gd (by omega) (fun _ _ z => z) (fun h' u tk hk => ⟨.str _, H, I.kept hk, ⟨_, rfl⟩, q⟩) hl'
  | @tup a ys ds h1 h2 =>
    cases (show u = Value.ref a from ru)
    exact repr_of_reads' rd hs hsm gd (by omega) (fun _ _ z => z) (fun h' u tk hk => ⟨.str _, H, I.kept hk, ⟨_, rfl⟩, q⟩) hl'
  | @dct a kvs h1 h2 =>
    cases (show u = Value.ref a from ru)
    exact repr_of_reads' rd hs hsm gd (by omega) (fun _ _ z => z) (fun h' u tk hk => ⟨.str _, H, I.kept hk, ⟨_, rfl⟩, q⟩) hl'
/-- xs == [] -/
def rEqNil (K : PySem.W.Frag) : R2 := fun x y H Q => ∃ l m xs, x = .ref l ∧ y = .ref m ∧ SqL K H l xs ∧ SqL K H m [] ∧ Q (.bl xs.isEmpty) H
theorem op_eqNil {k : Nat} (hr : Room k X.A) : OpR X (compareOp .Eq) (rEqNil X.K) := by
  intro pins s σ H x y v u Q I rx ry h
  obtain ⟨l, m, xs, rfl, rfl, h1, h2, q⟩ := h
  cases rx
  cases ry
  have un := hr.un
  obtain ⟨its, r1, p1, _⟩ := I.list h1
  obtain ⟨its2, r2, p2, _⟩ := I.list h2
  cases r2
  cases xs with
  | nil =>
    cases r1
    exact SeqAt.eq_listAt (e := fun _ => true) p1.isList p2.isList rfl (by omega) (fun j h1 h2 => absurd h1 (by simp)) ⟨.bl true, H, I, rfl, q⟩
  | cons x r =>
    cases r1
    exact SeqAt.eq_list_lengthsAt p1.isList p2.isList (by simp) (by omega) ⟨.bl false, H, I, rfl, q⟩
end
end KGX

namespace KGX
open PySem PySem.Spec PyProof.Rows L2
theorem Small.mono {m k m' k' : Nat} {d : PyData} (h : Small m k d) (hm : m ≤ m') (hk : k ≤ k') : Small m' k' d := ⟨h.1, Nat.le_trans h.2.1 hm, Nat.le_trans h.2.2 hk⟩
theorem small_int {i : Int} {n : Nat} (h : i.natAbs < 2 ^ n) (h0 : 0 < n) (hn : n ≤ 1920) : Small (n + 1) 0 (.int i) := by
  have e0 := PySem.Flt.log2_lt_of h0 h
  have e := int_text_length_le (k := n) h0 e0
  refine ⟨decide_eq_true (Nat.lt_of_lt_of_le e0 hn), ?_, Nat.le_refl _⟩
  show (Str.ofString (toString i)).length ≤ _
  rw [PySem.ofString_length]
  exact e
theorem all_show {m k : Nat} : ∀ {ds : List PyData}, (∀ d ∈ ds, Small m k d) → PyData.showableAll ds = true ∧ ((PyData.shownAll ds).map (·.length)).sum ≤ m * ds.length ∧ PyData.depthAll ds ≤ k ∧ (PyData.shownAll ds).length = ds.length
  | [], _ => ⟨rfl, Nat.le_refl _, Nat.zero_le _, rfl⟩
  | d :: r, h => by
    obtain ⟨a1, a2, a3⟩ := h d List.mem_cons_self
    obtain ⟨b1, b2, b3, b4⟩ := all_show (ds := r) fun x hx => h x (List.mem_cons_of_mem _ hx)
    refine ⟨?_, ?_, ?_, ?_⟩
    · show (PyData.showable d && PyData.showableAll r) = true
      rw [a1, b1]; rfl
    · show (PyData.shown d).length + ((PyData.shownAll r).map (·.length)).sum ≤ m * (r.length + 1)
      rw [Nat.mul_add, Nat.mul_one]
      omega
    · exact Nat.max_le.mpr ⟨a3, b3⟩
    · show (PyData.shownAll r).length + 1 = r.length + 1
      rw [b4]
theorem mul_le_n {m a n : Nat} (h : a ≤ n) : m * a + 2 * a + 3 ≤ (m + 2) * n + 3 := by
  have h1 : m * a ≤ m * n := Nat.mul_le_mul_left m h
  rw [Nat.add_mul]
  omega
theorem small_tup {m k n : Nat} {ds : List PyData} (hn : ds.length ≤ n) (h : ∀ d ∈ ds, Small m k d) : Small ((m + 2) * n + 3) (k + 1) (.tuple ds) := by
  obtain ⟨a1, a2, a3, a4⟩ := all_show h
  refine ⟨a1, ?_, ?_⟩
  · have e := tupleText_len_le (PyData.shownAll ds)
    show (tupleText (PyData.shownAll ds)).length ≤ _
    rw [a4] at e
    exact Nat.le_trans e (Nat.le_trans (by omega) (mul_le_n (m := m) hn))
  · show PyData.depthAll ds + 1 ≤ k + 1
    omega
theorem small_lst {m k n : Nat} {ds : List PyData} (hn : ds.length ≤ n) (h : ∀ d ∈ ds, Small m k d) : Small ((m + 2) * n + 3) (k + 1) (.list ds) := by
  obtain ⟨a1, a2, a3, a4⟩ := all_show h
  refine ⟨a1, ?_, ?_⟩
  · have e := listText_len_le (PyData.shownAll ds)
    show (listText (PyData.shownAll ds)).length ≤ _
    rw [a4] at e
    exact Nat.le_trans e (Nat.le_trans (by omega) (mul_le_n (m := m) hn))
  · show PyData.depthAll ds + 1 ≤ k + 1
    omega
/-- a part of a thing; a thing -/
def ItAt (l : Bool) (b : Addr) (H : Hp) (x : V) : Prop := ∃ d, Dq l b H x d ∧ Small 2000 6 d
def ThAt (b : Addr) (H : Hp) (x : V) : Prop := ∃ l d, Dq l b H x d ∧ Small 100000 20 d
section
variable {l : Bool} {b : Addr} {H H' : Hp} {o : List V} {x : V}
theorem ItAt.mono (h : ItAt l b H x) (s : Same H H') : ItAt l b H' x := by
  obtain ⟨d, h1, h2⟩ := h
  exact ⟨d, h1.mono s, h2⟩
theorem ItAt.kp (h : ItAt l b H x) (eb : H b = some (.lst o)) (k : Kp b H H') : ItAt l b H' x := by
  obtain ⟨d, h1, h2⟩ := h
  exact ⟨d, h1.kp eb k, h2⟩
theorem ThAt.mono (h : ThAt b H x) (s : Same H H') : ThAt b H' x := by
  obtain ⟨l, d, h1, h2⟩ := h
  exact ⟨l, d, h1.mono s, h2⟩
theorem ThAt.kp (h : ThAt b H x) (eb : H b = some (.lst o)) (k : Kp b H H') : ThAt b H' x := by
  obtain ⟨l, d, h1, h2⟩ := h
  exact ⟨l, d, h1.kp eb k, h2⟩
theorem ItAt.th (h : ItAt l b H x) : ThAt b H x := by
  obtain ⟨d, h1, h2⟩ := h
  exact ⟨l, d, h1, h2.mono (by decide) (by decide)⟩
theorem its_all : ∀ {xs : List V}, (∀ x ∈ xs, ItAt l b H x) → ∃ ds, DqAll l b H xs ds ∧ ds.length = xs.length ∧ ∀ d ∈ ds, Small 2000 6 d
  | [], _ => ⟨[], .nil, rfl, fun _ h => nomatch h⟩
  | x :: r, h => by
    obtain ⟨d, h1, h2⟩ := h x List.mem_cons_self
    obtain ⟨ds, g1, g2, g3⟩ := its_all (xs := r) fun y hy => h y (List.mem_cons_of_mem _ hy)
    refine ⟨d :: ds, .cons h1 g1, by rw [List.length_cons, List.length_cons, g2], fun e he => ?_⟩
    rcases List.mem_cons.mp he with rfl | he
    · exact h2
    · exact g3 e he
theorem th_tup {a : Addr} {xs : List V} (e : H a = some (.tup xs)) (hl : xs.length ≤ 40) (h : ∀ x ∈ xs, ItAt l b H x) : ThAt b H (.ref a) := by
  obtain ⟨ds, g1, g2, g3⟩ := its_all h
  exact ⟨l, _, .tup e g1, (small_tup (n := 40) (by omega) g3).mono (by decide) (by decide)⟩
theorem th_lst {a : Addr} {xs : List V} (hb : a ≠ b) (e : H a = some (.lst xs)) (hl : xs.length ≤ 40) (h : ∀ x ∈ xs, ItAt true b H x) : ThAt b H (.ref a) := by
  obtain ⟨ds, g1, g2, g3⟩ := its_all h
  exact ⟨true, _, .lst rfl hb e g1, (small_lst (n := 40) (by omega) g3).mono (by decide) (by decide)⟩
theorem it_int {i : Int} (h : i.natAbs < 2 ^ 200) : ItAt l b H (.int i) := ⟨_, .int i, (small_int (n := 200) h (by decide) (by decide)).mono (by decide) (by decide)⟩
theorem it_ints {ns : List Int} (h : ∀ i ∈ ns, i.natAbs < 2 ^ 200) : ∀ x ∈ ns.map V.int, ItAt l b H x := fun x hx => by
  obtain ⟨i, hi, rfl⟩ := List.mem_map.mp hx
  exact it_int (h i hi)
theorem it_bl (x : Bool) : ItAt l b H (.bl x) := ⟨_, .bl x, by cases x <;> exact ⟨rfl, by decide, by decide⟩⟩
theorem it_non : ItAt l b H .non := ⟨_, .non, ⟨rfl, by decide, by decide⟩⟩
/-- a short row of ints, as a tuple, as a list -/
theorem it_tup {a : Addr} {ns : List Int} (e : H a = some (.tup (ns.map V.int))) (hl : ns.length ≤ 4) (h : ∀ i ∈ ns, i.natAbs < 2 ^ 200) : ItAt l b H (.ref a) := by
  refine ⟨_, .tup e (DqAll.ints ns), (small_tup (m := 201) (k := 0) (n := 4) (by rw [List.length_map]; exact hl) fun d hd => ?_).mono (by decide) (by decide)⟩
  obtain ⟨i, hi, rfl⟩ := List.mem_map.mp hd
  exact small_int (h i hi) (by decide) (by decide)
theorem it_lst {a : Addr} {ns : List Int} (hb : a ≠ b) (e : H a = some (.lst (ns.map V.int))) (hl : ns.length ≤ 4) (h : ∀ i ∈ ns, i.natAbs < 2 ^ 200) : ItAt true b H (.ref a) := by
  refine ⟨_, .lst rfl hb e (DqAll.ints ns), (small_lst (m := 201) (k := 0) (n := 4) (by rw [List.length_map]; exact hl) fun d hd => ?_).mono (by decide) (by decide)⟩
  obtain ⟨i, hi, rfl⟩ := List.mem_map.mp hd
  exact small_int (h i hi) (by decide) (by decide)
/-- a tuple of what is known -/
theorem it_of {a : Addr} {xs : List V} {ds : List PyData} (e : H a = some (.tup xs)) (h : DqAll l b H xs ds) (s : Small 2000 6 (.tuple ds)) : ItAt l b H (.ref a) := ⟨_, .tup e h, s⟩
end
theorem it_str {l : Bool} {b : Addr} {H : Hp} {i : Int} (h : i.natAbs < 2 ^ 110) : ItAt l b H (.str (toString i)) := by
  have e0 := PySem.Flt.log2_lt_of (by decide) h
  have e := int_text_length_le (k := 110) (by decide) e0
  refine ⟨_, .str _, rfl, ?_, Nat.zero_le _⟩
  have h1 : (Str.ofString (toString i)).length ≤ 111 := by rw [PySem.ofString_length]; exact e
  have h2 := StrLaws.reprText_len (Str.ofString (toString i)) (fun c hc => by
    rw [show (Str.ofString (toString i)).cps.toList = (toString i).toList.map Char.toNat from PyProof.Rows.signs_ofString _] at hc
    obtain ⟨ch, _, rfl⟩ := List.mem_map.mp hc
    exact Nat.lt_of_lt_of_le (UInt32.toNat_lt ch.val) (by decide))
  show (reprText (Str.ofString (toString i))).length ≤ 2000
  omega
theorem at_in {xs : List V} {i : Int} (h0 : 0 ≤ i) (h1 : i < xs.length) : ∃ x, atI xs i = some x ∧ x ∈ xs := by
  have hk : i.toNat < xs.length := by omega
  exact ⟨xs[i.toNat], at_of (j := i.toNat) (by omega) (List.getElem?_eq_getElem hk), List.getElem_mem hk⟩
def spOdd : Sp := fun vs H Q _ => ∃ (b : Addr) (n : Int), vs = [.ref b] ∧ H b = some (.lst [.int n]) ∧ ∀ H' x n' l, Kp b H H' → H' b = some (.lst [.int n']) → ItAt l b H' x → Q x H'
def spBent : Sp := fun vs H Q _ => ∃ (b r : Addr) (n : Int) (ns : List Int) (x : V) (l : Bool), vs = [.ref b, .ref r, x] ∧ H b = some (.lst [.int n]) ∧ H r = some (.tup (ns.map V.int)) ∧ 1 ≤ ns.length ∧ ns.length ≤ 5 ∧
  (∀ i ∈ ns, i.natAbs < 2 ^ 110) ∧ ItAt l b H x ∧ ∀ H' y n', Kp b H H' → H' b = some (.lst [.int n']) → ThAt b H' y → Q y H'
theorem rTimes_by {K : PySem.W.Frag} {H : Hp} {Q : VK} {l : Addr} {k : Int} {xs : List V} (h : SqT K H l xs) (hx : H l = some (.tup xs)) (hne : xs ≠ []) (h1 : 1 ≤ k) (h2 : k ≤ 1000) (h3 : xs.length ≤ 1000)
    (q : ∀ p H', Same H H' → H' p = some (.tup (List.replicate k.toNat xs).flatten) → Q (.ref p) H') : KG.rTimes K (.ref l) (.int k) H Q := by
  refine ⟨l, k, xs, rfl, rfl, h, hne, h1, h2, h3, fun e => ?_, fun _ p hp => q p _ (same_new hp) upd_same⟩
  refine q l H (Same.refl _) ?_
  subst e
  rw [hx]
  show _ = some (HO.tup (xs ++ []))
  rw [List.append_nil]
end KGX

namespace KGX
theorem rat_num {t b : Int} (h : 0 < b) : ((t : Rat) / (b : Rat)).num = t / (Int.gcd t b : Int) := by
  rw [← Rat.divInt_eq_div, Rat.num_divInt, Int.sign_eq_one_of_pos h, Int.one_mul, Int.gcd_comm]
theorem rat_den {t b : Int} (h : 0 < b) : (((t : Rat) / (b : Rat)).den : Int) = b / (Int.gcd t b : Int) := by
  rw [← Rat.divInt_eq_div, Rat.den_divInt]
  rw [if_neg (by omega), Int.gcd_comm]
  rw [Int.natCast_ediv]
  congr 1
  omega
theorem rat_self (x : Rat) : x = (x.num : Rat) / ((x.den : Int) : Rat) := by
  rw [← Rat.divInt_eq_div]; exact (Rat.num_divInt_den x).symm
theorem den_pos (x : Rat) : 0 < (x.den : Int) := by have := x.den_pos; omega
theorem den_ne (x : Rat) : ((x.den : Int) : Rat) ≠ 0 := by
  have := den_pos x
  exact_mod_cast (show (x.den : Int) ≠ 0 by omega)
theorem cast_ne {b : Int} (h : 0 < b) : (b : Rat) ≠ 0 := by
  intro z
  have : b = 0 := by exact_mod_cast z
  omega
theorem rat_add (x y : Rat) : ((x.num * y.den + y.num * x.den : Int) : Rat) / ((x.den * y.den : Int) : Rat) = x + y := by
  have h1 := den_ne x
  have h2 := den_ne y
  have e1 := rat_self x
  have e2 := rat_self y
  rw [Rat.intCast_add, Rat.intCast_mul, Rat.intCast_mul, Rat.intCast_mul]
  generalize (x.num : Rat) = a at *
  generalize ((x.den : Int) : Rat) = b at *
  generalize (y.num : Rat) = c at *
  generalize ((y.den : Int) : Rat) = d at *
  subst e1 e2
  grind
theorem rat_sub (x y : Rat) : ((x.num * y.den - y.num * x.den : Int) : Rat) / ((x.den * y.den : Int) : Rat) = x - y := by
  have h1 := den_ne x
  have h2 := den_ne y
  have e1 := rat_self x
  have e2 := rat_self y
  rw [Rat.intCast_sub, Rat.intCast_mul, Rat.intCast_mul, Rat.intCast_mul]
  generalize (x.num : Rat) = a at *
  generalize ((x.den : Int) : Rat) = b at *
  generalize (y.num : Rat) = c at *
  generalize ((y.den : Int) : Rat) = d at *
  subst e1 e2
  grind
theorem rat_mul (x y : Rat) : ((x.num * y.num : Int) : Rat) / ((x.den * y.den : Int) : Rat) = x * y := by
  have h1 := den_ne x
  have h2 := den_ne y
  have e1 := rat_self x
  have e2 := rat_self y
  rw [Rat.intCast_mul, Rat.intCast_mul]
  generalize (x.num : Rat) = a at *
  generalize ((x.den : Int) : Rat) = b at *
  generalize (y.num : Rat) = c at *
  generalize ((y.den : Int) : Rat) = d at *
  subst e1 e2
  grind
theorem rat_lt (x y : Rat) : decide (x.num * y.den < y.num * x.den) = decide (x < y) := by
  rw [decide_eq_decide]; exact (Rat.lt_iff x y).symm
/-! ### sizes -/
def Sz (n : Nat) (x : Rat) : Prop := x.num.natAbs < 2 ^ n ∧ x.den < 2 ^ n
theorem Sz.mono {m n : Nat} {x : Rat} (h : Sz m x) (l : m ≤ n) : Sz n x :=
  ⟨Nat.lt_of_lt_of_le h.1 (Nat.pow_le_pow_right (by decide) l), Nat.lt_of_lt_of_le h.2 (Nat.pow_le_pow_right (by decide) l)⟩
theorem sz_div {t b : Int} {n : Nat} (h : 0 < b) (ht : t.natAbs < 2 ^ n) (hb : b.natAbs < 2 ^ n) : Sz n ((t : Rat) / (b : Rat)) := by
  refine ⟨?_, ?_⟩
  · rw [rat_num h]; exact Nat.lt_of_le_of_lt (Int.natAbs_ediv_le_natAbs _ _) ht
  · have e := rat_den (t := t) h
    have l : (b / (Int.gcd t b : Int)).natAbs ≤ b.natAbs := Int.natAbs_ediv_le_natAbs _ _
    omega
theorem nat_mul_lt {a b m n : Nat} (ha : a < 2 ^ m) (hb : b < 2 ^ n) : a * b < 2 ^ (m + n) := by
  rw [Nat.pow_add]
  exact Nat.mul_lt_mul'' ha hb
theorem Sz.add {m n : Nat} {x y : Rat} (hx : Sz m x) (hy : Sz n y) : Sz (m + n + 1) (x + y) := by
  rw [← rat_add]
  have a1 := nat_mul_lt hx.1 hy.2
  have a2 := nat_mul_lt hy.1 hx.2
  have a3 := nat_mul_lt hx.2 hy.2
  refine sz_div (Int.mul_pos (den_pos x) (den_pos y)) ?_ ?_
  · rw [Nat.add_comm n m] at a2
    have := Int.natAbs_add_le (x.num * y.den) (y.num * x.den)
    rw [Int.natAbs_mul, Int.natAbs_mul] at this
    simp only [Int.natAbs_natCast] at this
    rw [Nat.pow_succ]; omega
  · rw [Int.natAbs_mul]; simp only [Int.natAbs_natCast]; rw [Nat.pow_succ]; omega
theorem Sz.neg {m : Nat} {x : Rat} (hx : Sz m x) : Sz m (-x) := ⟨by rw [Rat.neg_num, Int.natAbs_neg]; exact hx.1, by rw [Rat.neg_den]; exact hx.2⟩
theorem Sz.sub {m n : Nat} {x y : Rat} (hx : Sz m x) (hy : Sz n y) : Sz (m + n + 1) (x - y) := by
  rw [Rat.sub_eq_add_neg]; exact hx.add hy.neg
theorem Sz.mul {m n : Nat} {x y : Rat} (hx : Sz m x) (hy : Sz n y) : Sz (m + n) (x * y) := by
  rw [← rat_mul]
  have a1 := nat_mul_lt hx.1 hy.1
  have a3 := nat_mul_lt hx.2 hy.2
  refine sz_div (Int.mul_pos (den_pos x) (den_pos y)) ?_ ?_
  · rw [Int.natAbs_mul]; exact a1
  · rw [Int.natAbs_mul]; simp only [Int.natAbs_natCast]; exact a3
theorem sz_int {t : Int} {n : Nat} (ht : t.natAbs < 2 ^ n) (h0 : 0 < n) : Sz n (t : Rat) := by
  refine ⟨by rw [Rat.num_intCast]; exact ht, ?_⟩
  rw [Rat.den_intCast]
  exact Nat.one_lt_two_pow (by omega)
/-! ### until all have come -/
section
variable (g : Rat → Rat)
/-- over all parts T of ws: g of c and T together, of an odd number less of an even one -/
def altS : List Rat → Rat → Rat
  | [], c => - g c
  | x :: ws, c => altS ws c - altS ws (c + x)
end
/-- each weight times that of the others -/
def dsum (g : Rat → Rat) : List Rat → List Rat → Rat → Rat
  | _, [], _ => 0
  | pre, x :: ws, c => x * altS g (pre ++ ws) c + dsum g (pre ++ [x]) ws c
theorem altS_app (g : Rat → Rat) (y : Rat) : ∀ (ws : List Rat) (c : Rat), altS g (ws ++ [y]) c = altS g ws c - altS g ws (c + y)
  | [], c => rfl
  | x :: ws, c => by
    show altS g (ws ++ [y]) c - altS g (ws ++ [y]) (c + x) = (altS g ws c - altS g ws (c + x)) - (altS g ws (c + y) - altS g ws (c + y + x))
    rw [altS_app g y ws c, altS_app g y ws (c + x), show c + x + y = c + y + x by grind]
    grind
theorem dsum_pre (g : Rat → Rat) (y : Rat) : ∀ (ws pre : List Rat) (c : Rat), dsum g (y :: pre) ws c = dsum g pre ws c - dsum g pre ws (c + y)
  | [], _, c => by show (0 : Rat) = 0 - 0; grind
  | x :: ws, pre, c => by
    show x * altS g (y :: (pre ++ ws)) c + dsum g (y :: (pre ++ [x])) ws c = x * altS g (pre ++ ws) c + dsum g (pre ++ [x]) ws c - (x * altS g (pre ++ ws) (c + y) + dsum g (pre ++ [x]) ws (c + y))
    rw [dsum_pre g y ws (pre ++ [x]) c]
    show x * (altS g (pre ++ ws) c - altS g (pre ++ ws) (c + y)) + _ = _
    grind
def per (t : Rat) (y : Rat) : Rat := t / y
theorem dsum_pos (t : Rat) : ∀ (ws : List Rat) (c : Rat), 0 < c → (∀ x ∈ ws, 0 < x) → dsum (per t) [] ws c = (ws.sum + c) * altS (per t) ws c + if ws = [] then t else 0
  | [], c, h, _ => by
    have h0 : c ≠ 0 := by grind
    show (0 : Rat) = (0 + c) * (-(t / c)) + t
    grind
  | x :: ws, c, h, hw => by
    have hx := hw x List.mem_cons_self
    have i1 := dsum_pos t ws c h (fun y hy => hw y (List.mem_cons_of_mem _ hy))
    have i2 := dsum_pos t ws (c + x) (by grind) (fun y hy => hw y (List.mem_cons_of_mem _ hy))
    show x * altS (per t) ws c + dsum (per t) [x] ws c = _
    rw [dsum_pre, i1, i2]
    rw [if_neg (show ¬ (x :: ws = []) by simp), List.sum_cons]
    show _ = (x + ws.sum + c) * (altS (per t) ws c - altS (per t) ws (c + x)) + 0
    grind
theorem dsum_zero (t : Rat) : ∀ (ws : List Rat), (∀ x ∈ ws, 0 < x) → dsum (per t) [] ws 0 = ws.sum * altS (per t) ws 0 - if ws = [] then 0 else t
  | [], _ => by show (0 : Rat) = 0 * _ - 0; grind
  | x :: ws, hw => by
    have hx := hw x List.mem_cons_self
    have i1 := dsum_zero t ws (fun y hy => hw y (List.mem_cons_of_mem _ hy))
    have i2 := dsum_pos t ws (0 + x) (by grind) (fun y hy => hw y (List.mem_cons_of_mem _ hy))
    show x * altS (per t) ws 0 + dsum (per t) [x] ws 0 = _
    rw [dsum_pre, i1, i2]
    rw [if_neg (show ¬ (x :: ws = []) by simp), List.sum_cons]
    show _ = (x + ws.sum) * (altS (per t) ws 0 - altS (per t) ws (0 + x)) - t
    by_cases e : ws = []
    · rw [if_pos e, if_pos e]; grind
    · rw [if_neg e, if_neg e]; grind
open PySem PySem.Spec PyProof.Rows L2
/-! ### fractions as numbers -/
def frV (x : Rat) : List V := [.int x.num, .int (x.den : Int)]
theorem low_eq {t b : Int} (h : 0 < b) : low t b = frV ((t : Rat) / (b : Rat)) := by
  unfold low frV
  rw [rat_num h, rat_den h]
def newR (x : Rat) : VK → Hp → Prop := fun Q H => ∀ H' r, Same H H' → H r = none → H' r = some (.tup (frV x)) → Q (.ref r) H'
theorem frV_gcd (x : Rat) : Int.gcd x.num (x.den : Int) = 1 := x.reduced
theorem Sz.fr {x : Rat} (h : Sz 4000 x) : Fr x.num (x.den : Int) := ⟨den_pos x, frV_gcd x, h.1, by rw [Int.natAbs_natCast]; exact h.2⟩
section
variable {H : Hp} {Q : VK} {E : XK} {p q : Addr} {x y : Rat}
theorem less_by (ep : H p = some (.tup (frV x))) (eq : H q = some (.tup (frV y))) (sx : Sz 4000 x) (sy : Sz 4000 y) (k : Q (.bl (decide (x < y))) H) : spIsLess [.ref p, .ref q] H Q E :=
  ⟨p, q, _, _, _, _, rfl, ep, eq, sx.fr, sy.fr, by show Q (.bl (decide (x.num * y.den < y.num * x.den))) H; rw [rat_lt]; exact k⟩
end
theorem low_add (x y : Rat) : low (x.num * (y.den : Int) + y.num * (x.den : Int)) ((x.den : Int) * (y.den : Int)) = frV (x + y) := by rw [low_eq (Int.mul_pos (den_pos x) (den_pos y)), rat_add]
theorem low_sub (x y : Rat) : low (x.num * (y.den : Int) - y.num * (x.den : Int)) ((x.den : Int) * (y.den : Int)) = frV (x - y) := by rw [low_eq (Int.mul_pos (den_pos x) (den_pos y)), rat_sub]
theorem low_times (x y : Rat) : low (x.num * y.num) ((x.den : Int) * (y.den : Int)) = frV (x * y) := by rw [low_eq (Int.mul_pos (den_pos x) (den_pos y)), rat_mul]
theorem low_plus (x : Rat) {c d : Int} (hd : 0 < d) : low (x.num * d + c * (x.den : Int)) ((x.den : Int) * d) = frV (x + (c : Rat) / (d : Rat)) := by
  rw [low_eq (Int.mul_pos (den_pos x) hd)]
  congr 1
  have e1 := rat_self x
  have h1 := den_ne x
  have h2 := cast_ne hd
  rw [Rat.intCast_add, Rat.intCast_mul, Rat.intCast_mul, Rat.intCast_mul]
  generalize (x.num : Rat) = a at *
  generalize ((x.den : Int) : Rat) = b at *
  generalize (c : Rat) = c at *
  generalize (d : Rat) = d at *
  subst e1
  grind
theorem log_den {x : Rat} {n : Nat} (h : Sz n x) (h0 : 0 < n) (hn : n ≤ 1920) : KG.ShowOk (.tuple [.int x.num, .int (x.den : Int)]) :=
  sh_two (log_of h.1 h0 hn) (log_of (by rw [Int.natAbs_natCast]; exact h.2) h0 hn)
theorem dp_fr {K : PySem.W.Frag} {H : Hp} {p : Addr} {x : Rat} (h : H p = some (.tup (frV x))) : Dp K H (.ref p) (.tuple [.int x.num, .int (x.den : Int)]) :=
  .tup (.inl (.inl h)) (.cons (.int _) (.cons (.int _) .nil))
/-! ### a display with one key, a tuple -/
def tDispT1 (tk tv : TE) : TE := fun σ H Q => ∀ p, H p = none → tk σ (upd H p (.dT [])) fun x H1 => tv σ H1 fun y H2 => H2 p = some (.dT []) ∧ ∃ (k : List Key) (b : Addr), x = .ref b ∧ H2 b = some (.tup (k.map kV)) ∧ Q (.ref p) (upd H2 p (.dT [(k, y)]))
theorem pe_dispT1 {X : Cx} {pos : Pos} {k v : Expr} {tk tv : TE} (hu : X.A.units + 1 < cLine) (hk : PE X k tk) (hv : PE X v tv) : PE X (.Dict [some k] [v] pos) (tDispT1 tk tv) := by
  refine ⟨fun pins s σ H Q I q => ?_⟩
  have hn := I.hok.fresh (Nat.le_refl s.heap.objs.size)
  have I1 := I.laid (a := s.heap.objs.size) (o := .dT []) (h' := s.heap.push { cls := .type "dict", data := .dict #[] }) (t' := s.toks) (fun _ _ q => Heap.get?_push_of_some _ q) (Nat.le_refl _) (dt_empty s.heap I.big)
  have hsh := zip_pairTrees [some k] [v] X.env pos rfl rfl
  have hne : pairTrees [some k] [v] X.env pos ≠ [] := fun z => by
    have := pairTrees_length [some k] [v] X.env pos rfl rfl
    rw [z] at this
    exact nomatch this
  have hl : (pairTrees [some k] [v] X.env pos).length ≤ 15 := by rw [pairTrees_length [some k] [v] X.env pos rfl rfl]; show 1 ≤ 15; decide
  rw [arm_eval_Dict, hsh, dictDisplay_pairs _ hne (by omega)]
  refine wpAny_bind (wpAny_standAt (wpAny_bind (wpAny_subDictH (knd := tupleKind (mixKind X.prog X.w)) (by show X.A.units < cLine; omega) hl ?_)))
  refine thn ((pps_cons hk hv pps_nil : PPs X pos [some k] [v] [(tk, tv)]).run pins _ σ _ (fun ps H2 => match ps with
    | [(x, y)] => H2 s.heap.objs.size = some (.dT []) ∧ ∃ (k : List Key) (b : Addr), x = .ref b ∧ H2 b = some (.tup (k.map kV)) ∧ Q (.ref s.heap.objs.size) (upd H2 s.heap.objs.size (.dT [(k, y)]))
    | _ => False) I1 (q _ hn)) ?_
  rintro ws s2 ⟨ps, H2, I2, rel, hq⟩
  match ps, ws, rel, hq with
  | [(x, y)], _, .cons (b := (u1, u2)) ⟨r1, r2⟩ .nil, ⟨e, kk, b, ex, eb, q2⟩ =>
    subst ex
    cases (show u1 = Value.ref b from r1)
    obtain ⟨z, hd, xs, r0, dd⟩ := dt_of I2.hok e
    cases r0
    refine ⟨[(kk, b, u2)], ⟨rfl, rfl, key_of I2.hok eb, trivial⟩, dd, fun h' tk dd' hs => wpAny_pure ⟨.ref s.heap.objs.size, _, ?_, rfl, q2⟩⟩
    obtain ⟨o, es, ep, ho, h2, h3, h4, _, h5⟩ := dd'
    refine d_write I2 (by rw [e]; exact True.intro) hs ⟨o, ho⟩ ⟨by show 1 ≤ sizeLine; decide, hd, _, .cons ⟨rfl, ?_, r2⟩ .nil, o, es, ep, ho, h2, h3, h4, h5⟩
    rw [upd_ne (ne_of eb e (fun z => nomatch z))]
    exact eb
end KGX

namespace KGX
open PySem PySem.Spec PyProof.Rows L2
/-! ### all some kinds -/
def rg (n : Nat) : List Int := (List.range n).map fun i : Nat => (i : Int)
theorem rgV_rg (n : Nat) : rgV 0 (n : Int) = (rg n).map V.int := by
  unfold rgV rg
  rw [List.map_map, show ((n : Int) - 0).toNat = n by omega]
  refine List.map_congr_left fun i _ => ?_
  show V.int (0 + (i : Int)) = V.int (i : Int)
  rw [Int.zero_add]
def allSub (ks : List Int) : List (List Int) := ks.foldl (fun f k => f ++ f.map (· ++ [k])) [[]]
theorem allSub_app (ks : List Int) (k : Int) : allSub (ks ++ [k]) = allSub ks ++ (allSub ks).map (· ++ [k]) := by
  unfold allSub
  rw [List.foldl_append]
  rfl
theorem allSub_len : ∀ (m : Nat) (ks : List Int), ks.length = m → (allSub ks).length = 2 ^ m
  | 0, ks, h => by rw [List.eq_nil_of_length_eq_zero h]; rfl
  | m + 1, ks, h => by
    rcases List.eq_nil_or_concat ks with rfl | ⟨r, k, rfl⟩
    · exact nomatch h
    · rw [List.concat_eq_append] at h ⊢
      rw [List.length_append] at h
      rw [allSub_app, List.length_append, List.length_map, allSub_len m r (by simpa using h), Nat.pow_succ]
      omega
theorem allSub_le : ∀ (m : Nat) (ks : List Int), ks.length = m → ∀ S ∈ allSub ks, S.length ≤ m
  | 0, ks, h => by
    rw [List.eq_nil_of_length_eq_zero h]
    intro S hS
    rw [List.mem_singleton.mp hS]
    exact Nat.le_refl _
  | m + 1, ks, h => by
    rcases List.eq_nil_or_concat ks with rfl | ⟨r, k, rfl⟩
    · exact nomatch h
    · rw [List.concat_eq_append] at h ⊢
      have hr : r.length = m := by rw [List.length_append] at h; simpa using h
      rw [allSub_app]
      intro S hS
      rcases List.mem_append.mp hS with hS | hS
      · have := allSub_le m r hr S hS; omega
      · obtain ⟨T, hT, rfl⟩ := List.mem_map.mp hS
        have := allSub_le m r hr T hT
        rw [List.length_append, List.length_singleton]; omega
/-- what is to be known of the somes of up to five kinds -/
def okSub (n : Nat) : Bool :=
  (List.range (2 ^ n)).all fun i =>
    let S := (allSub (rg n)).getD i []
    decide (S.length ≤ 5) && S.all (fun k => decide (0 ≤ k) && decide (k < n)) && decide (S.Pairwise (· < ·)) && S.all (fun k => ((allSub (rg n)).take i).contains (S.filter (fun j => decide (j ≠ k)))) && !((allSub (rg n)).take i).contains S && (i == 0 || !S.isEmpty)
theorem okSub_all : ∀ n, n ≤ 5 → okSub n = true
  | 0, _ | 1, _ | 2, _ | 3, _ | 4, _ | 5, _ => by decide +kernel
  | n + 6, h => by omega
theorem rg_succ (n : Nat) : rg (n + 1) = rg n ++ [(n : Int)] := by unfold rg; rw [List.range_succ, List.map_append]; rfl
theorem rg_len (n : Nat) : (rg n).length = n := by unfold rg; rw [List.length_map, List.length_range]
structure SubAt (n i : Nat) (S : List Int) : Prop where
  len : S.length ≤ 5
  mem : ∀ k ∈ S, 0 ≤ k ∧ k < n
  rise : Rise S
  fewer : ∀ k ∈ S, S.filter (fun j => decide (j ≠ k)) ∈ (allSub (rg n)).take i
  new : S ∉ (allSub (rg n)).take i
  one : i ≠ 0 → S ≠ []
theorem sub_at {n i : Nat} {S : List Int} (h : n ≤ 5) (e : (allSub (rg n))[i]? = some S) : SubAt n i S := by
  have o := okSub_all n h
  have hi := (List.getElem?_eq_some_iff.mp e).1
  rw [allSub_len n _ (rg_len n)] at hi
  have o1 := List.all_eq_true.mp o i (List.mem_range.mpr hi)
  have eS : (allSub (rg n)).getD i [] = S := by rw [List.getD_eq_getElem?_getD, e]; rfl
  simp only [eS, Bool.and_eq_true, decide_eq_true_eq, List.all_eq_true, Bool.or_eq_true, Bool.not_eq_true', List.contains_eq_mem, List.isEmpty_eq_false_iff, beq_iff_eq, decide_eq_false_iff_not] at o1
  obtain ⟨⟨⟨⟨⟨o1, o2⟩, o3⟩, o4⟩, o5⟩, o6⟩ := o1
  exact ⟨o1, o2, o3, o4, o5, fun z => o6.resolve_left z⟩
theorem sub_all {n : Nat} {S : List Int} (h : n ≤ 5) (e : S ∈ allSub (rg n)) : ∃ i, i < 2 ^ n ∧ (allSub (rg n))[i]? = some S ∧ SubAt n i S := by
  obtain ⟨i, hi, e⟩ := List.mem_iff_getElem.mp e
  have e' : (allSub (rg n))[i]? = some S := by rw [List.getElem?_eq_getElem hi, e]
  refine ⟨i, ?_, e', sub_at h e'⟩
  rw [allSub_len n _ (rg_len n)] at hi
  exact hi
theorem sub_nil {n : Nat} : (allSub (rg n))[0]? = some [] := by
  induction n with
  | zero => rfl
  | succ n ih =>
    have : rg (n + 1) = rg n ++ [(n : Int)] := by unfold rg; rw [List.range_succ, List.map_append]; rfl
    rw [this, allSub_app, List.getElem?_append_left, ih]
    rw [allSub_len n _ (rg_len n)]
    exact Nat.two_pow_pos n
theorem sub_last {n : Nat} : (allSub (rg n))[2 ^ n - 1]? = some (rg n) := by
  induction n with
  | zero => rfl
  | succ n ih =>
    have : rg (n + 1) = rg n ++ [(n : Int)] := by unfold rg; rw [List.range_succ, List.map_append]; rfl
    have hp := Nat.two_pow_pos n
    rw [this, allSub_app, List.getElem?_append_right (by rw [allSub_len n _ (rg_len n), Nat.pow_succ]; omega), allSub_len n _ (rg_len n), List.getElem?_map, show 2 ^ (n + 1) - 1 - 2 ^ n = 2 ^ n - 1 by rw [Nat.pow_succ]; omega, ih]
    rfl
theorem rg_mem {n : Nat} : rg n ∈ allSub (rg n) := List.mem_of_getElem? sub_last
/-! ### means by who is left -/
theorem sumR_app : ∀ (xs ys : List Rat), (xs ++ ys).sum = xs.sum + ys.sum
  | [], ys => by show ys.sum = 0 + ys.sum; grind
  | x :: xs, ys => by
    have ih := sumR_app xs ys
    show x + (xs ++ ys).sum = (x + xs.sum) + ys.sum
    rw [ih]; grind
theorem sumZ_app : ∀ (xs ys : List Int), (xs ++ ys).sum = xs.sum + ys.sum
  | [], ys => by show ys.sum = 0 + ys.sum; omega
  | x :: xs, ys => by
    have ih := sumZ_app xs ys
    show x + (xs ++ ys).sum = (x + xs.sum) + ys.sum
    rw [ih]; omega
theorem cast_sum : ∀ (xs : List Int), ((xs.sum : Int) : Rat) = (xs.map fun x : Int => (x : Rat)).sum
  | [] => rfl
  | x :: xs => by
    have ih := cast_sum xs
    show ((x + xs.sum : Int) : Rat) = (x : Rat) + (xs.map fun x : Int => (x : Rat)).sum
    rw [Rat.intCast_add, ih]
/-- the share of a kind -/
def sh (ns : List Int) (k : Int) : Int := ns.getD k.toNat 0
def wts (ns S : List Int) : List Rat := S.map fun k => (sh ns k : Rat)
theorem wts_pick (ns S : List Int) : wts ns S = (pick ns S).map fun x : Int => (x : Rat) := by unfold wts pick sh; rw [List.map_map]; rfl
theorem wts_sum (ns S : List Int) : (wts ns S).sum = (((pick ns S).sum : Int) : Rat) := by rw [wts_pick, cast_sum]
/-- over all somes of S: of an odd number less of an even one -/
def sgn (g : Rat → Rat) (ns : List Int) (c : Rat) (T : List Int) : Rat := if T.length % 2 = 1 then g (c + (wts ns T).sum) else - g (c + (wts ns T).sum)
theorem sgn_app (g : Rat → Rat) (ns : List Int) (c : Rat) (T : List Int) (k : Int) : sgn g ns c (T ++ [k]) = - sgn g ns (c + (sh ns k : Rat)) T := by
  unfold sgn
  have e : c + (wts ns (T ++ [k])).sum = c + (sh ns k : Rat) + (wts ns T).sum := by
    unfold wts
    rw [List.map_append, sumR_app]
    show c + ((T.map fun k => (sh ns k : Rat)).sum + ((sh ns k : Rat) + 0)) = _
    grind
  rw [e, List.length_append, List.length_singleton]
  by_cases h : T.length % 2 = 1
  · rw [if_neg (by omega), if_pos h]
  · rw [if_pos (by omega), if_neg h]; grind
theorem neg_sum (f : List Int → Rat) : ∀ (l : List (List Int)), (l.map fun T => - f T).sum = - (l.map f).sum
  | [] => by show (0 : Rat) = -0; grind
  | T :: l => by
    have ih := neg_sum f l
    show - f T + (l.map fun T => - f T).sum = - (f T + (l.map f).sum)
    rw [ih]; grind
theorem sgn_sum (g : Rat → Rat) (ns : List Int) : ∀ (m : Nat) (S : List Int) (c : Rat), S.length = m → ((allSub S).map (sgn g ns c)).sum = altS g (wts ns S) c
  | 0, S, c, h => by
    rw [List.eq_nil_of_length_eq_zero h]
    show (if (0 % 2 = 1) then g (c + 0) else - g (c + 0)) + 0 = - g c
    rw [if_neg (by decide), show c + 0 = c by grind]; grind
  | m + 1, S, c, h => by
    rcases List.eq_nil_or_concat S with rfl | ⟨r, k, rfl⟩
    · exact nomatch h
    · rw [List.concat_eq_append] at h ⊢
      have hr : r.length = m := by rw [List.length_append] at h; simpa using h
      have e1 : wts ns (r ++ [k]) = wts ns r ++ [(sh ns k : Rat)] := by unfold wts; rw [List.map_append]; rfl
      rw [allSub_app, List.map_append, sumR_app, List.map_map, e1, altS_app, sgn_sum g ns m r c hr, ← sgn_sum g ns m r (c + (sh ns k : Rat)) hr]
      have e2 : (sgn g ns c ∘ fun x => x ++ [k]) = fun T => - sgn g ns (c + (sh ns k : Rat)) T := by
        funext T; exact sgn_app g ns c T k
      rw [e2, neg_sum]; grind
/-- the mean until all of S have come -/
def fV (ns S : List Int) : Rat := altS (per (ns.sum : Rat)) (wts ns S) 0
theorem per_zero (t : Rat) : per t 0 = 0 := by
  show t / 0 = 0
  rw [Rat.div_def, Rat.inv_zero, Rat.mul_zero]
theorem fV_nil (ns : List Int) : fV ns [] = 0 := by
  show - per _ 0 = 0
  rw [per_zero]; grind
theorem dsum_filter (g : Rat → Rat) (ns : List Int) : ∀ (post pre : List Int), (pre ++ post).Nodup → dsum g (wts ns pre) (wts ns post) 0 = (post.map fun k => (sh ns k : Rat) * altS g (wts ns ((pre ++ post).filter (fun j => decide (j ≠ k)))) 0).sum
  | [], pre, _ => rfl
  | k :: r, pre, h => by
    have hk : ∀ x ∈ pre, x ≠ k := fun x hx z => by
      subst z
      exact (List.nodup_append.mp h).2.2 x hx x List.mem_cons_self rfl
    have hk2 : ∀ x ∈ r, x ≠ k := fun x hx z => by
      subst z
      exact (List.nodup_cons.mp (List.nodup_append.mp h).2.1).1 hx
    have e : (pre ++ k :: r).filter (fun j => decide (j ≠ k)) = pre ++ r := by
      rw [List.filter_append, List.filter_cons_of_neg (by simp), List.filter_eq_self.mpr (fun x hx => decide_eq_true (hk x hx)), List.filter_eq_self.mpr (fun x hx => decide_eq_true (hk2 x hx))]
    have e2 : pre ++ k :: r = (pre ++ [k]) ++ r := by simp
    have ih := dsum_filter g ns r (pre ++ [k]) (by rw [← e2]; exact h)
    rw [← e2] at ih
    show (sh ns k : Rat) * altS g (wts ns pre ++ wts ns r) 0 + dsum g (wts ns pre ++ [(sh ns k : Rat)]) (wts ns r) 0 = (sh ns k : Rat) * altS g (wts ns ((pre ++ k :: r).filter (fun j => decide (j ≠ k)))) 0 + _
    rw [e]
    have e3 : wts ns pre ++ [(sh ns k : Rat)] = wts ns (pre ++ [k]) := by unfold wts; rw [List.map_append]; rfl
    have e4 : wts ns pre ++ wts ns r = wts ns (pre ++ r) := by unfold wts; rw [List.map_append]
    rw [e3, e4, ih]
    rfl
theorem rise_nodup {S : List Int} (h : Rise S) : S.Nodup := h.imp fun z => by omega
/-- what is due -/
theorem fV_rec {ns S : List Int} (hS : Rise S) (h0 : S ≠ []) (hw : ∀ k ∈ S, 0 < sh ns k) :
    (ns.sum : Rat) + (S.map fun k => (sh ns k : Rat) * fV ns (S.filter (fun j => decide (j ≠ k)))).sum = (((pick ns S).sum : Int) : Rat) * fV ns S := by
  have h1 := dsum_filter (per (ns.sum : Rat)) ns S [] (rise_nodup hS)
  have h2 := dsum_zero (ns.sum : Rat) (wts ns S) (fun x hx => by
    obtain ⟨k, hk, rfl⟩ := List.mem_map.mp hx
    exact_mod_cast hw k hk)
  have h3 : wts ns S ≠ [] := fun z => h0 (List.map_eq_nil_iff.mp z)
  rw [if_neg h3, wts_sum] at h2
  have h4 : wts ns [] = [] := rfl
  rw [h4, h2] at h1
  show (ns.sum : Rat) + (S.map fun k => (sh ns k : Rat) * altS (per (ns.sum : Rat)) (wts ns (S.filter (fun j => decide (j ≠ k)))) 0).sum = _ * altS (per (ns.sum : Rat)) (wts ns S) 0
  have h5 : (S.map fun k => (sh ns k : Rat) * altS (per (ns.sum : Rat)) (wts ns (([] ++ S).filter (fun j => decide (j ≠ k)))) 0).sum = (S.map fun k => (sh ns k : Rat) * altS (per (ns.sum : Rat)) (wts ns (S.filter (fun j => decide (j ≠ k)))) 0).sum := rfl
  rw [h5] at h1
  rw [← h1]; grind
theorem altS_sz {t : Int} (ht : 0 ≤ t) (ht2 : t ≤ 63) : ∀ (zs : List Int) (c : Int), (∀ x ∈ zs, 0 ≤ x) → 0 ≤ c → c + zs.sum ≤ 63 → Sz (7 * 2 ^ zs.length - 1) (altS (per (t : Rat)) (zs.map fun x : Int => (x : Rat)) (c : Rat))
  | [], c, _, h0, h1 => by
    have h1 : c + 0 ≤ 63 := h1
    show Sz 6 (-(per (t : Rat) (c : Rat)))
    refine Sz.neg ?_
    by_cases hc : c = 0
    · subst hc
      rw [show ((0 : Int) : Rat) = 0 from rfl, per_zero]
      exact ⟨by decide, by decide⟩
    · refine sz_div (t := t) (b := c) (by omega) ?_ ?_ <;> omega
  | x :: zs, c, hx, h0, h1 => by
    have x0 := hx x List.mem_cons_self
    rw [List.sum_cons] at h1
    have s0 : ∀ zs : List Int, (∀ x ∈ zs, 0 ≤ x) → 0 ≤ zs.sum := by
      intro zs
      induction zs with
      | nil => intro _; decide
      | cons y r ih =>
        intro h
        have a := h y List.mem_cons_self
        have b := ih fun z hz => h z (List.mem_cons_of_mem _ hz)
        rw [List.sum_cons]; omega
    have z0 := s0 zs fun z hz => hx z (List.mem_cons_of_mem _ hz)
    have a := altS_sz ht ht2 zs c (fun z hz => hx z (List.mem_cons_of_mem _ hz)) h0 (by omega)
    have b := altS_sz ht ht2 zs (c + x) (fun z hz => hx z (List.mem_cons_of_mem _ hz)) (by omega) (by omega)
    rw [Rat.intCast_add] at b
    have r := a.sub b
    show Sz _ (altS (per (t : Rat)) (zs.map fun x : Int => (x : Rat)) (c : Rat) - altS (per (t : Rat)) (zs.map fun x : Int => (x : Rat)) ((c : Rat) + (x : Rat)))
    refine r.mono ?_
    rw [List.length_cons, Nat.pow_succ]
    have := Nat.two_pow_pos zs.length
    omega
theorem fV_sz {ns S : List Int} (g : Good ns) (hS : S.length ≤ 5) (hm : ∀ k ∈ S, 0 ≤ k ∧ k < ns.length) : Sz 223 (fV ns S) := by
  have b := sum_bounds (pick_bounds g hm)
  have s := g.sum_pos
  have pl : (pick ns S).length = S.length := by rw [pick, List.length_map]
  have r := altS_sz (t := ns.sum) (by omega) (by omega) (pick ns S) 0 (fun x hx => (pick_bounds g hm x hx).1) (by omega) (by omega)
  unfold fV
  rw [wts_pick]
  refine r.mono ?_
  rw [pl]
  have : 2 ^ S.length ≤ 2 ^ 5 := Nat.pow_le_pow_right (by decide) hS
  omega
theorem sh_good {ns : List Int} (g : Good ns) {k : Int} (h : 0 ≤ k ∧ k < ns.length) : 1 ≤ sh ns k ∧ sh ns k ≤ 9 := by
  have hl : k.toNat < ns.length := by omega
  unfold sh
  rw [List.getD_eq_getElem?_getD, List.getElem?_eq_getElem hl]
  exact g.2.2 ns[k.toNat] (List.getElem_mem hl)
theorem pick_pos {ns S : List Int} (g : Good ns) (h0 : S ≠ []) (hm : ∀ k ∈ S, 0 ≤ k ∧ k < ns.length) (hl : S.length ≤ 5) : 0 < (pick ns S).sum ∧ (pick ns S).sum ≤ 45 := by
  have b := sum_bounds (pick_bounds g hm)
  have pl : (pick ns S).length = S.length := by rw [pick, List.length_map]
  refine ⟨?_, by omega⟩
  cases S with
  | nil => exact absurd rfl h0
  | cons k r =>
    have b2 := sum_bounds (pick_bounds (ks := r) g fun k hk => hm k (List.mem_cons_of_mem _ hk))
    have := sh_good g (hm k List.mem_cons_self)
    show 0 < sh ns k + (pick ns r).sum
    omega
end KGX

namespace KGX
open PySem PySem.Spec PyProof.Rows L2
/-! ### comprehensions -/
/-- what was made so far -/
def LcI (H1 : Hp) (D : Addr) (ys : List V) : Hp → Prop := fun H => Same H1 H ∧ H D = some (.lst ys)
theorem LcI.put {H1 H H4 : Hp} {D : Addr} {ys : List V} {y : V} (h : LcI H1 D ys H) (hD : H1 D = none) (hl : ys.length ≤ 1000) (s : Same H H4) :
    ∃ acc, H4 D = some (.lst acc) ∧ acc.length < sizeLine ∧ LcI H1 D (ys ++ [y]) (upd H4 D (.lst (acc ++ [y]))) := by
  refine ⟨ys, s _ _ h.2, small1000 hl, ?_, upd_same⟩
  intro b o e
  rw [upd_ne (ne_of_none e hD)]
  exact s _ _ (h.1 _ _ e)
theorem LcI.stay {H1 H H3 : Hp} {D : Addr} {ys : List V} (h : LcI H1 D ys H) (s : Same H H3) : LcI H1 D ys H3 := ⟨h.1.trans s, s _ _ h.2⟩
theorem take_step {α : Type} {xs : List α} {i : Nat} {x : α} (h : xs[i]? = some x) : xs.take (i + 1) = xs.take i ++ [x] := by rw [List.take_add_one, h]; rfl
theorem map_at {xs : List Int} {i : Nat} {y : V} (h : (xs.map V.int)[i]? = some y) : ∃ k, xs[i]? = some k ∧ y = .int k ∧ k ∈ xs := by
  rw [List.getElem?_map] at h
  cases hz : xs[i]? with
  | none => rw [hz] at h; exact nomatch h
  | some k => rw [hz] at h; exact ⟨k, rfl, (Option.some.inj h).symm, List.mem_of_getElem? hz⟩
theorem ref_at {xs : List Addr} {i : Nat} {y : V} (h : (xs.map V.ref)[i]? = some y) : ∃ q, xs[i]? = some q ∧ y = .ref q ∧ q ∈ xs := by
  rw [List.getElem?_map] at h
  cases hz : xs[i]? with
  | none => rw [hz] at h; exact nomatch h
  | some k => rw [hz] at h; exact ⟨k, rfl, (Option.some.inj h).symm, List.mem_of_getElem? hz⟩
/-! ### rows of tuples -/
def Tups (H : Hp) (qs : List Addr) (Ss : List (List Int)) : Prop := Paired (fun q S => H q = some (.tup (S.map V.int))) qs Ss
theorem Tups.mono {H H' : Hp} {qs : List Addr} {Ss : List (List Int)} (h : Tups H qs Ss) (s : Same H H') : Tups H' qs Ss := Paired.mapP h fun _ _ z => s _ _ z
theorem Tups.upd {H : Hp} {D : Addr} {o o' : List V} {qs : List Addr} {Ss : List (List Int)} (h : Tups H qs Ss) (e : H D = some (.lst o)) : Tups (upd H D (.lst o')) qs Ss := Paired.mapP h fun _ _ z => by
  rw [upd_ne (ne_of z e (by intro w; cases w))]; exact z
theorem paired_at {α β : Type} {F : α → β → Prop} : ∀ {l₁ : List α} {l₂ : List β} {i : Nat} {a : α}, Paired F l₁ l₂ → l₁[i]? = some a → ∃ b, l₂[i]? = some b ∧ F a b
  | _, _, 0, _, .cons h _, e => by cases e; exact ⟨_, rfl, h⟩
  | _, _, i + 1, _, .cons _ t, e => paired_at (i := i) t e
  | _, _, _, _, .nil, e => by simp at e
theorem paired_app {α β : Type} {F : α → β → Prop} : ∀ {l₁ m₁ : List α} {l₂ m₂ : List β}, Paired F l₁ l₂ → Paired F m₁ m₂ → Paired F (l₁ ++ m₁) (l₂ ++ m₂)
  | _, _, _, _, .nil, q => q
  | _, _, _, _, .cons h t, q => .cons h (paired_app t q)
/-! ### papers: a dict by somes -/
def kOf (S : List Int) : List Key := S.map Sum.inl
theorem kOf_kV (S : List Int) : (kOf S).map kV = S.map V.int := by unfold kOf; rw [List.map_map]; rfl
theorem kOf_inj {S T : List Int} (h : kOf S = kOf T) : S = T := by
  unfold kOf at h
  exact List.map_inj_right (fun a b z => Sum.inl.inj z) |>.mp h
def kvOf : List (List Int) → List Addr → List (List Key × V) := List.zipWith fun S p => (kOf S, .ref p)
def PapAt (H : Hp) (d : Addr) (Ss : List (List Int)) (f : List Int → Rat) : Prop := ∃ ps : List Addr, H d = some (.dT (kvOf Ss ps)) ∧ Paired (fun S p => H p = some (.tup (frV (f S)))) Ss ps
theorem PapAt.mono {H H' : Hp} {d : Addr} {Ss : List (List Int)} {f : List Int → Rat} (h : PapAt H d Ss f) (s : Same H H') : PapAt H' d Ss f := by
  obtain ⟨ps, e, r⟩ := h
  exact ⟨ps, s _ _ e, Paired.mapP r fun _ _ z => s _ _ z⟩
theorem kv_get {H : Hp} {f : List Int → Rat} : ∀ {Ss : List (List Int)} {ps : List Addr} {S : List Int}, Paired (fun S p => H p = some (.tup (frV (f S)))) Ss ps → S ∈ Ss → ∃ p, valV (kvOf Ss ps) (kOf S) = some (.ref p) ∧ H p = some (.tup (frV (f S)))
  | _, _, S, .cons (a := T) (b := p) h t, hm => by
    by_cases e : T = S
    · subst e
      exact ⟨p, valV_pos (p := (kOf T, V.ref p)) rfl, h⟩
    · obtain ⟨p', e1, e2⟩ := kv_get t ((List.mem_cons.mp hm).resolve_left fun z => e z.symm)
      exact ⟨p', by rw [← e1]; exact valV_neg (p := (kOf T, V.ref p)) fun z => e (kOf_inj z), e2⟩
  | _, _, _, .nil, hm => nomatch hm
theorem kv_none {H : Hp} {f : List Int → Rat} : ∀ {Ss : List (List Int)} {ps : List Addr} {S : List Int}, Paired (fun S p => H p = some (.tup (frV (f S)))) Ss ps → S ∉ Ss → valV (kvOf Ss ps) (kOf S) = none
  | _, _, S, .cons (a := T) (b := p) h t, hm => by
    have e : T ≠ S := fun z => hm (z ▸ List.mem_cons_self)
    rw [← kv_none t fun z => hm (List.mem_cons_of_mem _ z)]
    exact valV_neg (p := (kOf T, V.ref p)) fun z => e (kOf_inj z)
  | _, _, _, .nil, _ => rfl
theorem kvOf_app {F : List Int → Addr → Prop} {S : List Int} {p : Addr} : ∀ {Ss : List (List Int)} {ps : List Addr}, Paired F Ss ps → kvOf (Ss ++ [S]) (ps ++ [p]) = kvOf Ss ps ++ [(kOf S, .ref p)]
  | _, _, .nil => rfl
  | _, _, .cons (l₁ := l) (l₂ := m) _ t => by
    show _ :: kvOf (l ++ [S]) (m ++ [p]) = _
    rw [kvOf_app t]
    rfl
theorem kvOf_len {F : List Int → Addr → Prop} : ∀ {Ss : List (List Int)} {ps : List Addr}, Paired F Ss ps → (kvOf Ss ps).length = Ss.length
  | _, _, .nil => rfl
  | _, _, .cons _ t => by
    show (kvOf _ _).length + 1 = _ + 1
    rw [kvOf_len t]
/-- d[S] -/
theorem PapAt.get {H : Hp} {d b : Addr} {Ss : List (List Int)} {f : List Int → Rat} {S : List Int} (h : PapAt H d Ss f) (hm : S ∈ Ss) (eb : H b = some (.tup (S.map V.int))) : ∃ p, DGet H d (.ref b) (some (.ref p)) ∧ H p = some (.tup (frV (f S))) := by
  obtain ⟨ps, e, r⟩ := h
  obtain ⟨p, e1, e2⟩ := kv_get r hm
  refine ⟨p, ?_, e2⟩
  rw [← e1]
  exact DGet.t e (by rw [kOf_kV]; exact eb)
/-- d[S] = x, S not yet there -/
theorem PapAt.put {H : Hp} {d b p : Addr} {Ss : List (List Int)} {f : List Int → Rat} {S : List Int} (h : PapAt H d Ss f) (hm : S ∉ Ss) (hl : Ss.length ≤ 1000) (eb : H b = some (.tup (S.map V.int))) (ep : H p = some (.tup (frV (f S)))) :
    ∃ H', DPut H d (.ref b) (.ref p) H' ∧ PapAt H' d (Ss ++ [S]) f ∧ Kp d H H' := by
  obtain ⟨ps, e, r⟩ := h
  refine ⟨_, DPut.t e (k := kOf S) (by rw [kOf_kV]; exact eb) (by rw [kvOf_len r]; exact small1000 hl), ⟨ps ++ [p], ?_, ?_⟩, fun a o n z => by rw [upd_ne n]; exact z⟩
  · rw [upd_same, putK_new _ (kv_none r hm), kvOf_app r]
  · have ne : ∀ q : Addr, ∀ xs, H q = some (.tup xs) → q ≠ d := fun q xs z => ne_of z e (by intro w; cases w)
    refine Paired.snoc (Paired.mapP r fun S p z => ?_) ?_
    · rw [upd_ne (ne p _ z)]; exact z
    · rw [upd_ne (ne p _ ep)]; exact ep
/-! ### promises -/
def spAllKinds : Sp := fun vs H Q _ => ∃ (a : Addr) (ns : List V), vs = [.ref a] ∧ H a = some (.tup ns) ∧ ns.length ≤ 1000 ∧ ∀ H' p, Same H H' → H p = none → H' p = some (.tup ((rg ns.length).map V.int)) → Q (.ref p) H'
/-- a list of new tuples -/
def newTups (Ss : List (List Int)) : VK → Hp → Prop := fun Q H => ∀ H' L qs, Same H H' → H L = none → H' L = some (.lst (qs.map V.ref)) → Tups H' qs Ss → Q (.ref L) H'
def spAllSome : Sp := fun vs H Q _ => ∃ (c : Addr) (ks : List Int), vs = [.ref c] ∧ H c = some (.tup (ks.map V.int)) ∧ ks.length ≤ 5 ∧ newTups (allSub ks) Q H
def spLawAllSome : Sp := fun vs H Q _ => ∃ (n : Nat), vs = [.int n] ∧ n ≤ 5 ∧ newTups (allSub (rg n)) Q H
def spShareOf (K : PySem.W.Frag) : Sp := fun vs H Q _ => ∃ (a c : Addr) (ns ks : List Int), vs = [.ref a, .ref c] ∧ H a = some (.tup (ns.map V.int)) ∧ H c = some (.tup (ks.map V.int)) ∧ ks.length ≤ 1000 ∧ (∀ k ∈ ks, 0 ≤ k ∧ k < ns.length) ∧
  ∀ H', Same H H' → Q (.int (pick ns ks).sum) H'
def spMeanAll : Sp := fun vs H Q _ => ∃ (a : Addr) (ns : List Int), vs = [.ref a] ∧ H a = some (.tup (ns.map V.int)) ∧ Good ns ∧ newR (fV ns (rg ns.length)) Q H
def spLawPaper : Sp := fun vs H Q _ => ∃ (a : Addr) (ns : List Int), vs = [.ref a] ∧ H a = some (.tup (ns.map V.int)) ∧ Good ns ∧ ∀ H' d, Same H H' → H d = none → PapAt H' d (allSub (rg ns.length)) (fV ns) → Q (.ref d) H'
end KGX
namespace KGX
open PySem PySem.Spec PyProof.Rows L2
/-! ### rows of ints, compared -/
theorem dp_ints {K : PySem.W.Frag} {H : Hp} : ∀ (S : List Int), DpAll K H (S.map V.int) (S.map PyData.int)
  | [] => .nil
  | k :: r => .cons (.int k) (dp_ints r)
theorem lay_ints : ∀ (S : List Int), PyData.canLayAll0 (S.map PyData.int) = true
  | [] => rfl
  | k :: r => by
    show (PyData.canLay0 (.int k) && PyData.canLayAll0 (r.map PyData.int)) = true
    rw [lay_ints r]; rfl
theorem depth_ints : ∀ (S : List Int), PyData.depthAll (S.map PyData.int) = 0
  | [] => rfl
  | k :: r => by
    show max 0 (PyData.depthAll (r.map PyData.int)) = 0
    rw [depth_ints r]; rfl
theorem shaped_ints (S : List Int) : SeqAt.shaped (.tuple (S.map PyData.int)) = true := by
  show (PyData.canLayAll0 (S.map PyData.int) && decide (PyData.depthAll (S.map PyData.int) + 1 ≤ 64)) = true
  rw [lay_ints, depth_ints]; rfl
theorem eqvAll_ints : ∀ (S T : List Int), PyData.eqvAll (S.map PyData.int) (T.map PyData.int) = decide (S = T)
  | [], [] => rfl
  | [], _ :: _ => rfl
  | _ :: _, [] => rfl
  | k :: r, j :: t => by
    show (PyData.eqv (.int k) (.int j) && PyData.eqvAll (r.map PyData.int) (t.map PyData.int)) = _
    rw [eqvAll_ints r t]
    show ((k == j) && decide (r = t)) = _
    by_cases h : k = j
    · subst h; simp
    · simp [h]
theorem eqv_ints (S T : List Int) : PyData.eqv (.tuple (S.map PyData.int)) (.tuple (T.map PyData.int)) = decide (S = T) := eqvAll_ints S T
theorem dp_tup {K : PySem.W.Frag} {H : Hp} {a : Addr} {S : List Int} (h : H a = some (.tup (S.map V.int))) : Dp K H (.ref a) (.tuple (S.map PyData.int)) := .tup (.inl (.inl h)) (dp_ints S)
end KGX
namespace KGX
open PySem PySem.Spec PyProof.Rows L2
theorem rat_over (x : Rat) {A : Int} (h : 0 < A) : ((x.num : Int) : Rat) / (((x.den : Int) * A : Int) : Rat) = x / (A : Rat) := by
  have e1 := rat_self x
  have h1 := den_ne x
  have h2 := cast_ne h
  rw [Rat.intCast_mul]
  generalize (x.num : Rat) = a at *
  generalize ((x.den : Int) : Rat) = b at *
  generalize (A : Rat) = c at *
  subst e1
  grind
theorem low_over (x : Rat) {A : Int} (h : 0 < A) : low x.num ((x.den : Int) * A) = frV (x / (A : Rat)) := by rw [low_eq (Int.mul_pos (den_pos x) h), rat_over x h]
theorem div_of {x y A : Rat} (h : A ≠ 0) (e : x = A * y) : x / A = y := by subst e; grind
theorem rat_scaled (x : Rat) (k : Int) : ((x.num * k : Int) : Rat) / ((x.den : Int) : Rat) = (k : Rat) * x := by
  have e1 := rat_self x
  have h1 := den_ne x
  rw [Rat.intCast_mul]
  generalize (x.num : Rat) = a at *
  generalize ((x.den : Int) : Rat) = b at *
  generalize (k : Rat) = c at *
  subst e1
  grind
/-- what has been put together of the due number -/
def psum (ns S : List Int) (f : List Int → Rat) (j : Nat) : Rat := (ns.sum : Rat) + ((S.take j).map fun k => (sh ns k : Rat) * f (S.filter (fun i => decide (i ≠ k)))).sum
theorem psum_zero (ns S : List Int) (f : List Int → Rat) : psum ns S f 0 = (ns.sum : Rat) := by unfold psum; rw [List.take_zero]; show _ + (0 : Rat) = _; grind
theorem psum_succ {ns S : List Int} {f : List Int → Rat} {j : Nat} {k : Int} (h : S[j]? = some k) : psum ns S f (j + 1) = psum ns S f j + (sh ns k : Rat) * f (S.filter (fun i => decide (i ≠ k))) := by
  unfold psum
  rw [take_step h, List.map_append, sumR_app]
  show _ + (_ + ((sh ns k : Rat) * f (S.filter (fun i => decide (i ≠ k))) + 0)) = _
  grind
theorem filter_step {S : List Int} {i : Nat} {x : Int} (k : Int) (h : S[i]? = some x) : (S.take (i + 1)).filter (fun j => decide (j ≠ k)) = (S.take i).filter (fun j => decide (j ≠ k)) ++ if x = k then [] else [x] := by
  rw [take_step h, List.filter_append]
  congr 1
  by_cases e : x = k
  · rw [if_pos e, List.filter_cons_of_neg (by simp [e])]; rfl
  · rw [if_neg e, List.filter_cons_of_pos (by simp [e])]; rfl
theorem frV_zero : frV 0 = [.int 0, .int 1] := rfl
theorem frV_int (t : Int) : frV (t : Rat) = [.int t, .int 1] := by unfold frV; rw [Rat.num_intCast, Rat.den_intCast]; rfl
end KGX

namespace KGX
open PySem PySem.Spec PyProof.Rows L2
/-! ### rows of ints: which are in -/
theorem inV_ints (k : Int) : ∀ ks : List Int, inV (.int k) (ks.map V.int) = decide (k ∈ ks)
  | [] => rfl
  | j :: r => by
    show ((j == k) || inV (.int k) (r.map V.int)) = _
    rw [inV_ints k r]
    by_cases h : j = k
    · subst h; simp
    · have h' : k ≠ j := fun z => h z.symm
      simp [h, h']
theorem flat_ints (ks : List Int) : (ks.map V.int).all flatV = true := by
  rw [List.all_map, List.all_eq_true]; intro x _; rfl
theorem sumZ_one {f : Int → Int} {x : Int} : ∀ {L : List Int}, L.Nodup → (L.map fun k => if k = x then f k else 0).sum = if x ∈ L then f x else 0
  | [], _ => rfl
  | j :: r, h => by
    have h2 := List.nodup_cons.mp h
    have ih := sumZ_one (f := f) (x := x) h2.2
    show (if j = x then f j else 0) + (r.map fun k => if k = x then f k else 0).sum = _
    rw [ih]
    by_cases e : j = x
    · subst e
      rw [if_pos rfl, if_neg h2.1, if_pos List.mem_cons_self]; omega
    · rw [if_neg e]
      by_cases m : x ∈ r
      · rw [if_pos m, if_pos (List.mem_cons_of_mem _ m)]; omega
      · rw [if_neg m, if_neg (fun z => (List.mem_cons.mp z).elim (fun w => e w.symm) m)]; rfl
theorem sumZ_add (f g : Int → Int) : ∀ (L : List Int), (L.map fun k => f k + g k).sum = (L.map f).sum + (L.map g).sum
  | [] => rfl
  | j :: r => by
    have ih := sumZ_add f g r
    show (f j + g j) + (r.map fun k => f k + g k).sum = (f j + (r.map f).sum) + (g j + (r.map g).sum)
    rw [ih]; omega
theorem sumZ_mem {f : Int → Int} {L : List Int} (hL : L.Nodup) : ∀ {ks : List Int}, ks.Nodup → (∀ k ∈ ks, k ∈ L) → (L.map fun k => if k ∈ ks then f k else 0).sum = (ks.map f).sum
  | [], _, _ => by
    have : ∀ L : List Int, (L.map fun k => if k ∈ ([] : List Int) then f k else 0).sum = 0 := by
      intro L
      induction L with
      | nil => rfl
      | cons j r ih =>
        show (if j ∈ ([] : List Int) then f j else 0) + (r.map fun k => if k ∈ ([] : List Int) then f k else 0).sum = 0
        rw [ih, if_neg (by simp)]; rfl
    exact this L
  | x :: r, h, hm => by
    have h2 := List.nodup_cons.mp h
    have ih := sumZ_mem (f := f) hL h2.2 fun k hk => hm k (List.mem_cons_of_mem _ hk)
    have e : (L.map fun k => if k ∈ x :: r then f k else 0) = L.map fun k => (if k = x then f k else 0) + (if k ∈ r then f k else 0) := by
      refine List.map_congr_left fun k _ => ?_
      by_cases e : k = x
      · subst e
        rw [if_pos List.mem_cons_self, if_pos rfl, if_neg h2.1]; omega
      · rw [if_neg e]
        by_cases m : k ∈ r
        · rw [if_pos m, if_pos (List.mem_cons_of_mem _ m)]; omega
        · rw [if_neg m, if_neg (fun z => (List.mem_cons.mp z).elim e m)]; rfl
    rw [e, sumZ_add, sumZ_one hL, if_pos (hm x List.mem_cons_self), ih]; rfl
theorem sumZ_filter (f : Int → Int) (p : Int → Bool) : ∀ (L : List Int), ((L.filter p).map f).sum + (L.map fun k => if p k = true then 0 else f k).sum = (L.map f).sum
  | [] => rfl
  | j :: r => by
    have ih := sumZ_filter f p r
    by_cases e : p j = true
    · rw [List.filter_cons_of_pos e]
      show (f j + ((r.filter p).map f).sum) + ((if p j = true then 0 else f j) + (r.map fun k => if p k = true then 0 else f k).sum) = f j + (r.map f).sum
      rw [if_pos e]; omega
    · rw [List.filter_cons_of_neg e]
      show ((r.filter p).map f).sum + ((if p j = true then 0 else f j) + (r.map fun k => if p k = true then 0 else f k).sum) = f j + (r.map f).sum
      rw [if_neg e]; omega
theorem rg_at {n i : Nat} (h : i < n) : (rg n)[i]? = some (i : Int) := by
  unfold rg
  rw [List.getElem?_map, List.getElem?_range h]; rfl
theorem rg_nodup (n : Nat) : (rg n).Nodup := rise_nodup (rise_range n)
theorem mem_rg {n : Nat} {k : Int} : k ∈ rg n ↔ 0 ≤ k ∧ k < n := by
  unfold rg
  rw [List.mem_map]
  constructor
  · rintro ⟨i, hi, rfl⟩
    have := List.mem_range.mp hi
    omega
  · rintro ⟨h0, h1⟩
    exact ⟨k.toNat, List.mem_range.mpr (by omega), by omega⟩
theorem pick_all (ns : List Int) : pick ns (rg ns.length) = ns := by
  refine List.ext_getElem? fun i => ?_
  unfold pick
  rw [List.getElem?_map]
  by_cases h : i < ns.length
  · rw [rg_at h]
    show some (ns.getD (i : Int).toNat 0) = _
    rw [Int.toNat_natCast, List.getD_eq_getElem?_getD, List.getElem?_eq_getElem h]; rfl
  · rw [List.getElem?_eq_none (by rw [rg_len]; omega), List.getElem?_eq_none (by omega)]; rfl
/-- some kinds and the others -/
theorem pick_both {ns ks : List Int} (hR : Rise ks) (hK : ∀ k ∈ ks, 0 ≤ k ∧ k < ns.length) : (pick ns ks).sum + (pick ns ((rg ns.length).filter fun k => !decide (k ∈ ks))).sum = ns.sum := by
  have e1 := sumZ_filter (fun k => ns.getD k.toNat 0) (fun k => !decide (k ∈ ks)) (rg ns.length)
  have e2 : ((rg ns.length).map fun k => if (!decide (k ∈ ks)) = true then 0 else ns.getD k.toNat 0) = (rg ns.length).map fun k => if k ∈ ks then ns.getD k.toNat 0 else 0 := by
    refine List.map_congr_left fun k _ => ?_
    by_cases m : k ∈ ks
    · rw [decide_eq_true m, if_pos m]; rfl
    · rw [decide_eq_false m, if_neg m]; rfl
  have e3 := sumZ_mem (f := fun k => ns.getD k.toNat 0) (rg_nodup ns.length) (rise_nodup hR) (fun k hk => mem_rg.mpr (hK k hk))
  have e4 := pick_all ns
  unfold pick at e4 ⊢
  rw [e2, e3, e4] at e1
  omega
/-! ### shares as texts -/
/-- how a share is written -/
def dg (n : Int) : Str := toString n
def txt (ns : List Int) : Str := Txt.join " " (ns.map dg)
def digs : List Str := [1, 2, 3, 4, 5, 6, 7, 8, 9].map dg
theorem dig {p : Int → Prop} (h : p 1 ∧ p 2 ∧ p 3 ∧ p 4 ∧ p 5 ∧ p 6 ∧ p 7 ∧ p 8 ∧ p 9) {n : Int} (h1 : 1 ≤ n) (h2 : n ≤ 9) : p n := by
  obtain ⟨a1, a2, a3, a4, a5, a6, a7, a8, a9⟩ := h
  rcases (show n = 1 ∨ n = 2 ∨ n = 3 ∨ n = 4 ∨ n = 5 ∨ n = 6 ∨ n = 7 ∨ n = 8 ∨ n = 9 by omega) with rfl | rfl | rfl | rfl | rfl | rfl | rfl | rfl | rfl <;> assumption
theorem dig_in {n : Int} (h1 : 1 ≤ n) (h2 : n ≤ 9) : inV (.str (dg n)) (digs.map V.str) = true := dig (p := fun n => inV (.str (dg n)) (digs.map V.str) = true) (by decide +kernel) h1 h2
theorem dig_int {n : Int} (h1 : 1 ≤ n) (h2 : n ≤ 9) : PySem.intText? (dg n) = some n := dig (p := fun n => PySem.intText? (dg n) = some n) (by decide +kernel) h1 h2
theorem dig_one {n : Int} (h1 : 1 ≤ n) (h2 : n ≤ 9) : (dg n).length = 1 := dig (p := fun n => (dg n).length = 1) (by decide +kernel) h1 h2
theorem dig_blank {n : Int} (h1 : 1 ≤ n) (h2 : n ≤ 9) : 32 ∉ TL.tl (dg n) := dig (p := fun n => 32 ∉ TL.tl (dg n)) (by decide +kernel) h1 h2
theorem split_txt {ns : List Int} (g : Good ns) : Txt.split (txt ns) " " = ns.map dg := by
  refine TL.split_join (s := 32) (S := []) (by decide +kernel) (by decide +kernel) (fun z => ?_) (fun p hp => ?_)
  · have := g.1
    rw [List.map_eq_nil_iff.mp z] at this
    exact absurd this (by decide)
  · obtain ⟨n, hn, rfl⟩ := List.mem_map.mp hp
    exact dig_blank (g.2.2 n hn).1 (g.2.2 n hn).2
theorem txt_sum {ns : List Int} (g : Good ns) : ((ns.map dg).map (·.length)).sum = ns.length := by
  have : ∀ ns : List Int, (∀ x ∈ ns, 1 ≤ x ∧ x ≤ 9) → ((ns.map dg).map (·.length)).sum = ns.length := by
    intro ns
    induction ns with
    | nil => intro _; rfl
    | cons x r ih =>
      intro h
      have := h x List.mem_cons_self
      show (dg x).length + ((r.map dg).map (·.length)).sum = r.length + 1
      rw [ih fun y hy => h y (List.mem_cons_of_mem _ hy), dig_one this.1 this.2]; omega
  exact this ns g.2.2
theorem txt_len {ns : List Int} (g : Good ns) : (txt ns).length ≤ 10 := by
  have e := StrLaws.join_length_le " " (ns.map dg)
  rw [txt_sum g, List.length_map] at e
  unfold txt
  rw [TL.join_eq]
  have h5 := g.2.1
  have h1 : (" " : Str).length = 1 := by decide +kernel
  rw [h1] at e
  omega
def spShow (K : PySem.W.Frag) : Sp := fun vs H Q _ => ∃ (a : Addr) (ns : List Int), vs = [.ref a] ∧ H a = some (.tup (ns.map V.int)) ∧ Good ns ∧ ∀ H', Same H H' → Q (.str (txt ns)) H'
def spShareWord : Sp := fun vs H Q _ => ∃ z, vs = [.str z] ∧ ∀ H', Same H H' → Q (.bl (inV (.str z) (digs.map V.str))) H'
def spRead0 : Sp := fun vs H Q _ => ∃ (ns : List Int), vs = [.str (txt ns)] ∧ Good ns ∧ ∀ H' p, Same H H' → H p = none → H' p = some (.tup (ns.map V.int)) → Q (.ref p) H'
end KGX
namespace KGX
open PySem PySem.Spec PyProof.Rows L2
theorem fr_ne {x y : Rat} (h : x = y) : PyData.eqv (.tuple [.int x.num, .int (x.den : Int)]) (.tuple [.int y.num, .int (y.den : Int)]) = true := by
  subst h
  have := eqv_ints [x.num, (x.den : Int)] [x.num, (x.den : Int)]
  rw [decide_eq_true rfl] at this
  exact this
theorem shaped_fr (x : Rat) : SeqAt.shaped (.tuple [.int x.num, .int (x.den : Int)]) = true := shaped_ints [x.num, (x.den : Int)]
theorem iteNT {b : Bool} {A B : Prop} (hb : b = true) (h : B) : if (!b) = true then A else B := by subst hb; exact iteF h
theorem lt_more {x : Rat} {c d : Int} (hc : 0 < c) (hd : 0 < d) : x < x + (c : Rat) / (d : Rat) := by
  have h1 : (0 : Rat) < (c : Rat) := by exact_mod_cast hc
  have h2 : (0 : Rat) < (d : Rat) := by exact_mod_cast hd
  have h3 : 0 < (c : Rat) / (d : Rat) := by
    rw [Rat.div_def]
    exact Rat.mul_pos h1 (Rat.inv_pos.mpr h2)
  grind
theorem lt_sub_zero (x y : Rat) : decide (x < y) = decide (x - y < 0) := by
  rw [decide_eq_decide]
  constructor <;> intro h <;> grind
theorem fr_one : Fr 1 (10 ^ 20) := ⟨by decide, by decide, Nat.lt_of_lt_of_le (show (1 : Int).natAbs < 2 ^ 70 by decide) (Nat.pow_le_pow_right (by decide) (by decide)), Nat.lt_of_lt_of_le (show ((10 : Int) ^ 20).natAbs < 2 ^ 70 by decide) (Nat.pow_le_pow_right (by decide) (by decide))⟩
theorem fr_unit : Fr 1 1 := ⟨by decide, by decide, Nat.lt_of_lt_of_le (show (1 : Int).natAbs < 2 ^ 70 by decide) (Nat.pow_le_pow_right (by decide) (by decide)), Nat.lt_of_lt_of_le (show (1 : Int).natAbs < 2 ^ 70 by decide) (Nat.pow_le_pow_right (by decide) (by decide))⟩
theorem frV_one : frV 1 = [.int 1, .int 1] := rfl
theorem both_one {p o t : Int} (h : p + o = t) (ht : 0 < t) : (p : Rat) / (t : Rat) + (o : Rat) / (t : Rat) = 1 := by
  have h2 := cast_ne ht
  have h3 : (p : Rat) + (o : Rat) = (t : Rat) := by rw [← h, Rat.intCast_add]
  generalize (p : Rat) = p at *
  generalize (o : Rat) = o at *
  generalize (t : Rat) = t at *
  subst h3
  grind
theorem part_back {p t : Int} (ht : 0 < t) : (p : Rat) / (t : Rat) * (t : Rat) = (p : Rat) := by
  have h2 := cast_ne ht
  generalize (p : Rat) = p at *
  generalize (t : Rat) = t at *
  grind
/-- three fractions drawn -/
def FrIn (n : Nat) (H : Hp) (p : Addr) : Prop := ∃ x : Rat, Sz n x ∧ H p = some (.tup (frV x))
theorem FrIn.kp {n : Nat} {H H' : Hp} {b p : Addr} {o : List V} (h : FrIn n H p) (eb : H b = some (.lst o)) (k : Kp b H H') : FrIn n H' p := by
  obtain ⟨x, z, e⟩ := h
  exact ⟨x, z, k _ _ (ne_of e eb (by intro w; cases w)) e⟩
end KGX
namespace KGX
open PySem PySem.Spec PyProof.Rows L2
theorem less_at {x y : Rat} {Q : VK} {H : Hp} (h : Q (.bl (decide (x < y))) H) : (fun (a b c d : Int) (Q : VK) (H : Hp) => Q (.bl (decide (a * d < c * b))) H) x.num (x.den : Int) y.num (y.den : Int) Q H := by
  show Q (.bl (decide (x.num * y.den < y.num * x.den))) H
  rw [rat_lt]; exact h
end KGX

namespace KV
open PySem PySem.Spec PyProof.Rows L2 KGX
/-! ### values without a heap -/
inductive PV where
  | non | bl (b : Bool) | int (i : Int) | str (x : Str) | tup (xs : List PV) | cst (xs : List PV) | lst (xs : List PV) | dic (kvs : List (PV × PV)) | dks (kvs : List (Key × PV)) | scr (ns : List Int) | exc (c : Str) (n : Option Int) | dmx (kvs : List (PV × PV))
/-! ### keys: numbers, truths, tuples of such -/
mutual
def nk : PV → Option NestedKey
  | .int i => some (.num i)
  | .bl b => some (.num (if b = true then 1 else 0))
  | .tup xs => (nks xs).map .tup
  | _ => none
def nks : List PV → Option (List NestedKey)
  | [] => some []
  | d :: ds => (nk d).bind fun k => (nks ds).map fun ks => k :: ks
end
def keyOf : PV → Option NestedKey
  | .tup xs => (nks xs).bind fun ks => if (NestedKey.tup ks).depth ≤ 8 then some (.tup ks) else none
  | _ => none
abbrev Ent := NestedKey × Addr × Value
def entK (w : World) (x : Ent) : DictEntry := ⟨x.1.hash w, .ref x.2.1, x.2.2⟩
/-- the object at a is the dict of these entries -/
def RawD (a : Addr) (xs : List Ent) (ep : Nat) (h : Heap) : Prop := ∃ o es, h.get? a = some o ∧ o.ExactDict ∧ o.data = .dict es ep ∧ ∀ w, es.toList = xs.map (entK w)
/-- the object at a is the dict of these entries, whatever their keys -/
def RawM (a : Addr) (es : List DictEntry) (ep : Nat) (h : Heap) : Prop := ∃ o arr, h.get? a = some o ∧ o.ExactDict ∧ o.data = .dict arr ep ∧ arr.toList = es
/-- a tuple whose object has no dict of its own -/
def STup (F : Hp) (a : Addr) (xs : List V) : Prop := ∃ o, F a = some (.frz o (.tup xs)) ∧ o.dict = none
def DOk (a : Addr) (kvs : List (PV × PV)) : Prop := (a == sysModules) = false ∧ kvs.length ≤ 1000000 ∧ (kvs.map fun kv => keyOf kv.1).Nodup
mutual
/-- the value x, in the heap F, is the data -/
def Rep (K : PySem.W.Frag) (F : Hp) (x : V) : PV → Prop
  | .non => x = .non
  | .bl b => x = .bl b
  | .int i => x = .int i
  | .str z => x = .str z
  | .tup ds => ∃ a xs, x = .ref a ∧ STup F a xs ∧ Reps K F xs ds
  | .cst ds => ∃ a xs, x = .ref a ∧ SqT K F a xs ∧ Reps K F xs ds
  | .lst ds => ∃ a xs, x = .ref a ∧ F a = some (.lst xs) ∧ Reps K F xs ds
  | .dic ds => ∃ a xs ep, x = .ref a ∧ F a = some (.ext (RawD a xs ep)) ∧ DOk a ds ∧ RepX K F xs ds
  | .dks ds => ∃ a o kvs, x = .ref a ∧ F a = some (.frz o (.dK kvs)) ∧ RepK K F kvs ds
  | .scr ns => ∃ a, x = .ref a ∧ SqL K F a (ns.map V.int)
  | .dmx ds => ∃ a es ep, x = .ref a ∧ F a = some (.ext (RawM a es ep)) ∧ (a == sysModules) = false ∧ RepM K F es ds
  | .exc _ _ => False
def Reps (K : PySem.W.Frag) (F : Hp) : List V → List PV → Prop
  | [], [] => True
  | x :: xs, d :: ds => Rep K F x d ∧ Reps K F xs ds
  | [], _ :: _ => False
  | _ :: _, [] => False
def RepX (K : PySem.W.Frag) (F : Hp) : List Ent → List (PV × PV) → Prop
  | [], [] => True
  | e :: xs, (k', d) :: ds => (keyOf k' = some e.1 ∧ Rep K F (.ref e.2.1) k' ∧ ∃ y, RelV y e.2.2 ∧ Rep K F y d) ∧ RepX K F xs ds
  | [], _ :: _ => False
  | _ :: _, [] => False
def RepM (K : PySem.W.Frag) (F : Hp) : List DictEntry → List (PV × PV) → Prop
  | [], [] => True
  | e :: xs, (k', d) :: ds => ((∃ y, RelV y e.key ∧ Rep K F y k') ∧ ∃ y, RelV y e.val ∧ Rep K F y d) ∧ RepM K F xs ds
  | [], _ :: _ => False
  | _ :: _, [] => False
def RepK (K : PySem.W.Frag) (F : Hp) : List (Key × V) → List (Key × PV) → Prop
  | [], [] => True
  | (k, x) :: xs, (k', d) :: ds => k = k' ∧ Rep K F x d ∧ RepK K F xs ds
  | [], _ :: _ => False
  | _ :: _, [] => False
end
mutual
/-- no list and no dict in it -/
def flat : PV → Bool
  | .tup ds => flats ds
  | .cst ds => flats ds
  | .lst _ => false
  | .dic _ => false
  | .dks _ => false
  | .dmx _ => false
  | .scr _ => false
  | _ => true
def flats : List PV → Bool
  | [] => true
  | d :: ds => flat d && flats ds
end
section
variable {K : PySem.W.Frag} {F F' : Hp}
theorem Rd.mono {a : Addr} {u : HO} (s : Same F F') (h : Rd F a u) : Rd F' a u := by
  rcases h with h | ⟨o, h⟩
  · exact .inl (s _ _ h)
  · exact .inr ⟨o, s _ _ h⟩
mutual
theorem Rep.mono (s : Same F F') : ∀ {x : V} (v : PV), Rep K F x v → Rep K F' x v
  | x, .non, h => by simpa [Rep] using h
  | x, .bl b, h => by simpa [Rep] using h
  | x, .int i, h => by simpa [Rep] using h
  | x, .str z, h => by simpa [Rep] using h
  | x, .tup ds, h => by
    rw [Rep] at h ⊢; obtain ⟨a, xs, e, ⟨o, q, no⟩, r⟩ := h
    exact ⟨a, xs, e, ⟨o, s _ _ q, no⟩, Reps.mono s ds r⟩
  | x, .cst ds, h => by
    rw [Rep] at h ⊢; obtain ⟨a, xs, e, q, r⟩ := h
    exact ⟨a, xs, e, q.elim (fun z => .inl (Rd.mono s z)) .inr, Reps.mono s ds r⟩
  | x, .lst ds, h => by
    rw [Rep] at h ⊢; obtain ⟨a, xs, e, q, r⟩ := h
    exact ⟨a, xs, e, s _ _ q, Reps.mono s ds r⟩
  | x, .dic ds, h => by
    rw [Rep] at h ⊢; obtain ⟨a, xs, ep, e, q, dk, r⟩ := h
    exact ⟨a, xs, ep, e, s _ _ q, dk, RepX.mono s ds r⟩
  | x, .dks ds, h => by
    rw [Rep] at h ⊢; obtain ⟨a, o, xs, e, q, r⟩ := h
    exact ⟨a, o, xs, e, s _ _ q, RepK.mono s ds r⟩
  | x, .dmx ds, h => by
    rw [Rep] at h ⊢; obtain ⟨a, es, ep, e, q, ns, r⟩ := h
    exact ⟨a, es, ep, e, s _ _ q, ns, RepM.mono s ds r⟩
  | x, .exc _ _, h => by rw [Rep] at h; exact h.elim
  | x, .scr ns, h => by
    rw [Rep] at h ⊢; obtain ⟨a, e, q⟩ := h
    exact ⟨a, e, q.elim (fun z => .inl (Rd.mono s z)) .inr⟩
theorem Reps.mono (s : Same F F') : ∀ {xs : List V} (ds : List PV), Reps K F xs ds → Reps K F' xs ds
  | [], [], h => by simp [Reps]
  | x :: xs, d :: ds, h => by
    rw [Reps] at h ⊢; exact ⟨Rep.mono s d h.1, Reps.mono s ds h.2⟩
  | [], _ :: _, h => by rw [Reps] at h; exact h.elim
  | _ :: _, [], h => by rw [Reps] at h; exact h.elim
theorem RepX.mono (s : Same F F') : ∀ {xs : List Ent} (ds : List (PV × PV)), RepX K F xs ds → RepX K F' xs ds
  | [], [], h => by simp [RepX]
  | e :: xs, (k', d) :: ds, h => by
    rw [RepX] at h ⊢; obtain ⟨⟨h1, h2, y, h3, h4⟩, h5⟩ := h
    exact ⟨⟨h1, Rep.mono s k' h2, y, h3, Rep.mono s d h4⟩, RepX.mono s ds h5⟩
  | [], _ :: _, h => by rw [RepX] at h; exact h.elim
  | _ :: _, [], h => by rw [RepX] at h; exact h.elim
theorem RepM.mono (s : Same F F') : ∀ {xs : List DictEntry} (ds : List (PV × PV)), RepM K F xs ds → RepM K F' xs ds
  | [], [], h => by simp [RepM]
  | e :: xs, (k', d) :: ds, h => by
    rw [RepM] at h ⊢; obtain ⟨⟨⟨z, h1, h2⟩, y, h3, h4⟩, h5⟩ := h
    exact ⟨⟨⟨z, h1, Rep.mono s k' h2⟩, y, h3, Rep.mono s d h4⟩, RepM.mono s ds h5⟩
  | [], _ :: _, h => by rw [RepM] at h; exact h.elim
  | _ :: _, [], h => by rw [RepM] at h; exact h.elim
theorem RepK.mono (s : Same F F') : ∀ {xs : List (Key × V)} (ds : List (Key × PV)), RepK K F xs ds → RepK K F' xs ds
  | [], [], h => by simp [RepK]
  | (k, x) :: xs, (k', d) :: ds, h => by
    rw [RepK] at h ⊢; exact ⟨h.1, Rep.mono s d h.2.1, RepK.mono s ds h.2.2⟩
  | [], _ :: _, h => by rw [RepK] at h; exact h.elim
  | _ :: _, [], h => by rw [RepK] at h; exact h.elim
end
/-- what has no list and no dict in it leans on tuples alone -/
def TupSame (F F' : Hp) : Prop := ∀ a o, F a = some o → (∀ xs, o ≠ .lst xs) → (∀ ob kv, o ≠ .frz ob (.dK kv)) → (∀ φ, o ≠ .ext φ) → F' a = some o
mutual
theorem Rep.flat (s : TupSame F F') : ∀ {x : V} (v : PV), flat v = true → Rep K F x v → Rep K F' x v
  | x, .non, _, h => by simpa [Rep] using h
  | x, .bl b, _, h => by simpa [Rep] using h
  | x, .int i, _, h => by simpa [Rep] using h
  | x, .str z, _, h => by simpa [Rep] using h
  | x, .tup ds, f, h => by
    rw [KV.flat] at f
    rw [Rep] at h ⊢; obtain ⟨a, xs, e, ⟨o, q, no⟩, r⟩ := h
    exact ⟨a, xs, e, ⟨o, s _ _ q (fun _ z => nomatch z) (fun _ _ z => nomatch z) (fun _ z => nomatch z), no⟩, Reps.flat s ds f r⟩
  | x, .cst ds, f, h => by
    rw [KV.flat] at f
    rw [Rep] at h ⊢; obtain ⟨a, xs, e, q, r⟩ := h
    refine ⟨a, xs, e, ?_, Reps.flat s ds f r⟩
    rcases q with (q | ⟨o, q⟩) | q
    · exact .inl (.inl (s _ _ q (fun _ z => nomatch z) (fun _ _ z => nomatch z) (fun _ z => nomatch z)))
    · exact .inl (.inr ⟨o, s _ _ q (fun _ z => nomatch z) (fun _ _ z => nomatch z) (fun _ z => nomatch z)⟩)
    · exact .inr q
  | x, .lst ds, f, h => by simp [KV.flat] at f
  | x, .dic ds, f, h => by simp [KV.flat] at f
  | x, .dks ds, f, h => by simp [KV.flat] at f
  | x, .dmx ds, f, h => by simp [KV.flat] at f
  | x, .exc _ _, f, h => by rw [Rep] at h; exact h.elim
  | x, .scr ns, f, h => by simp [KV.flat] at f
theorem Reps.flat (s : TupSame F F') : ∀ {xs : List V} (ds : List PV), flats ds = true → Reps K F xs ds → Reps K F' xs ds
  | [], [], _, h => by simp [Reps]
  | x :: xs, d :: ds, f, h => by
    rw [flats, Bool.and_eq_true] at f
    rw [Reps] at h ⊢; exact ⟨Rep.flat s d f.1 h.1, Reps.flat s ds f.2 h.2⟩
  | [], _ :: _, _, h => by rw [Reps] at h; exact h.elim
  | _ :: _, [], _, h => by rw [Reps] at h; exact h.elim
end
theorem Reps.len : ∀ {xs : List V} {ds : List PV}, Reps K F xs ds → xs.length = ds.length
  | [], [], _ => rfl
  | x :: xs, d :: ds, h => by rw [Reps] at h; rw [List.length_cons, List.length_cons, Reps.len h.2]
  | [], _ :: _, h => by rw [Reps] at h; exact h.elim
  | _ :: _, [], h => by rw [Reps] at h; exact h.elim
theorem Reps.at : ∀ {xs : List V} {ds : List PV} {i : Nat} {d : PV}, Reps K F xs ds → ds[i]? = some d → ∃ x, xs[i]? = some x ∧ Rep K F x d
  | [], [], _, _, _, e => by simp at e
  | x :: xs, d :: ds, 0, _, h, e => by rw [Reps] at h; simp at e; subst e; exact ⟨x, rfl, h.1⟩
  | x :: xs, d :: ds, i + 1, _, h, e => by
    rw [Reps] at h
    obtain ⟨y, e1, r⟩ := Reps.at (i := i) h.2 (by simpa using e)
    exact ⟨y, by simpa using e1, r⟩
  | [], _ :: _, _, _, h, _ => by rw [Reps] at h; exact h.elim
  | _ :: _, [], _, _, h, _ => by rw [Reps] at h; exact h.elim
theorem Reps.to : ∀ {xs : List V} {ds : List PV} {i : Nat} {x : V}, Reps K F xs ds → xs[i]? = some x → ∃ d, ds[i]? = some d ∧ Rep K F x d := by
  intro xs ds i x h e
  have hl := h.len
  have hi := (List.getElem?_eq_some_iff.mp e).1
  obtain ⟨y, e1, r⟩ := h.at (List.getElem?_eq_getElem (show i < ds.length by omega))
  rw [e] at e1; cases e1
  exact ⟨_, List.getElem?_eq_getElem _, r⟩
theorem Reps.snoc : ∀ {xs : List V} {ds : List PV} {x : V} {d : PV}, Reps K F xs ds → Rep K F x d → Reps K F (xs ++ [x]) (ds ++ [d])
  | [], [], _, _, _, r => by show Reps K F [_] [_]; rw [Reps]; exact ⟨r, by simp [Reps]⟩
  | x :: xs, d :: ds, _, _, h, r => by rw [Reps] at h; show Reps K F (x :: _) (d :: _); rw [Reps]; exact ⟨h.1, Reps.snoc h.2 r⟩
  | [], _ :: _, _, _, h, _ => by rw [Reps] at h; exact h.elim
  | _ :: _, [], _, _, h, _ => by rw [Reps] at h; exact h.elim
theorem Reps.app : ∀ {xs : List V} {ds : List PV} {ys : List V} {es : List PV}, Reps K F xs ds → Reps K F ys es → Reps K F (xs ++ ys) (ds ++ es)
  | [], [], _, _, _, r => r
  | x :: xs, d :: ds, _, _, h, r => by rw [Reps] at h; show Reps K F (x :: _) (d :: _); rw [Reps]; exact ⟨h.1, Reps.app h.2 r⟩
  | [], _ :: _, _, _, h, _ => by rw [Reps] at h; exact h.elim
  | _ :: _, [], _, _, h, _ => by rw [Reps] at h; exact h.elim
theorem Reps.nil : Reps K F [] [] := by simp [Reps]
theorem Reps.cons {x : V} {xs : List V} {d : PV} {ds : List PV} (h : Rep K F x d) (t : Reps K F xs ds) : Reps K F (x :: xs) (d :: ds) := by rw [Reps]; exact ⟨h, t⟩
theorem Reps.drop : ∀ {xs : List V} {ds : List PV} (n : Nat), Reps K F xs ds → Reps K F (xs.drop n) (ds.drop n)
  | _, _, 0, h => h
  | [], [], _ + 1, h => h
  | x :: xs, d :: ds, n + 1, h => by rw [Reps] at h; exact Reps.drop n h.2
  | [], _ :: _, _, h => by rw [Reps] at h; exact h.elim
  | _ :: _, [], _, h => by rw [Reps] at h; exact h.elim
theorem Reps.take : ∀ {xs : List V} {ds : List PV} (n : Nat), Reps K F xs ds → Reps K F (xs.take n) (ds.take n)
  | _, _, 0, h => Reps.nil
  | [], [], _ + 1, h => h
  | x :: xs, d :: ds, n + 1, h => by rw [Reps] at h; exact Reps.cons h.1 (Reps.take n h.2)
  | [], _ :: _, _, h => by rw [Reps] at h; exact h.elim
  | _ :: _, [], _, h => by rw [Reps] at h; exact h.elim
theorem Reps.ints : ∀ {xs : List V} {ns : List Int}, Reps K F xs (ns.map .int) → xs = ns.map V.int
  | [], [], _ => rfl
  | x :: xs, n :: ns, h => by
    rw [List.map_cons, Reps, Rep] at h
    rw [List.map_cons, h.1, Reps.ints h.2]
  | [], _ :: _, h => by rw [List.map_cons, Reps] at h; exact h.elim
  | _ :: _, [], h => by rw [List.map_nil, Reps] at h; exact h.elim
theorem Reps.bls : ∀ {xs : List V} {ns : List Bool}, Reps K F xs (ns.map .bl) → xs = ns.map V.bl
  | [], [], _ => rfl
  | x :: xs, n :: ns, h => by
    rw [List.map_cons, Reps, Rep] at h
    rw [List.map_cons, h.1, Reps.bls h.2]
  | [], _ :: _, h => by rw [List.map_cons, Reps] at h; exact h.elim
  | _ :: _, [], h => by rw [List.map_nil, Reps] at h; exact h.elim
theorem Reps.of_ints : ∀ {ns : List Int}, Reps K F (ns.map V.int) (ns.map .int)
  | [] => Reps.nil
  | n :: ns => Reps.cons (by rw [Rep]) Reps.of_ints
end
theorem STup.sq {K : PySem.W.Frag} {F H : Hp} {a : Addr} {xs : List V} (h : STup F a xs) (s : Same F H) : SqT K H a xs := by
  obtain ⟨o, q, _⟩ := h
  exact .inl (.inr ⟨o, s _ _ q⟩)
theorem STup.new {F : Hp} {a : Addr} {o : Obj} {xs : List V} (h : o.dict = none) : STup (upd F a (.frz o (.tup xs))) a xs := ⟨o, upd_same, h⟩
/-! ### what a step keeps -/
/-- there, and no tuple -/
def NT (x : Option HO) : Prop := x ≠ none ∧ ∀ xs, x ≠ some (.tup xs)
structure Ext (B : Addr → Prop) (F H F' H' : Hp) : Prop where
  ff : Same F F'
  fh : Same F' H'
  new : ∀ a, F a = none → NT (H a) → F' a = none
  keep : ∀ a o, ¬ B a → H a = some o → H' a = some o
  box : ∀ a, B a → ∃ n, H' a = some (.lst [.int n])
section
variable {B : Addr → Prop} {F H F1 H1 F2 H2 : Hp}
theorem Ext.there (e : Ext B F H F1 H1) {a : Addr} (h : H a ≠ none) : H1 a ≠ none := by
  by_cases hb : B a
  · obtain ⟨n, q⟩ := e.box a hb
    rw [q]; exact fun z => nomatch z
  · cases q : H a with
    | none => exact (h q).elim
    | some o => rw [e.keep a o hb q]; exact fun z => nomatch z
theorem Ext.thereN (e : Ext B F H F1 H1) {a : Addr} (h : NT (H a)) : NT (H1 a) := by
  by_cases hb : B a
  · obtain ⟨n, q⟩ := e.box a hb
    rw [q]; exact ⟨(fun z => nomatch z), fun xs z => nomatch z⟩
  · cases q : H a with
    | none => exact (h.1 q).elim
    | some o => rw [e.keep a o hb q, ← q]; exact h
theorem Ext.trans (x : Ext B F H F1 H1) (y : Ext B F1 H1 F2 H2) : Ext B F H F2 H2 :=
  ⟨x.ff.trans y.ff, y.fh, fun a n h => y.new a (x.new a n h) (x.thereN h), fun a o b h => y.keep a o b (x.keep a o b h), y.box⟩
theorem Ext.refl (h : Same F H) (b : ∀ a, B a → ∃ n, H a = some (.lst [.int n])) : Ext B F H F H := ⟨fun _ _ e => e, h, fun _ n _ => n, fun _ _ _ e => e, b⟩
/-- a new object, known from now on -/
theorem Ext.laid (h : Same F H) (b : ∀ a, B a → ∃ n, H a = some (.lst [.int n])) {p : Addr} {o : HO} (hp : H p = none) : Ext B F H (upd F p o) (upd H p o) := by
  have fp : F p = none := by
    cases q : F p with
    | none => rfl
    | some u => rw [h _ _ q] at hp; exact nomatch hp
  refine ⟨same_new fp, ?_, ?_, fun a u _ e => same_new hp a u e, fun a ba => ?_⟩
  · intro a u e
    by_cases z : a = p
    · subst z; rw [upd_same] at e ⊢; exact e
    · rw [upd_ne z] at e ⊢; exact h a u e
  · intro a n ha
    have z : a ≠ p := fun z => ha.1 (by rw [z]; exact hp)
    rw [upd_ne z]; exact n
  · obtain ⟨n, q⟩ := b a ba
    exact ⟨n, same_new hp a _ q⟩
end
end KV

namespace KV
open PySem PySem.Spec PyProof.Rows L2 KGX
/-! ### new tuples, their object known -/
abbrev NewT (H : Hp) (xs : List V) (Q : VK) : Prop := ∀ p o, H p = none → o.dict = none → Q (.ref p) (upd H p (.frz o (.tup xs)))
section
variable {X : Cx} {pins : List (Addr × Obj)} {σ : L2.St} {H : Hp} {s : Shared} {es : List Expr} {pos : Pos} {t : TA}
theorem inv_newT {xs : List V} {us : List Value} {h' : Heap} {t' : Nat} {Q : VK} (I : Inv X pins σ H { s with heap := h', toks := t' }) (r : Vals xs us) (z : xs.length ≤ sizeLine) (q : NewT H xs Q) :
    EP X pins σ Q (.ref h'.objs.size) { s with heap := h'.push { cls := .type "tuple", data := .seq us.toArray }, toks := t' } :=
  ⟨.ref h'.objs.size, upd H h'.objs.size (.frz { cls := .type "tuple", data := .seq us.toArray } (.tup xs)),
    I.laid (t' := t') (fun _ _ e => Heap.get?_push_of_some _ e) (Nat.le_refl _) ⟨Heap.get?_push_size _ rfl, z, us, r, IsTup.new _ _⟩, rfl, q _ _ (I.hok.fresh (Nat.le_refl _)) rfl⟩
def tTupS (t : TA) : TE := fun σ H Q => t σ H fun xs H1 => xs.length ≤ sizeLine ∧ NewT H1 xs Q
theorem pe_tupS {x1 : Nat} (h : PA X es t) : PE X (.Tuple es x1 pos) (tTupS t) := ⟨fun pins s σ H Q I hq =>
  wpAny_Tuple_spliced (thn (h.run pos pins s σ H _ I hq) fun us s1 ⟨xs, H1, I1, r, z, q⟩ => ⟨by rw [← r.length]; exact z, inv_newT (s := s1) (h' := s1.heap) (t' := s1.toks) I1 r z q⟩)⟩
/-- t + u -/
def rCatS (K : PySem.W.Frag) : R2 := fun x y H Q => ∃ a b xs ys, x = .ref a ∧ y = .ref b ∧ SqT K H a xs ∧ SqT K H b ys ∧ xs.length + ys.length ≤ sizeLine ∧
  (xs = [] → Q (.ref b) H) ∧ (xs ≠ [] → ys = [] → Q (.ref a) H) ∧ (xs ≠ [] → ys ≠ [] → NewT H (xs ++ ys) Q)
theorem op_catS : OpR X (binaryOp .Add) (rCatS X.K) := by
  rintro pins s σ H _ _ v u Q I rx ry ⟨a, b, xs, ys, rfl, rfl, ha, hb, hz, q0, q1, q2⟩
  cases rx; cases ry
  obtain ⟨us, r1, p1, _⟩ := I.tuple ha
  obtain ⟨ws, r2, p2, _⟩ := I.tuple hb
  by_cases hx : xs = []
  · subst hx; cases r1
    exact cat_tup0 p1 p2 ⟨.ref b, H, I, rfl, q0 rfl⟩
  · refine HT.cat_tup p1 p2 (fun z => hx (r1.nil_iff.mp z)) (fun z => ⟨.ref a, H, I, rfl, q1 hx (r2.nil_iff.mp z)⟩) (fun z => ?_) (by rw [← r1.length, ← r2.length]; exact hz)
    exact inv_newT (s := s) (h' := s.heap) (t' := s.toks) I (r1.append r2) (by rw [List.length_append]; exact hz) (q2 hx fun w => z (r2.nil_iff.mpr w))
/-- t[lo:hi] -/
def rSlS (K : PySem.W.Frag) : V → Option Int → Option Int → Hp → VK → Prop := fun x lo hi H Q => ∃ a xs, x = .ref a ∧ SqT K H a xs ∧
  ((HT.sIx xs.length 0 lo = 0 ∧ HT.sIx xs.length xs.length hi = xs.length) → Q (.ref a) H) ∧ (¬ (HT.sIx xs.length 0 lo = 0 ∧ HT.sIx xs.length xs.length hi = xs.length) → NewT H (cutV xs lo hi) Q)
theorem sl_tupS : SlR X (rSlS X.K) := by
  rintro pins s σ H _ v vl vu lo hi sl Q I rx hs pl pu ⟨a, xs, rfl, hx, q1, q2⟩
  cases rx
  obtain ⟨us, r, ht, hz⟩ := I.tuple hx
  have hl : us.toArray.size = xs.length := by rw [List.size_toArray, ← r.length]
  refine ⟨"tuple", _, PyProof.Rows.slot_tuple_getitem.lookup, ht.typeIs, ?_⟩
  by_cases hw : HT.sIx xs.length 0 lo = 0 ∧ HT.sIx xs.length xs.length hi = xs.length
  · exact getItem_tuple_whole ht hs pl pu (by rw [hl]; exact hw) ⟨.ref a, H, I, rfl, q1 hw⟩
  · refine HT.getItem_tuple_cut ht hs pl pu (by rw [hl]; exact hw) ?_ (by rw [hl]; exact hz)
    rw [hl]
    exact inv_newT (s := s) (h' := s.heap) (t' := s.toks) I ((r.drop (HT.sIx xs.length 0 lo)).take (HT.sIx xs.length xs.length hi - HT.sIx xs.length 0 lo)) (Nat.le_trans (cutV_length xs lo hi) hz) (q2 hw)
/-- tuple(row) -/
def rTupS (K : PySem.W.Frag) : List V → Hp → VK → Prop := fun xs H Q => ∃ p ys, xs = [.ref p] ∧ ((SqL K H p ys ∧ NewT H ys Q) ∨ (SqT K H p ys ∧ Q (.ref p) H))
theorem call_tupleS : CallR X (.type "tuple") (rTupS X.K) := by
  rintro pins s σ H xs us Q I r ⟨p, ys, rfl, h⟩
  obtain ⟨u, rfl, rx⟩ := r.one
  cases rx
  rcases h with ⟨hq, q⟩ | ⟨hq, q⟩
  · obtain ⟨its, r', pl, hz⟩ := I.list hq
    have hlen := r'.length
    refine call_tuple_list pl.isList (fun h' kp => ?_) (by simp only [List.size_toArray] <;> omega)
    exact inv_newT (s := s) (h' := h') (t' := s.toks) (I.kept (t' := s.toks) kp) r' hz q
  · obtain ⟨its, r', pl, hz⟩ := I.tuple hq
    exact call_tuple_same pl ⟨.ref p, H, I, rfl, q⟩
/-- tuple(range(..)) -/
def tTupRgS (te : L2.St → Hp → (Int → Int → Hp → Prop) → Prop) : TE := fun σ H Q => te σ H fun a b H1 => RgOk a b ∧ NewT H1 (rgV a b) Q
theorem pe_tupRgS {e : Expr} {te : L2.St → Hp → (Int → Int → Hp → Prop) → Prop} {p pos : Pos} (hc : X.calm = true) (hg : Gl X "tuple") (hm : X.mg "tuple" = none) (he : PRg X e te) (na : starEach [e] X.env = (false, eval e X.env) :: starEach [] X.env := by rfl) : PE X (.Call (.Name "tuple" p) [e] [] pos) (tTupRgS te) := by
  refine ⟨fun pins s σ H Q I h => Call_ (ld_blt I hg hm boot_tuple (PyProof.Rows.callWith_type1 (args_cons (thn (he pins s σ H _ I h) fun x s1 ⟨r, a, b, t, u, v, H1, ex, hr, I1, ok, q⟩ => args_nil ?_) na) na))⟩
  subst ex
  obtain ⟨b1, b2, b3, b4, b5⟩ := ok
  refine call_tuple_range (n := (b - a).toNat) (I1.ok.hd hc) hr (small_one b1 b2 b3 b4) (rangeSize_nat a b) b5 fun h' tk acc hk hi => ?_
  have hv : acc = acc.toList.toArray := by rw [Array.toArray_toList]
  rw [hv]
  exact inv_newT (s := s1) (h' := h') (t' := tk) (I1.kept hk) (vals_rg hi) (by rw [rgV_length, sizeLine_eq]; omega) q
/-- t * k -/
def rTimesS (K : PySem.W.Frag) : R2 := fun x y H Q => ∃ l k xs, x = .ref l ∧ y = .int k ∧ SqT K H l xs ∧ xs ≠ [] ∧ 1 ≤ k ∧ k ≤ 1000 ∧ xs.length ≤ 1000 ∧
  (k = 1 → Q (.ref l) H) ∧ (2 ≤ k → NewT H (List.replicate k.toNat xs).flatten Q)
theorem op_timesS : OpR X (binaryOp .Mult) (rTimesS X.K) := by
  rintro pins s σ H _ _ v u Q I rx ry ⟨l, k, xs, rfl, rfl, hT, hne, h1, h2, hz, q1, q2⟩
  by_cases hk : k = 1
  · exact KG.op_times pins s σ H _ _ v u Q I rx ry ⟨l, k, xs, rfl, rfl, hT, hne, h1, h2, hz, q1, fun z => by omega⟩
  cases rx
  obtain ⟨t, rfl⟩ := ry
  obtain ⟨us, r, ⟨⟨cls, dd, data, sl⟩, ho, hc, n, hd⟩, hs⟩ := I.tuple hT
  simp only at hc hd
  subst hc hd
  have hle : us.length = xs.length := r.length.symm
  have hi : us.toArray.isEmpty = false := by
    cases us with
    | nil => exact absurd (List.eq_nil_of_length_eq_zero hle.symm) hne
    | cons a b => rfl
  have hm : ((us.toArray.size : Nat) : Int) * k ≤ 1000000 := by
    rw [List.size_toArray, hle]
    have : ((xs.length : Nat) : Int) * k ≤ 1000 * k := Int.mul_le_mul_of_nonneg_right (by omega) (by omega)
    omega
  have b1 : k.toNat * xs.length ≤ 1000 * 1000 := Nat.mul_le_mul (by omega) hz
  have fl : ∀ {α : Type} (ys : List α), ys.length = xs.length → (List.replicate k.toNat ys).flatten.length ≤ sizeLine := fun ys e => by
    rw [PyProof.Rows.lm_len_rep_flat, e, sizeLine_eq]; omega
  have c0 : (decide (k < -(2 ^ 63)) || decide (k ≥ 2 ^ 63)) = false := by
    rw [decide_eq_false (by omega), decide_eq_false (by omega)] <;> rfl
  have c1 : (us.toArray.isEmpty || k == 1) = false := by rw [hi, Bool.false_or]; exact beq_eq_false_iff_ne.mpr hk
  have c2 : (decide (k ≤ 0) || us.toArray.isEmpty) = false := by rw [hi, Bool.or_false]; exact decide_eq_false (by omega)
  have c4 : Builtin.Tuple.tupleTooMany (((us.toArray.size : Nat) : Int) * k) = false := by
    unfold Builtin.Tuple.tupleTooMany
    rw [sizeLine_eq]; exact decide_eq_false (by omega)
  refine wpAny_binaryOp_repeat_ref (T := "tuple") (U := "int") (by decide) ⟨_, ho, rfl⟩ (fun s' => typeIs_int s' k t) noFill_tuple_mul F.fills_int_mul F.slot_int_rmul repeat_tuple F.slot_int_index.lookup
    (call_meets F.slot_int_rmul (typeIs_int s k t) F.entry_int_rmul (F.args_int_rmul_2 _ _) (int_rmul_tuple k t l us.toArray n dd sl)
      ⟨ho, rfl, ⟨_, ho, rfl⟩, call_meets F.slot_tuple_mul ⟨_, ho, rfl⟩ F.entry_tuple_mul (F.args_tuple_mul_2 _ _) (tuple_mulW l us.toArray n dd sl k t c0 c1 c2 (by omega) c4 (by rw [size_rep, List.size_toArray]; exact fl us hle)) ⟨ho, ?_⟩⟩)
  rw [size_rep]
  exact inv_newT (s := s) (h' := s.heap) (t' := s.toks) I (r.rep k.toNat) (fl xs rfl) (q2 (by omega))
end
end KV

namespace KV
open PySem PySem.Spec PyProof.Rows L2 KGX
/-! ### dicts by what their entries are -/
mutual
/-- no text in it -/
def nt : NestedKey → Bool
  | .num _ => true
  | .tup ks => nts ks
  | _ => false
def nts : List NestedKey → Bool
  | [] => true
  | k :: ks => nt k && nts ks
end
mutual
theorem hash_nt (w w' : World) : ∀ k : NestedKey, nt k = true → k.hash w = k.hash w'
  | .num i, _ => by rw [NestedKey.hash, NestedKey.hash]
  | .tup ks, h => by rw [nt] at h; rw [NestedKey.hash, NestedKey.hash, hashes_nt w w' ks h]
  | .none, h => by simp [nt] at h
  | .text _, h => by simp [nt] at h
theorem hashes_nt (w w' : World) : ∀ ks : List NestedKey, nts ks = true → NestedKey.hashes w ks = NestedKey.hashes w' ks
  | [], _ => by rw [NestedKey.hashes, NestedKey.hashes]
  | k :: ks, h => by
    rw [nts, Bool.and_eq_true] at h
    rw [NestedKey.hashes, NestedKey.hashes, hash_nt w w' k h.1, hashes_nt w w' ks h.2]
end
mutual
inductive KeyV (H : Hp) : NestedKey → V → Prop
  | num (i : Int) : KeyV H (.num i) (.int i)
  | bl (b : Bool) : KeyV H (.num (if b = true then 1 else 0)) (.bl b)
  | tup {a : Addr} {ks : List NestedKey} {xs : List V} : Rd H a (.tup xs) → KeyVs H ks xs → KeyV H (.tup ks) (.ref a)
inductive KeyVs (H : Hp) : List NestedKey → List V → Prop
  | nil : KeyVs H [] []
  | cons {k : NestedKey} {x : V} {ks : List NestedKey} {xs : List V} : KeyV H k x → KeyVs H ks xs → KeyVs H (k :: ks) (x :: xs)
end
section
variable {P : Program} {w : World} {H H' : Hp} {h : Heap}
mutual
theorem KeyV.nested (ok : HOk P w H h) : ∀ {k : NestedKey} {x : V} {v : Value}, KeyV H k x → RelV x v → NestedIs h k v
  | _, _, _, .num i, r => by obtain ⟨t, rfl⟩ := r; exact .int i t
  | _, _, _, .bl b, r => by cases r; exact .bool rfl
  | _, _, _, .tup ra q, r => by
    cases r
    obtain ⟨_, its, rv, o, h1, h2, n, h3⟩ := (show ObjOk P w H h _ (.tup _) from ra.ok ok)
    exact .tup h1 h2 h3 (by simpa using KeyVs.nested ok q rv)
theorem KeyVs.nested (ok : HOk P w H h) : ∀ {ks : List NestedKey} {xs : List V} {vs : List Value}, KeyVs H ks xs → Vals xs vs → NestedAll h ks vs
  | _, _, _, .nil, .nil => .nil
  | _, _, _, .cons q t, .cons r s => .cons (KeyV.nested ok q r) (KeyVs.nested ok t s)
end
mutual
theorem KeyV.nt : ∀ {k : NestedKey} {x : V}, KeyV H k x → KV.nt k = true
  | _, _, .num i => by rw [KV.nt]
  | _, _, .bl b => by rw [KV.nt]
  | _, _, .tup _ q => by rw [KV.nt]; exact KeyVs.nt q
theorem KeyVs.nt : ∀ {ks : List NestedKey} {xs : List V}, KeyVs H ks xs → nts ks = true
  | _, _, .nil => by rw [nts]
  | _, _, .cons q t => by rw [nts, KeyV.nt q, KeyVs.nt t]; rfl
end
mutual
theorem KeyV.mono (s : ∀ a xs, Rd H a (.tup xs) → Rd H' a (.tup xs)) : ∀ {k : NestedKey} {x : V}, KeyV H k x → KeyV H' k x
  | _, _, .num i => .num i
  | _, _, .bl b => .bl b
  | _, _, .tup ra q => .tup (s _ _ ra) (KeyVs.mono s q)
theorem KeyVs.mono (s : ∀ a xs, Rd H a (.tup xs) → Rd H' a (.tup xs)) : ∀ {ks : List NestedKey} {xs : List V}, KeyVs H ks xs → KeyVs H' ks xs
  | _, _, .nil => .nil
  | _, _, .cons q t => .cons (KeyV.mono s q) (KeyVs.mono s t)
end
/-- the tuple at b is the key k -/
def KeyAt (H : Hp) (k : NestedKey) (b : Addr) : Prop := KeyV H k (.ref b) ∧ k.depth ≤ 8
theorem KeyAt.is (ok : HOk P w H h) {k : NestedKey} {b : Addr} (q : KeyAt H k b) : (nestedKind P w).is h k b := ⟨q.1.nested ok rfl, q.2⟩
/-- at a stands the dict of the entries xs -/
def MD (H : Hp) (a : Addr) (xs : List Ent) : Prop := (∃ ep, H a = some (.ext (RawD a xs ep))) ∧ (a == sysModules) = false ∧ xs.length ≤ 1000000 ∧ (xs.map (·.1)).Nodup ∧ ∀ x ∈ xs, KeyAt H x.1 x.2.1
theorem MD.raw (ok : HOk P w H h) {a : Addr} {xs : List Ent} (q : MD H a xs) : ∃ ep, RawD a xs ep h := by
  obtain ⟨⟨ep, e⟩, _⟩ := q
  exact ⟨ep, (show ObjOk P w H h a (.ext (RawD a xs ep)) from ok a _ e).1⟩
theorem MD.dict (ok : HOk P w H h) {a : Addr} {xs : List Ent} (q : MD H a xs) : h.DictOfH (nestedKind P w) a xs := by
  obtain ⟨ep, o, es, h1, h2, h3, h4⟩ := q.raw ok
  exact ⟨o, es, ep, h1, h2, h3, h4 w, fun x hx => (q.2.2.2.2 x hx).is ok, q.2.2.2.1⟩
theorem MD.sz {a : Addr} {xs : List Ent} (q : MD H a xs) : xs.length ≤ sizeLine := Nat.le_trans q.2.2.1 (by decide)
theorem rawD_of {a : Addr} {xs : List Ent} (d : h.DictOfH (nestedKind P w) a xs) (n : ∀ x ∈ xs, nt x.1 = true) : ∃ ep, RawD a xs ep h := by
  obtain ⟨o, es, ep, h1, h2, h3, h4, _, _⟩ := d
  refine ⟨ep, o, es, h1, h2, h3, fun w' => ?_⟩
  rw [h4]
  refine List.map_congr_left fun x hx => ?_
  show DictEntry.mk (x.1.hash w) _ _ = DictEntry.mk (x.1.hash w') _ _
  rw [hash_nt w w' x.1 (n x hx)]
theorem rawD_ok {a : Addr} {xs : List Ent} {ep : Nat} (r : RawD a xs ep h) : ObjOk P w H h a (.ext (RawD a xs ep)) := by
  obtain ⟨o, es, h1, h2⟩ := id r
  exact ⟨r, ⟨o, h1⟩, fun g1 g2 ⟨o, es, e1, e2⟩ k => ⟨o, es, k o e1, e2⟩⟩
end
section
variable {X : Cx} {pins : List (Addr × Obj)} {σ : L2.St} {H : Hp} {s : Shared} {a b : Addr} {A : Around} {E : Value → Shared → Prop} {xs : List Ent} {k : NestedKey}
theorem room9 (hu : A.units + 64 < cLine) : (nestedKind X.prog X.w).room A.in1 := by
  show A.units + 1 + 8 < cLine
  omega
theorem md_get {Q : Value → Shared → Prop} {p : Addr × Value} (hu : A.units + 64 < cLine) (I : Inv X pins σ H s) (d : MD H a xs) (ka : KeyAt H k b) (hp : atKey xs k = some p) (h : ∀ s', Inv X pins σ H s' → Q p.2 s') :
    wpAny (model X.prog X.w) A (getItem (.ref a) (.ref b)) Q E s := wpAny_getItem_heap (room9 hu) (ka.is I.hok) (d.dict I.hok) hp (h _ (I.tok _))
theorem md_in {Q : Value → Shared → Prop} (hu : A.units + 64 < cLine) (I : Inv X pins σ H s) (d : MD H a xs) (ka : KeyAt H k b) (h : ∀ s', Inv X pins σ H s' → Q (.bool (atKey xs k).isSome) s') :
    wpAny (model X.prog X.w) A (compareOp .In (.ref b) (.ref a)) Q E s := wpAny_in_heap (room9 hu) (ka.is I.hok) d.2.1 (d.dict I.hok) (h _ (I.tok _))
theorem md_notIn {Q : Value → Shared → Prop} (hu : A.units + 64 < cLine) (I : Inv X pins σ H s) (d : MD H a xs) (ka : KeyAt H k b) (h : ∀ s', Inv X pins σ H s' → Q (.bool (!(atKey xs k).isSome)) s') :
    wpAny (model X.prog X.w) A (compareOp .NotIn (.ref b) (.ref a)) Q E s := by
  refine notIn_keyed (kvs := pairsH xs) (room9 hu) (ka.is I.hok) d.2.1 ⟨xs, d.dict I.hok, rfl⟩ ?_
  rw [valueAt_pairsH, Option.isSome_map]
  exact h _ (I.tok _)
theorem md_getOr {Q : Value → Shared → Prop} {r : Value} (hu : A.units + 64 < cLine) (I : Inv X pins σ H s) (d : MD H a xs) (ka : KeyAt H k b) (h : ∀ s', Inv X pins σ H s' → Q (((atKey xs k).map (·.2)).getD r) s') :
    wpAny (model X.prog X.w) A (call (.builtin "dict.get") [.ref a, .ref b, r]) Q E s :=
  call_meetsIn PySem.F.slot_dict_get (d.dict I.hok).typeIs PySem.F.entry_dict_get (PySem.F.args_dict_get_3 _ _ _) (meetsH_dict_get_default (nestedKind X.prog X.w) a b d.2.1 r) ⟨room9 hu, k, xs, ka.is I.hok, d.dict I.hok, h _ (I.tok _)⟩
theorem md_write {xs' : List Ent} {h' : Heap} {t' : Nat} (I : Inv X pins σ H s) (d : MD H a xs) (dd : h'.DictOfH (nestedKind X.prog X.w) a xs') (hs : Heap.SameBut a s.heap h') (n : ∀ x ∈ xs', nt x.1 = true) : ∃ ep, Inv X pins σ (upd H a (.ext (RawD a xs' ep))) { s with heap := h', toks := t' } := by
  obtain ⟨ep, r⟩ := rawD_of dd n
  obtain ⟨⟨e0, e⟩, _⟩ := d
  obtain ⟨o, es, h1, _⟩ := id r
  exact ⟨ep, d_write I (by rw [e]; exact True.intro) hs ⟨o, h1⟩ (rawD_ok r)⟩
theorem mem_putAt {v : Value} {ys : List Ent} {x : Ent} (h : x ∈ ys.map (putAt k v)) : ∃ y ∈ ys, x.1 = y.1 ∧ x.2.1 = y.2.1 := by
  obtain ⟨y, hy, rfl⟩ := List.mem_map.mp h
  refine ⟨y, hy, ?_⟩
  unfold putAt
  split <;> exact ⟨rfl, rfl⟩
theorem mem_stored {v : Value} {x : Ent} (h : x ∈ storedH xs k b v) : (x.1 = k ∧ x.2.1 = b) ∨ ∃ y ∈ xs, x.1 = y.1 ∧ x.2.1 = y.2.1 := by
  unfold storedH at h
  split at h
  · exact .inr (mem_putAt h)
  · rcases List.mem_append.mp h with h | h
    · exact .inr ⟨x, h, rfl, rfl⟩
    · cases List.mem_singleton.mp h; exact .inl ⟨rfl, rfl⟩
theorem md_set {Q : Unit → Shared → Prop} {v : Value} (hu : A.units + 64 < cLine) (I : Inv X pins σ H s) (d : MD H a xs) (ka : KeyAt H k b) (h : ∀ s' ep, Inv X pins σ (upd H a (.ext (RawD a (storedH xs k b v) ep))) s' → Q () s') :
    wpAny (model X.prog X.w) A (setItem (.ref a) (.ref b) v) Q E s := by
  refine wpAny_setItem_heap (hsz := d.sz) (room9 hu) (ka.is I.hok) (d.dict I.hok) fun h' dd hs => ?_
  obtain ⟨ep, I'⟩ := md_write (t' := s.toks + (nestedKind X.prog X.w).draws k) I d dd hs fun x hx => by
    rcases mem_stored hx with ⟨e, _⟩ | ⟨y, hy, e, _⟩
    · rw [e]; exact ka.1.nt
    · rw [e]; exact (d.2.2.2.2 y hy).1.nt
  exact h _ ep I'
end
end KV

namespace KV
open PySem PySem.Spec PyProof.Rows L2 KGX
theorem subscriptTail_dic {prog : Program} {w : World} {A : Around} {E : Value → Shared → Prop} {s : Shared} {value slice : Expr} {T id : String} {o i : Value} {Q : Value → Shared → Prop} (hT : s.TypeIs o T)
    (hl : typeLookup (.type T) "__getitem__" = pure (some (.builtin id))) (h : wpAny (model prog w) A (getItem o i) Q E s) (hs : subscripted slice false o i = operate [o, i] (getItem o i)) :
    wpAny (model prog w) A (subscriptTail value slice o i) Q E s := by
  unfold subscriptTail
  refine wpAny_bind ?_
  rw [getitemInPython_of_ne hT.not_modules]
  refine wpAny_bind (wpAny_specialOf hT hl ?_)
  have fin : wpAny (model prog w) A (subscripted slice false o i) (fun r s₃ => wpAny (model prog w) A (letTemporaryGo value o r >>= fun _ => pure r) Q E s₃) E s := by
    rw [hs]
    exact wpAny_operating (wpAny_mono h (fun r s₃ h₃ => wpAny_bind (wpAny_letTemporaryGo (wpAny_pure h₃))) fun _ _ x => x)
  first
    | exact wpAny_pure (wpAny_bind fin)
    | exact wpAny_bind (wpAny_pure (wpAny_bind fin))
    | exact wpAny_bind fin
/-! ### dicts: the rules -/
def rIxM : R2 := fun x y H Q => ∃ a b xs k p v, x = .ref a ∧ y = .ref b ∧ MD H a xs ∧ KeyAt H k b ∧ atKey xs k = some p ∧ RelV v p.2 ∧ Q v H
def rInM (neg : Bool) : R2 := fun y x H Q => ∃ a b xs k, x = .ref a ∧ y = .ref b ∧ MD H a xs ∧ KeyAt H k b ∧ Q (.bl (if neg = true then !(atKey xs k).isSome else (atKey xs k).isSome)) H
section
variable {X : Cx} {o i e f value : Expr} {pos pos' tpos apos cpos : Pos} {td ty tv tx : TE} {tg : Expr}
theorem ix_md (hu : X.A.units + 64 < cLine) : IxR X rIxM := by
  rintro value slice pins s σ H _ _ v u Q I rx ry ⟨a, b, xs, k, p, w, rfl, rfl, d, ka, hp, rw', q⟩ hs
  cases rx; cases ry
  exact subscriptTail_dic (d.dict I.hok).typeIs PySem.F.slot_dict_getitem.lookup (md_get hu I d ka hp fun s3 I3 => ⟨w, H, I3, rw', q⟩) hs
theorem op_inM (hu : X.A.units + 64 < cLine) : OpR X (compareOp .In) (rInM false) := by
  rintro pins s σ H _ _ v u Q I rx ry ⟨a, b, xs, k, rfl, rfl, d, ka, q⟩
  cases rx; cases ry
  exact md_in hu I d ka fun s3 I3 => ⟨.bl (atKey xs k).isSome, H, I3, rfl, q⟩
theorem op_notInM (hu : X.A.units + 64 < cLine) : OpR X (compareOp .NotIn) (rInM true) := by
  rintro pins s σ H _ _ v u Q I rx ry ⟨a, b, xs, k, rfl, rfl, d, ka, q⟩
  cases rx; cases ry
  exact md_notIn hu I d ka fun s3 I3 => ⟨.bl (!(atKey xs k).isSome), H, I3, rfl, q⟩
theorem MD.noDict {pins : List (Addr × Obj)} {σ : L2.St} {H : Hp} {s : Shared} {a : Addr} {xs : List Ent} (I : Inv X pins σ H s) (d : MD H a xs) : ∀ b, Value.ref a = .ref b → ∃ ob, s.heap.get? b = some ob ∧ ob.dict = none := fun b q => by
  cases q
  obtain ⟨o, _, _, h1, h2, _⟩ := d.dict I.hok
  exact ⟨o, h1, h2.2.1⟩
/-- d.get(k, x) -/
def tGetM (td ty tx : TE) : TE := fun σ H Q => td σ H fun x H1 => ∃ a xs, x = .ref a ∧ MD H1 a xs ∧ ty σ H1 fun y H2 => tx σ H2 fun z H3 => ∃ b k, y = .ref b ∧ MD H3 a xs ∧ KeyAt H3 k b ∧
  (∀ p v, atKey xs k = some p → RelV v p.2 → Q v H3) ∧ (atKey xs k = none → Q z H3) ∧ ∀ p, atKey xs k = some p → ∃ v, RelV v p.2
theorem pe_getM (hu : X.A.units + 64 < cLine) (ho : PE X o td) (he : PE X e ty) (hf : PE X f tx) (m : M2 X o "get" apos e f cpos) : PE X (.Call (.Attribute o "get" apos) [e, f] [] cpos) (tGetM td ty tx) := by
  refine ⟨fun pins s σ H Q I h => wpAny_Call_method m.base m.few m.line PySem.F.plainAttrs_dict PySem.F.slot_dict_get PySem.F.type_dict_get (thn (ho.run pins s σ H _ I h) fun u s1 ⟨x, H1, I1, rx, a, xs, ex, d, q1⟩ => ?_)⟩
  subst ex; cases rx
  refine ⟨(d.dict I1.hok).typeIs, d.noDict I1, ?_⟩
  rw [m.trees]
  refine Calls.callWith_builtin rfl (Calls.evalArgs_plain (Calls.spliced_cons (thn (he.run pins s1 σ H1 _ I1 q1) fun iv s2 ⟨y, H2, I2, ry, q2⟩ =>
    Calls.spliced_cons (thn (hf.run pins s2 σ H2 _ I2 q2) fun fv s3 ⟨z, H3, I3, rz, b, k, ey, d3, ka, g1, g2, g3⟩ => Calls.spliced_nil ?_))))
  subst ey; cases ry
  refine md_getOr hu I3 d3 ka fun s4 I4 => ?_
  cases ha : atKey xs k with
  | none => exact ⟨z, H3, I4, rz, g2 ha⟩
  | some p =>
    obtain ⟨v, hv⟩ := g3 p ha
    exact ⟨v, H3, I4, hv, g1 p v ha hv⟩
/-- d[k] = v -/
def sPutM (td ty tv : TE) : TS := fun D σ H => tv σ H fun v H1 => td σ H1 fun x H2 => ty σ H2 fun y H3 => ∃ a b xs k, x = .ref a ∧ y = .ref b ∧ MD H3 a xs ∧ KeyAt H3 k b ∧
  ∀ u ep, RelV v u → D.nx σ (upd H3 a (.ext (RawD a (storedH xs k b u) ep)))
theorem ps_putM (hu : X.A.units + 64 < cLine) (ho : PE X o td) (hi : PE X i ty) (hv : PE X value tv) (hs : swapsWith value (some (.Subscript o i pos')) pos.line X.env = pure false) :
    PS X (.Assign [.Subscript o i pos'] value pos) (sPutM td ty tv) := by
  refine ⟨fun pins s σ H D I h => wpAny_Assign_Subscript (thn (hv.run pins s σ H _ I h) fun r s1 ⟨v, H1, I1, rv, q1⟩ => thn (ho.run pins s1 σ H1 _ I1 q1) fun u s2 ⟨x, H2, I2, rx, q2⟩ =>
    thn (hi.run pins s2 σ H2 _ I2 q2) fun iv s3 ⟨y, H3, I3, ry, a, b, xs, k, ex, ey, d, ka, q3⟩ => ?_) hs⟩
  subst ex ey; cases rx; cases ry
  exact md_set hu I3 d ka fun s4 ep I4 => ⟨σ, _, I4, q3 r ep rv⟩
/-- d[k] op= e -/
def sAugM (td ty tv : TE) (rd : V → V → Hp → VK → Prop) : TS := fun D σ H => td σ H fun x H1 => ty σ H1 fun y H2 => ∃ a b xs k p v, x = .ref a ∧ y = .ref b ∧ MD H2 a xs ∧ KeyAt H2 k b ∧ atKey xs k = some p ∧ RelV v p.2 ∧
  tv σ H2 fun y2 H3 => rd v y2 H3 fun z H4 => MD H4 a xs ∧ KeyAt H4 k b ∧ ∀ u ep, RelV z u → D.nx σ (upd H4 a (.ext (RawD a (storedH xs k b u) ep)))
theorem ps_augM {op : Operator} {rd : V → V → Hp → VK → Prop} (hu : X.A.units + 64 < cLine) (ho : PE X o td) (hi : PE X i ty) (hv : PE X value tv) (hop : InOp X op rd)
    (ha : ∀ ov iv new, augStore i ov iv new = (do holding [new, ov, iv] (setItem ov iv new); release [new, ov, iv] []; pure .next)) : PS X (.AugAssign (.Subscript o i tpos) op value pos) (sAugM td ty tv rd) := by
  refine ⟨fun pins s σ H D I h => wpAny_AugAssign_SubscriptAny (thn (ho.run pins s σ H _ I h) fun u s1 ⟨x, H1, I1, rx, q1⟩ => thn (hi.run pins s1 σ H1 _ I1 q1) fun iv s2 ⟨y, H2, I2, ry, a, b, xs, k, p, v, ex, ey, d, ka, hp, rv, q2⟩ => ?_) ha⟩
  subst ex ey; cases rx; cases ry
  refine md_get hu I2 d ka hp fun s3 I3 => thn (hv.run pins s3 σ H2 _ I3 q2) fun w2 s4 ⟨y2, H3, I4, ry2, q3⟩ => thn (hop pins s4 σ H3 v y2 p.2 w2 _ I4 rv ry2 q3) fun w3 s5 ⟨z, H4, I5, rz, d5, k5, q4⟩ => ?_
  exact md_set hu I5 d5 k5 fun s6 ep I6 => ⟨σ, _, I6, q4 w3 ep rz⟩
/-- {} -/
def tNewM : TE := fun _ H Q => ∀ p, H p = none → (p == sysModules) = false → Q (.ref p) (upd H p (.ext (RawD p [] 0)))
theorem raw_new (h : Heap) : RawD h.objs.size [] 0 (h.push { cls := .type "dict", data := .dict #[] }) := ⟨_, #[], Heap.get?_push_size _ rfl, ⟨rfl, rfl, rfl⟩, rfl, fun _ => rfl⟩
theorem Inv.notSys {pins : List (Addr × Obj)} {σ : L2.St} {H : Hp} {s : Shared} (I : Inv X pins σ H s) : (s.heap.objs.size == sysModules) = false := beq_eq_false_iff_ne.mpr (Nat.ne_of_gt I.big)
theorem pe_dnewM : PE X (.Dict [] [] pos) tNewM := ⟨fun pins s σ H Q I h =>
  wpAny_Dict_empty ⟨.ref s.heap.objs.size, _, I.laid (a := s.heap.objs.size) (t' := s.toks) (fun _ _ q => Heap.get?_push_of_some _ q) (Nat.le_refl _) (rawD_ok (raw_new s.heap)), rfl, h _ (I.hok.fresh (Nat.le_refl _)) (Inv.notSys I)⟩⟩
/-- {k: v} -/
def tDispM (tk tv : TE) : TE := fun σ H Q => ∀ p, H p = none → (p == sysModules) = false → tk σ (upd H p (.ext (RawD p [] 0))) fun x H1 => tv σ H1 fun y H2 => H2 p = some (.ext (RawD p [] 0)) ∧ ∃ k b, x = .ref b ∧ KeyAt H2 k b ∧
  ∀ u ep, RelV y u → Q (.ref p) (upd H2 p (.ext (RawD p [(k, b, u)] ep)))
theorem pe_dispM {k v : Expr} {tk tv : TE} (hu : X.A.units + 64 < cLine) (hk : PE X k tk) (hv : PE X v tv) : PE X (.Dict [some k] [v] pos) (tDispM tk tv) := by
  refine ⟨fun pins s σ H Q I q => ?_⟩
  have hn := I.hok.fresh (Nat.le_refl s.heap.objs.size)
  have I1 := I.laid (a := s.heap.objs.size) (h' := s.heap.push { cls := .type "dict", data := .dict #[] }) (t' := s.toks) (fun _ _ q => Heap.get?_push_of_some _ q) (Nat.le_refl _) (rawD_ok (raw_new s.heap))
  have hsh := zip_pairTrees [some k] [v] X.env pos rfl rfl
  have pl := pairTrees_length [some k] [v] X.env pos rfl rfl
  have hne : pairTrees [some k] [v] X.env pos ≠ [] := fun z => by rw [z] at pl; exact nomatch pl
  have hl : (pairTrees [some k] [v] X.env pos).length ≤ 15 := by rw [pl]; show 1 ≤ 15; decide
  rw [arm_eval_Dict, hsh, dictDisplay_pairs _ hne (by omega)]
  refine wpAny_bind (wpAny_standAt (wpAny_bind (wpAny_subDictH (knd := nestedKind X.prog X.w) (by show X.A.units + 8 < cLine; omega) hl ?_)))
  refine thn ((L2.pps_cons hk hv L2.pps_nil : L2.PPs X pos [some k] [v] [(tk, tv)]).run pins _ σ _ (fun ps H2 => match ps with
    | [(x, y)] => H2 s.heap.objs.size = some (.ext (RawD s.heap.objs.size [] 0)) ∧ ∃ k b, x = .ref b ∧ KeyAt H2 k b ∧ ∀ u ep, RelV y u → Q (.ref s.heap.objs.size) (upd H2 s.heap.objs.size (.ext (RawD s.heap.objs.size [(k, b, u)] ep)))
    | _ => False) I1 (q _ hn (Inv.notSys I))) ?_
  rintro ws s2 ⟨ps, H2, I2, rel, hq⟩
  match ps, ws, rel, hq with
  | [(x, y)], _, .cons (b := (u1, u2)) ⟨r1, r2⟩ .nil, ⟨e, kk, b, ex, ka, q2⟩ =>
    subst ex
    cases (show u1 = Value.ref b from r1)
    have md : MD H2 s.heap.objs.size [] := ⟨⟨0, e⟩, Inv.notSys I, by decide, List.nodup_nil, fun x hx => nomatch hx⟩
    refine ⟨[(kk, b, u2)], ⟨rfl, rfl, ka.is I2.hok, trivial⟩, md.dict I2.hok, fun h' tk dd' hs => ?_⟩
    obtain ⟨ep, I3⟩ := md_write (t' := tk) I2 md dd' hs fun x hx => by cases List.mem_singleton.mp hx; exact ka.1.nt
    exact wpAny_pure ⟨.ref s.heap.objs.size, _, I3, rfl, q2 u2 ep r2⟩
/-- len(d) -/
def rLenM : List V → Hp → VK → Prop := fun vs H Q => ∃ a xs, vs = [.ref a] ∧ MD H a xs ∧ Q (.int (xs.length : Nat)) H
theorem call_lenM : CallR X (.builtin "len") rLenM := by
  rintro pins s σ H vs us Q I r ⟨a, xs, rfl, d, q⟩
  obtain ⟨u, rfl, rx⟩ := r.one
  cases rx
  have hl := d.2.2.1
  refine PyProof.Rows.call_len_slot (n := (pairsH xs).length) (d.dict I.hok).typeIs F.slot_dict_len (fun Q' hq => len_keyed (knd := nestedKind X.prog X.w) d.2.1 ⟨xs, d.dict I.hok, rfl⟩ hq) (by omega) (by rw [pairsH_length]; omega) ?_
  rw [pairsH_length]
  exact ⟨.int (xs.length : Nat), H, I.tok _, ⟨_, rfl⟩, q⟩
/-! ### walks -/
theorem RelV.inj {x y : V} {u : Value} (h : RelV x u) (g : RelV y u) : x = y := by
  cases x <;> cases y <;> simp only [L2.RelV] at h g <;> first
    | rfl
    | (subst h; first | (obtain ⟨t, g⟩ := g; exact nomatch g) | (cases g; rfl) | exact nomatch g)
    | (obtain ⟨t, h⟩ := h; subst h; first | (obtain ⟨t, g⟩ := g; cases g; rfl) | (obtain ⟨t, g⟩ := g; exact nomatch g) | exact nomatch g)
def MR (H : Hp) (a : Addr) (xs : List Ent) (ep : Nat) : Prop := H a = some (.ext (RawD a xs ep)) ∧ (a == sysModules) = false
theorem MR.raw {pins : List (Addr × Obj)} {σ : L2.St} {H : Hp} {s : Shared} {a : Addr} {xs : List Ent} {ep : Nat} (I : Inv X pins σ H s) (d : MR H a xs ep) : ∃ es, s.heap.DictRaw a es ep ∧ es.size = xs.length ∧ ∀ (i : Nat) (hi : i < es.size), ∃ x, xs[i]? = some x ∧ es[i].key = .ref x.2.1 ∧ es[i].val = x.2.2 := by
  obtain ⟨o, es, h1, h2, h3, h4⟩ := (show ObjOk X.prog X.w H s.heap a (.ext (RawD a xs ep)) from I.hok a _ d.1).1
  have h5 := h4 X.w
  have hl : es.size = xs.length := by rw [← Array.length_toList, h5, List.length_map]
  refine ⟨es, ⟨o, h1, h2, h3⟩, hl, fun i hi => ⟨xs[i]'(by omega), List.getElem?_eq_getElem _, ?_⟩⟩
  have e : es[i] = entK X.w (xs[i]'(by omega)) := by
    have : es.toList[i]? = (xs.map (entK X.w))[i]? := by rw [h5]
    rw [Array.getElem?_toList, Array.getElem?_eq_getElem hi, List.getElem?_map, List.getElem?_eq_getElem (by omega)] at this
    exact Option.some.inj this
  rw [e]; exact ⟨rfl, rfl⟩
def ItmK (a : Addr) (xs : List Ent) (ep : Nat) : It := ⟨fun i H => MR H a xs ep ∧ i < xs.length, fun i H x H' => H' = H ∧ ∃ e, xs[i]? = some e ∧ x = .ref e.2.1, fun i H => MR H a xs ep ∧ xs.length ≤ i⟩
def ItmV (a : Addr) (xs : List Ent) (ep : Nat) : It := ⟨fun i H => MR H a xs ep ∧ ∃ e y, xs[i]? = some e ∧ RelV y e.2.2, fun i H x H' => H' = H ∧ ∃ e, xs[i]? = some e ∧ RelV x e.2.2, fun i H => MR H a xs ep ∧ xs.length ≤ i⟩
theorem turn_mk {P : Program} {w : World} {K : PySem.W.Frag} (a it : Addr) (xs : List Ent) (ep : Nat) : Turn P w K tg (ItmK a xs ep) [it] it (fun i h => h.IsKeyIter it a i xs.length ep) where
  mem := List.mem_singleton.mpr rfl
  obj := fun i h st b hb => by
    cases List.mem_singleton.mp hb
    obtain ⟨o, e, _, dd⟩ := st
    exact ⟨o, e, fun v z => by rw [dd] at z; exact nomatch z⟩
  keep := fun i h h' st k => st.at fun o e => k it (List.mem_singleton.mpr rfl) o e
  item := by
    rintro X rfl rfl rfl hc i pins s σ H E I hf st ⟨d, hi⟩
    obtain ⟨f0, f1, f2, f3, f4, f5⟩ := hf it (List.mem_singleton.mpr rfl)
    obtain ⟨es, dr, hl, ent⟩ := d.raw I
    rw [← hl] at st hi
    obtain ⟨x, hx, hk, _⟩ := ent i hi
    refine wpAny_pyNext_keys_item_raw st dr hi fun h' st' sb => ?_
    have I1 : Inv X pins σ H { s with heap := h' } := I.turned (t' := s.toks) (fun b ob hb e => (sb.2 b hb).trans e) f0 f1 f3 f4 f5
    obtain ⟨oi, e, c, dd⟩ := id st'
    refine ⟨_, rfl, go_of (s := { s with heap := h' }) e c dd (by decide) ⟨.ref x.2.1, H, I1, hk, ⟨rfl, x, hx, rfl⟩, ?_, fun b hb => (hf b hb).1⟩⟩
    show h'.IsKeyIter it a (i + 1) xs.length ep
    rw [← hl]; exact st'
  done := by
    rintro X rfl rfl rfl hc i pins s σ H E I hf st ⟨d, hi⟩
    obtain ⟨f0, f1, f2, f3, f4, f5⟩ := hf it (List.mem_singleton.mpr rfl)
    obtain ⟨es, dr, hl, ent⟩ := d.raw I
    rw [← hl] at st hi
    exact wpAny_pyNext_keys_end_raw (I.ok.hd hc) st dr hi fun h' eb => ⟨rfl, I.turned (t' := s.toks) (fun b ob hb e => eb b ob hb e) f0 f1 f3 f4 f5⟩
  self := fun A i s Q E st h => wpAny_pyIter_slot st.typeIs F.slot_dict_keyiterator_iter (wpAny_call_entry F.slot_dict_keyiterator_iter st.typeIs F.entry_dict_keyiterator_iter
    (wpAny_pure ⟨_, rfl, "dict_keyiterator", _, st.typeIs, F.slot_dict_keyiterator_next.lookup, h⟩) (F.args_dict_keyiterator_iter_1 _))
theorem turn_mv {P : Program} {w : World} {K : PySem.W.Frag} (a it : Addr) (xs : List Ent) (ep : Nat) : Turn P w K tg (ItmV a xs ep) [it] it (fun i h => h.IsValIter it a i xs.length ep) where
  mem := List.mem_singleton.mpr rfl
  obj := fun i h st b hb => by
    cases List.mem_singleton.mp hb
    obtain ⟨o, e, _, dd⟩ := st
    exact ⟨o, e, fun v z => by rw [dd] at z; exact nomatch z⟩
  keep := fun i h h' st k => st.at fun o e => k it (List.mem_singleton.mpr rfl) o e
  item := by
    rintro X rfl rfl rfl hc i pins s σ H E I hf st ⟨d, e0, y, he0, ry⟩
    obtain ⟨f0, f1, f2, f3, f4, f5⟩ := hf it (List.mem_singleton.mpr rfl)
    obtain ⟨es, dr, hl, ent⟩ := d.raw I
    have hi := (List.getElem?_eq_some_iff.mp he0).1
    rw [← hl] at st hi
    obtain ⟨x, hx, _, hv⟩ := ent i hi
    rw [he0] at hx; cases hx
    refine wpAny_pyNext_values_item_raw st dr hi fun h' st' sb => ?_
    have I1 : Inv X pins σ H { s with heap := h' } := I.turned (t' := s.toks) (fun b ob hb e => (sb.2 b hb).trans e) f0 f1 f3 f4 f5
    obtain ⟨oi, e, c, dd⟩ := id st'
    refine ⟨_, rfl, go_of (s := { s with heap := h' }) e c dd (by decide) ⟨y, H, I1, by rw [hv]; exact ry, ⟨rfl, e0, he0, ry⟩, ?_, fun b hb => (hf b hb).1⟩⟩
    show h'.IsValIter it a (i + 1) xs.length ep
    rw [← hl]; exact st'
  done := by
    rintro X rfl rfl rfl hc i pins s σ H E I hf st ⟨d, hi⟩
    obtain ⟨f0, f1, f2, f3, f4, f5⟩ := hf it (List.mem_singleton.mpr rfl)
    obtain ⟨es, dr, hl, ent⟩ := d.raw I
    rw [← hl] at st hi
    exact wpAny_pyNext_values_end_raw (I.ok.hd hc) st dr hi fun h' eb => ⟨rfl, I.turned (t' := s.toks) (fun b ob hb e => eb b ob hb e) f0 f1 f3 f4 f5⟩
  self := fun A i s Q E st h => wpAny_pyIter_valiter st h
def iMK (td : TE) : TI := fun σ H R => td σ H fun x H1 => ∃ a xs ep, x = .ref a ∧ MR H1 a xs ep ∧ R (ItmK a xs ep) H1
def iMV (td : TE) : TI := fun σ H R => td σ H fun x H1 => ∃ a xs ep, x = .ref a ∧ MR H1 a xs ep ∧ R (ItmV a xs ep) H1
theorem pi_mk (he : PE X e td) : PI X tg e (iMK td) := by
  refine ⟨fun pins s σ H R I h => thn (he.run pins s σ H _ I h) fun u s1 ⟨x, H1, I1, rx, a, xs, ep, ex, d, q⟩ => ?_⟩
  subst ex; cases rx
  obtain ⟨es, dr, hl, ent⟩ := d.raw I1
  refine wpAny_pyIter_dict_raw d.2 dr (pi_one (tk := s1.toks) I1 _ (turn_mk a _ xs ep) ⟨_, Heap.get?_push_size _ rfl, rfl, ?_⟩ q)
  rw [hl] <;> rfl
theorem pi_mv (he : PE X e td) (hbase : attributeBase e "values" X.env (eval e X.env) = eval e X.env := by rfl) (hline : (apos.endLine == cpos.line) = true := by rfl) : PI X tg (.Call (.Attribute e "values" apos) [] [] cpos) (iMV td) := by
  refine ⟨fun pins s σ H R I h => wpAny_Call_method (T := "dict") (id := "dict.values") hbase rfl hline F.plainAttrs_dict F.slot_dict_values F.type_dict_values (thn (he.run pins s σ H _ I h) fun u s1 ⟨x, H1, I1, rx, a, xs, ep, ex, d, q⟩ => ?_)⟩
  subst ex; cases rx
  obtain ⟨es, dr, hl, ent⟩ := d.raw I1
  obtain ⟨o, ho, hx, hdt⟩ := id dr
  refine ⟨dr.typeIs, fun b q => by cases q; exact ⟨o, ho, hx.2.1⟩, ?_⟩
  have I2 : Inv X pins σ H1 { s1 with heap := s1.heap.push { cls := .type "dict_values", data := .fields #[.ref a] } } := I1.kept (t' := s1.toks) fun b ob q => Heap.get?_push_of_some _ q
  have fin : wpAny (model X.prog X.w) X.A (pyIter (.ref s1.heap.objs.size)) (PIE X pins σ tg R) X.xe { s1 with heap := s1.heap.push { cls := .type "dict_values", data := .fields #[.ref a] } } := by
    refine wpAny_pyIter_values_raw (d := a) ⟨_, Heap.get?_push_size _ rfl, rfl, rfl⟩ (dr.at fun o e => Heap.get?_push_of_some _ e) (pi_one (tk := s1.toks) I2 _ (turn_mv a _ xs ep) ⟨_, Heap.get?_push_size _ rfl, rfl, ?_⟩ q)
    rw [hl] <;> rfl
  show wpAny _ _ (callWith cpos (.builtin "dict.values") [.ref a] [] []) _ X.xe s1
  exact method_meetsIn F.slot_dict_values F.entry_dict_values rfl (PySem.evalArgs_none ⟨rfl, dr.typeIs, F.args_dict_values_1 _, _, meets_dict_values_raw a d.2, ⟨es, ep, dr⟩, fin⟩)
end
end KV

namespace KV
open PySem PySem.Spec PyProof.Rows L2 KGX
inductive Cell where
  | fr (v : PV) | ow (v : PV) | box
abbrev Rho := List (Option Cell)
def RepC (K : PySem.W.Frag) (B : Addr → Prop) (F : Hp) (x : V) : Cell → Prop
  | .fr v => Rep K F x v
  | .ow v => Rep K F x v
  | .box => ∃ b, x = .ref b ∧ B b
/-- where an expression stands -/
structure Wx (K : PySem.W.Frag) (B : Addr → Prop) (F H : Hp) (σ : L2.St) (ρ : Rho) : Prop where
  fh : Same F H
  bx : ∀ a, B a → F a = none ∧ ∃ n, H a = some (.lst [.int n])
  sl : ∀ (i : Nat) (c : Cell), ρ[i]? = some (some c) → ∃ x, σ[i]? = some (some x) ∧ RepC K B F x c
  len : ρ.length = σ.length
section
variable {K : PySem.W.Frag} {B : Addr → Prop} {F H F' H' : Hp} {σ : L2.St} {ρ : Rho}
theorem Wx.refl (w : Wx K B F H σ ρ) : Ext B F H F H := .refl w.fh fun a b => (w.bx a b).2
theorem RepC.mono (s : Same F F') {x : V} {c : Cell} (h : RepC K B F x c) : RepC K B F' x c := by
  cases c with
  | fr v => exact Rep.mono s v h
  | ow v => exact Rep.mono s v h
  | box => exact h
theorem Wx.ext (w : Wx K B F H σ ρ) (e : Ext B F H F' H') : Wx K B F' H' σ ρ := by
  refine ⟨e.fh, fun a b => ⟨e.new a (w.bx a b).1 ?_, e.box a b⟩, fun i c h => ?_, w.len⟩
  · obtain ⟨n, q⟩ := (w.bx a b).2
    rw [q]; exact ⟨(fun z => nomatch z), fun xs z => nomatch z⟩
  · obtain ⟨x, e1, r⟩ := w.sl i c h
    exact ⟨x, e1, r.mono e.ff⟩
end
abbrev EW := Rho → (PV → Prop) → Prop
abbrev AW := Rho → (List PV → Prop) → Prop
/-- an expression's reading by values -/
def tE (K : PySem.W.Frag) (f : EW) : TE := fun σ H Q => ∃ B F ρ P, Wx K B F H σ ρ ∧ f ρ P ∧ ∀ v x F' H', P v → Ext B F H F' H' → Rep K F' x v → Q x H'
def tAs (K : PySem.W.Frag) (f : AW) : TA := fun σ H Q => ∃ B F ρ P, Wx K B F H σ ρ ∧ f ρ P ∧ ∀ vs xs F' H', P vs → Ext B F H F' H' → Reps K F' xs vs → Q xs H'
def PP (X : Cx) (e : Expr) (f : EW) : Prop := PE X e (tE X.K f)
def PPs (X : Cx) (es : List Expr) (f : AW) : Prop := PA X es (tAs X.K f)
section
variable {X : Cx} {e a b : Expr} {es : List Expr} {pos : Pos} {f g : EW} {fa : AW}
theorem PE.weak {t t' : TE} (h : PE X e t) (w : ∀ σ H Q, t' σ H Q → t σ H Q) : PE X e t' := ⟨fun pins s σ H Q I q => h.run pins s σ H Q I (w σ H Q q)⟩
theorem PA.weak {t t' : TA} (h : PA X es t) (w : ∀ σ H Q, t' σ H Q → t σ H Q) : PA X es t' := ⟨fun pos pins s σ H Q I q => h.run pos pins s σ H Q I (w σ H Q q)⟩
/-! names and constants -/
def eVar (i : Nat) : EW := fun ρ k => ∃ v, (ρ[i]? = some (some (.fr v)) ∨ ρ[i]? = some (some (.ow v))) ∧ k v
def eC (v : PV) : EW := fun _ k => k v
theorem pp_var (i : Nat) {x : Str} (h : PE X (.Name x pos) (tVar i)) : PP X (.Name x pos) (eVar i) := PE.weak h fun σ H Q ⟨B, F, ρ, P, w, ⟨v, hv, p⟩, q⟩ => by
  rcases hv with hv | hv
  · obtain ⟨x, e1, r⟩ := w.sl i _ hv
    exact ⟨x, e1, q v x F H p w.refl r⟩
  · obtain ⟨x, e1, r⟩ := w.sl i _ hv
    exact ⟨x, e1, q v x F H p w.refl r⟩
theorem pp_c {v : V} {d : PV} (h : PE X e (tC v)) (r : ∀ F, Rep X.K F v d) : PP X e (eC d) := PE.weak h fun σ H Q ⟨B, F, ρ, P, w, p, q⟩ => q d v F H p w.refl (r F)
theorem pp_int {i : Int} {j : Nat} : PP X (.Constant (.int i) j pos) (eC (.int i)) := pp_c pe_int fun F => by rw [Rep]
theorem pp_bl {i : Bool} {j : Nat} : PP X (.Constant (.bool i) j pos) (eC (.bl i)) := pp_c pe_bl fun F => by rw [Rep]
theorem pp_non {j : Nat} : PP X (.Constant .none j pos) (eC .non) := pp_c pe_non fun F => by rw [Rep]
theorem pp_str {i : Str} {j : Nat} : PP X (.Constant (.str i) j pos) (eC (.str i)) := pp_c pe_str fun F => by rw [Rep]
/-- a module's constant -/
theorem pp_glob {x : Str} {i : Int} {t : Tok} (hg : Gl X x) (hm : X.mg x = some (.int i t)) (hd : (x == ("__debug__" : Str)) = false := by decide) : PP X (.Name x pos) (eC (.int i)) := pp_c (pe_glob (v := .int i) hg hm ⟨_, rfl⟩ hd) fun F => by rw [Rep]
/-- a module's tuple of ints -/
theorem pp_globT {x : Str} {a : Addr} {o : Obj} {its : Array Value} {n : Nat} {ns : List Int} (hg : Gl X x) (hm : X.mg x = some (.ref a)) (hk : X.K.lookup a = some o) (hc : o.cls = .type "tuple") (hd : o.data = .seq its n) (hz : its.size ≤ sizeLine) (hv : Vals (ns.map V.int) its.toList)
    (hdb : (x == ("__debug__" : Str)) = false := by decide) : PP X (.Name x pos) (eC (.cst (ns.map .int))) :=
  pp_c (pe_glob (v := .ref a) hg hm rfl hdb) fun F => by
    rw [Rep]; exact ⟨a, ns.map V.int, rfl, .inr ⟨o, its, n, hk, hc, hd, hz, hv⟩, Reps.of_ints⟩
/-! operators by values -/
abbrev OW := PV → PV → (PV → Prop) → Prop
/-- what an operator asks, by values, is enough for what its rule asks -/
def OpV (K : PySem.W.Frag) (r : R2) (o : OW) : Prop := ∀ (x y : V) (v w : PV) (B : Addr → Prop) (F H : Hp) (P : PV → Prop) (Q : VK), Same F H → (∀ a, B a → F a = none ∧ ∃ n, H a = some (.lst [.int n])) → Rep K F x v → Rep K F y w → o v w P →
  (∀ z p F' H', P z → Ext B F H F' H' → Rep K F' p z → Q p H') → r x y H Q
def eBin (o : OW) (f g : EW) : EW := fun ρ k => f ρ fun v => g ρ fun w => o v w k
theorem bin_le {K : PySem.W.Frag} {r : R2} {o : OW} (h : OpV K r o) (σ : L2.St) (H : Hp) (Q : VK) (t : tE K (eBin o f g) σ H Q) : tOp r (tE K f) (tE K g) σ H Q := by
  obtain ⟨B, F, ρ, P, w, p, q⟩ := t
  refine ⟨B, F, ρ, _, w, p, fun v x F1 H1 p1 e1 r1 => ?_⟩
  have w1 := w.ext e1
  refine ⟨B, F1, ρ, _, w1, p1, fun u y F2 H2 p2 e2 r2 => ?_⟩
  have w2 := w1.ext e2
  exact h x y v u B F2 H2 P Q w2.fh w2.bx (Rep.mono e2.ff v r1) r2 p2 fun z p F' H' pz e3 r3 => q z p F' H' pz (e1.trans (e2.trans e3)) r3
theorem pp_op {op : Operator} {r : R2} {o : OW} (ho : OpR X (binaryOp op) r) (h : OpV X.K r o) (ha : PP X a f) (hb : PP X b g) : PP X (.BinOp a op b pos) (eBin o f g) := PE.weak (pe_op ho ha hb) (bin_le h)
theorem pp_cmp {op : CmpOp} {r : R2} {o : OW} (ho : OpR X (compareOp op) r) (h : OpV X.K r o) (ha : PP X a f) (hb : PP X b g) (hm : behindInMarks op b = false) : PP X (.Compare a [op] [b] pos) (eBin o f g) := PE.weak (pe_cmpR ho ha hb hm) (bin_le h)
theorem pp_ix {r : R2} {o : OW} (ho : IxR X r) (h : OpV X.K r o) (ha : PP X a f) (hb : PP X b g) (hs : PlainIx b) : PP X (.Subscript a b pos) (eBin o f g) := PE.weak (pe_ix ho ha hb hs) (bin_le h)
def rOr (r r' : R2) : R2 := fun x y H Q => r x y H Q ∨ r' x y H Q
theorem opR_or {h : Value → Value → Sem Value} {r r' : R2} (h1 : OpR X h r) (h2 : OpR X h r') : OpR X h (rOr r r') := by
  intro pins s σ H x y v u Q I rx ry q
  rcases q with q | q
  · exact h1 pins s σ H x y v u Q I rx ry q
  · exact h2 pins s σ H x y v u Q I rx ry q
/-! the operators of ints -/
def oI (C : Int → Int → Prop) (g : Int → Int → PV) : OW := fun v w k => ∃ i j, v = .int i ∧ w = .int j ∧ C i j ∧ k (g i j)
theorem opv_rI {K : PySem.W.Frag} {C : Int → Int → Prop} {g : Int → Int → Int} : OpV K (rI C fun i j => .int (g i j)) (oI C fun i j => .int (g i j)) := by
  rintro x y v w B F H P Q s b r1 r2 ⟨i, j, rfl, rfl, c, p⟩ q
  rw [Rep] at r1 r2
  exact ⟨i, j, r1, r2, c, q _ _ F H p (.refl s fun a h => (b a h).2) (by rw [Rep])⟩
theorem opv_rI0 {K : PySem.W.Frag} {g : Int → Int → Int} : OpV K (rI0 fun i j => .int (g i j)) (oI (fun _ _ => True) fun i j => .int (g i j)) := by
  rintro x y v w B F H P Q s b r1 r2 ⟨i, j, rfl, rfl, c, p⟩ q
  rw [Rep] at r1 r2
  exact ⟨i, j, r1, r2, q _ _ F H p (.refl s fun a h => (b a h).2) (by rw [Rep])⟩
theorem opv_cmp {K : PySem.W.Frag} {g : Int → Int → Bool} : OpV K (rI0 fun i j => .bl (g i j)) (oI (fun _ _ => True) fun i j => .bl (g i j)) := by
  rintro x y v w B F H P Q s b r1 r2 ⟨i, j, rfl, rfl, c, p⟩ q
  rw [Rep] at r1 r2
  exact ⟨i, j, r1, r2, q _ _ F H p (.refl s fun a h => (b a h).2) (by rw [Rep])⟩
/-- one of two -/
def oOr (o o' : OW) : OW := fun v w k => o v w k ∨ o' v w k
theorem opv_or {K : PySem.W.Frag} {r r' : R2} {o o' : OW} (h : OpV K r o) (h' : OpV K r' o') : OpV K (rOr r r') (oOr o o') := by
  intro x y v w B F H P Q s b r1 r2 p q
  rcases p with p | p
  · exact .inl (h x y v w B F H P Q s b r1 r2 p q)
  · exact .inr (h' x y v w B F H P Q s b r1 r2 p q)
/-! arguments -/
def aNil : AW := fun _ k => k []
def aCons (f : EW) (g : AW) : AW := fun ρ k => f ρ fun v => g ρ fun vs => k (v :: vs)
theorem pps_nil : PPs X [] aNil := PA.weak pa_nil fun σ H Q ⟨B, F, ρ, P, w, p, q⟩ => q [] [] F H p w.refl Reps.nil
theorem pps_cons (h1 : PP X e f) (h2 : PPs X es fa) (hs : starEach (e :: es) X.env = (false, eval e X.env) :: starEach es X.env := by rfl) : PPs X (e :: es) (aCons f fa) := PA.weak (pa_cons h1 h2 hs) fun σ H Q ⟨B, F, ρ, P, w, p, q⟩ => by
  refine ⟨B, F, ρ, _, w, p, fun v x F1 H1 p1 e1 r1 => ?_⟩
  have w1 := w.ext e1
  refine ⟨B, F1, ρ, _, w1, p1, fun vs xs F2 H2 p2 e2 r2 => ?_⟩
  exact q _ _ F2 H2 p2 (e1.trans e2) (Reps.cons (Rep.mono e2.ff v r1) r2)
/-! displays -/
def eTup (fa : AW) : EW := fun ρ k => fa ρ fun vs => vs.length ≤ 1000000 ∧ k (.tup vs)
theorem le_line {n : Nat} (h : n ≤ 1000000) : n ≤ sizeLine := Nat.le_trans h (by decide)
theorem pp_tup {x1 : Nat} (h : PPs X es fa) : PP X (.Tuple es x1 pos) (eTup fa) := PE.weak (pe_tupS h) fun σ H Q ⟨B, F, ρ, P, w, p, q⟩ => by
  refine ⟨B, F, ρ, _, w, p, fun vs xs F1 H1 ⟨hl, p1⟩ e1 r1 => ⟨le_line (by rw [r1.len]; exact hl), fun c o hc ho => ?_⟩⟩
  have w1 := w.ext e1
  have e2 : Ext B F1 H1 (upd F1 c (.frz o (.tup xs))) (upd H1 c (.frz o (.tup xs))) := .laid w1.fh (fun a b => (w1.bx a b).2) hc
  refine q _ _ _ _ p1 (e1.trans e2) ?_
  rw [Rep]; exact ⟨c, xs, rfl, .new ho, r1.mono e2.ff⟩
end
end KV

namespace KV
open PySem PySem.Spec PyProof.Rows L2 KGX
/-! ### a new list, a new dict: not known to anyone yet -/
def OwnO (K : PySem.W.Frag) (F : Hp) (p : Addr) : HO → PV → Prop
  | .lst xs, .lst ds => Reps K F xs ds
  | .frz _ u, .dks ds => ∃ kvs, u = .dK kvs ∧ RepK K F kvs ds
  | .ext φ, .dic ds => ∃ xs ep, φ = RawD p xs ep ∧ DOk p ds ∧ RepX K F xs ds
  | .ext φ, .dmx ds => ∃ es ep, φ = RawM p es ep ∧ (p == sysModules) = false ∧ RepM K F es ds
  | _, _ => False
def tF (K : PySem.W.Frag) (f : EW) : TE := fun σ H Q => ∃ B F ρ P, Wx K B F H σ ρ ∧ f ρ P ∧ ∀ v p o F' H', P v → Ext B F H F' H' → F' p = none → H p = none → H' p = some o → OwnO K F' p o v → Q (.ref p) H'
def PF (X : Cx) (e : Expr) (f : EW) : Prop := PE X e (tF X.K f)
section
variable {K : PySem.W.Frag} {B : Addr → Prop} {F H F' H' : Hp}
theorem OwnO.rep {o : HO} {v : PV} {p : Addr} (h : OwnO K F' p o v) (hp : F' p = none) : Rep K (upd F' p o) (.ref p) v := by
  cases o <;> cases v <;> first
    | exact h.elim
    | (rw [Rep]; exact ⟨p, _, rfl, upd_same, Reps.mono (same_new hp) _ h⟩)
    | (obtain ⟨kvs, rfl, h⟩ := h; rw [Rep]; exact ⟨p, _, _, rfl, upd_same, RepK.mono (same_new hp) _ h⟩)
    | (obtain ⟨xs, ep, rfl, dk, r⟩ := h; rw [Rep]; exact ⟨p, xs, ep, rfl, upd_same, dk, RepX.mono (same_new hp) _ r⟩)
    | (obtain ⟨es, ep, rfl, ns, r⟩ := h; rw [Rep]; exact ⟨p, es, ep, rfl, upd_same, ns, RepM.mono (same_new hp) _ r⟩)
theorem Ext.frz {p : Addr} {o : HO} (e : Ext B F H F' H') (fp : F' p = none) (hp : H p = none) (ho : H' p = some o) : Ext B F H (upd F' p o) H' := by
  refine ⟨e.ff.trans (same_new fp), fun a u q => ?_, fun a n h => ?_, e.keep, e.box⟩
  · by_cases z : a = p
    · subst z; rw [upd_same] at q; rw [ho]; exact q
    · rw [upd_ne z] at q; exact e.fh a u q
  · have z : a ≠ p := fun z => h.1 (by rw [z]; exact hp)
    rw [upd_ne z]; exact e.new a n h
/-- laid, not known -/
theorem Ext.own (h : Same F H) (b : ∀ a, B a → ∃ n, H a = some (.lst [.int n])) {p : Addr} {o : HO} (hp : H p = none) : Ext B F H F (upd H p o) :=
  ⟨fun _ _ e => e, fun a u e => same_new hp a u (h a u e), fun _ n _ => n, fun a u _ e => same_new hp a u e, fun a ba => by
    obtain ⟨n, q⟩ := b a ba
    exact ⟨n, same_new hp a _ q⟩⟩
theorem Ext.none (e : Ext B F H F' H') {p : Addr} (hp : H' p = none) : H p = none := by
  cases q : H p with
  | none => rfl
  | some u => exact absurd hp (e.there (by rw [q]; exact fun z => nomatch z))
theorem none_of {p : Addr} (h : Same F H) (hp : H p = none) : F p = none := by
  cases q : F p with
  | none => rfl
  | some u => rw [h _ _ q] at hp; exact nomatch hp
end
section
variable {X : Cx} {e a b : Expr} {es : List Expr} {pos : Pos} {f g : EW} {fa : AW}
theorem PF.pp (h : PF X e f) : PP X e f := PE.weak h fun σ H Q ⟨B, F, ρ, P, w, p, q⟩ =>
  ⟨B, F, ρ, P, w, p, fun v c o F' H' pv ex fc hc ho ow => q v _ _ _ pv (ex.frz fc hc ho) (ow.rep fc)⟩
/-- a rule that lays one new object behind what it asks -/
theorem own_new {K : PySem.W.Frag} {B : Addr → Prop} {F H F1 H1 : Hp} {Q : VK} {P : PV → Prop} {v : PV} {o : HO} (e1 : Ext B F H F1 H1) (w1 : Same F1 H1) (bx : ∀ a, B a → ∃ n, H1 a = some (.lst [.int n])) (p1 : P v) (ow : ∀ p, OwnO K F1 p o v)
    (q : ∀ v p o F' H', P v → Ext B F H F' H' → F' p = none → H p = none → H' p = some o → OwnO K F' p o v → Q (.ref p) H') : ∀ p, H1 p = none → Q (.ref p) (upd H1 p o) := fun p hp =>
  q v p o F1 _ p1 (e1.trans (.own w1 bx hp)) (none_of w1 hp) (e1.none hp) upd_same (ow p)
def eLst (fa : AW) : EW := fun ρ k => fa ρ fun vs => vs.length ≤ 1000000 ∧ k (.lst vs)
theorem pf_lst (h : PPs X es fa) : PF X (.List es pos) (eLst fa) := PE.weak (pe_lst h) fun σ H Q ⟨B, F, ρ, P, w, p, q⟩ =>
  ⟨B, F, ρ, _, w, p, fun vs xs F1 H1 ⟨hl, p1⟩ e1 r1 => ⟨le_line (by rw [r1.len]; exact hl), own_new e1 (w.ext e1).fh (fun a b => ((w.ext e1).bx a b).2) p1 (fun _ => r1) q⟩⟩
theorem pf_dnew : PF X (.Dict [] [] pos) (eC (.dic [])) := PE.weak pe_dnewM fun σ H Q ⟨B, F, ρ, P, w, p, q⟩ => fun d hd hs =>
  q _ d _ F _ p (.own w.fh (fun a b => (w.bx a b).2) hd) (none_of w.fh hd) hd upd_same ⟨[], 0, rfl, ⟨hs, by decide, List.nodup_nil⟩, by simp [RepX]⟩
/-- operators that lay a new list -/
def OpF (K : PySem.W.Frag) (r : R2) (o : OW) : Prop := ∀ (x y : V) (v w : PV) (B : Addr → Prop) (F H : Hp) (P : PV → Prop) (Q : VK), Same F H → (∀ a, B a → F a = none ∧ ∃ n, H a = some (.lst [.int n])) → Rep K F x v → Rep K F y w → o v w P →
  (∀ z p u F' H', P z → Ext B F H F' H' → F' p = none → H p = none → H' p = some u → OwnO K F' p u z → Q (.ref p) H') → r x y H Q
theorem OpF.v {K : PySem.W.Frag} {r : R2} {o : OW} (h : OpF K r o) : OpV K r o := fun x y v w B F H P Q s bx r1 r2 p q =>
  h x y v w B F H P Q s bx r1 r2 p fun z c u F' H' pz ex fc hc hu ow => q z _ _ _ pz (ex.frz fc hc hu) (ow.rep fc)
theorem pf_op {op : Operator} {r : R2} {o : OW} (ho : OpR X (binaryOp op) r) (h : OpF X.K r o) (ha : PP X a f) (hb : PP X b g) : PF X (.BinOp a op b pos) (eBin o f g) := PE.weak (pe_op ho ha hb) fun σ H Q ⟨B, F, ρ, P, w, p, q⟩ => by
  refine ⟨B, F, ρ, _, w, p, fun v x F1 H1 p1 e1 r1 => ?_⟩
  have w1 := w.ext e1
  refine ⟨B, F1, ρ, _, w1, p1, fun u y F2 H2 p2 e2 r2 => ?_⟩
  have w2 := w1.ext e2
  exact h x y v u B F2 H2 P Q w2.fh w2.bx (Rep.mono e2.ff v r1) r2 p2 fun z c o F' H' pz e3 fc hc ho ow => q z c o F' H' pz (e1.trans (e2.trans e3)) fc ((e1.trans e2).none hc) ho ow
def oCatL : OW := fun v w k => ∃ xs ys, v = .lst xs ∧ w = .lst ys ∧ xs.length + ys.length ≤ 1000000 ∧ k (.lst (xs ++ ys))
theorem opf_cat {K : PySem.W.Frag} : OpF K rCat oCatL := by
  rintro x y v w B F H P Q s bx r1 r2 ⟨xs, ys, rfl, rfl, hl, p⟩ q
  rw [Rep] at r1 r2
  obtain ⟨c, us, rfl, ec, rc⟩ := r1
  obtain ⟨d, ws, rfl, ed, rd⟩ := r2
  exact ⟨c, d, us, ws, rfl, rfl, s _ _ ec, s _ _ ed, le_line (by rw [rc.len, rd.len]; exact hl), own_new (.refl s fun a h => (bx a h).2) s (fun a h => (bx a h).2) p (fun _ => Reps.app rc rd) q⟩
theorem reps_rep {K : PySem.W.Frag} {F : Hp} {us : List V} {xs : List PV} (h : Reps K F us xs) : ∀ n : Nat, Reps K F (List.replicate n us).flatten (List.replicate n xs).flatten
  | 0 => Reps.nil
  | n + 1 => by rw [List.replicate_succ, List.replicate_succ, List.flatten_cons, List.flatten_cons]; exact Reps.app h (reps_rep h n)
def oRepL : OW := fun v w k => ∃ xs n, v = .lst xs ∧ w = .int n ∧ -1000 ≤ n ∧ n ≤ 1000 ∧ xs.length ≤ 1000 ∧ k (.lst (List.replicate n.toNat xs).flatten)
theorem opf_rep {K : PySem.W.Frag} : OpF K rRep oRepL := by
  rintro x y v w B F H P Q s bx r1 r2 ⟨xs, n, rfl, rfl, h1, h2, hl, p⟩ q
  rw [Rep] at r1; rw [Rep] at r2
  obtain ⟨c, us, rfl, ec, rc⟩ := r1
  subst r2
  refine ⟨c, n, us, rfl, rfl, s _ _ ec, by omega, by omega, le_line ?_, own_new (.refl s fun a h => (bx a h).2) s (fun a h => (bx a h).2) p (fun _ => reps_rep rc _) q⟩
  rw [rc.len]
  exact Nat.le_trans (Nat.mul_le_mul hl (show n.toNat ≤ 1000 by omega)) (by decide)
/-! tuples put together -/
def oCatT : OW := fun v w k => ∃ xs ys, v = .tup xs ∧ w = .tup ys ∧ xs.length + ys.length ≤ 1000000 ∧ k (.tup (xs ++ ys))
theorem opv_catA {K : PySem.W.Frag} : OpV K (rCatS K) oCatT := by
  rintro x y v w B F H P Q s bx r1 r2 ⟨xs, ys, rfl, rfl, hl, p⟩ q
  have r1' := r1
  have r2' := r2
  rw [Rep] at r1 r2
  obtain ⟨c, us, rfl, ec, rc⟩ := r1
  obtain ⟨d, ws, rfl, ed, rd⟩ := r2
  have rf : Ext B F H F H := .refl s fun a h => (bx a h).2
  refine ⟨c, d, us, ws, rfl, rfl, ec.sq s, ed.sq s, le_line (by rw [rc.len, rd.len]; exact hl), fun z => ?_, fun _ z => ?_, fun _ _ n o hn ho => ?_⟩
  · have z2 : xs = [] := List.eq_nil_of_length_eq_zero (by rw [← rc.len, z]; rfl)
    subst z2
    exact q _ _ F H p rf r2'
  · have z2 : ys = [] := List.eq_nil_of_length_eq_zero (by rw [← rd.len, z]; rfl)
    subst z2
    rw [List.append_nil] at p
    exact q _ _ F H p rf r1'
  · have ex : Ext B F H (upd F n (.frz o (.tup (us ++ ws)))) (upd H n (.frz o (.tup (us ++ ws)))) := .laid s (fun a h => (bx a h).2) hn
    refine q _ _ _ _ p ex ?_
    rw [Rep]; exact ⟨n, _, rfl, .new ho, (Reps.app rc rd).mono ex.ff⟩
def oRepT : OW := fun v w k => ∃ xs n, v = .tup xs ∧ w = .int n ∧ xs ≠ [] ∧ 1 ≤ n ∧ n ≤ 1000 ∧ xs.length ≤ 1000 ∧ k (.tup (List.replicate n.toNat xs).flatten)
theorem opv_repT {K : PySem.W.Frag} : OpV K (rTimesS K) oRepT := by
  rintro x y v w B F H P Q s bx r1 r2 ⟨xs, n, rfl, rfl, h0, h1, h2, hl, p⟩ q
  have r1' := r1
  rw [Rep] at r1; rw [Rep] at r2
  obtain ⟨c, us, rfl, ec, rc⟩ := r1
  subst r2
  have rf : Ext B F H F H := .refl s fun a h => (bx a h).2
  refine ⟨c, n, us, rfl, rfl, ec.sq s, fun z => h0 (List.eq_nil_of_length_eq_zero (by rw [← rc.len, z]; rfl)), h1, h2, by rw [rc.len]; exact hl, fun z => ?_, fun _ d o hd ho => ?_⟩
  · subst z
    rw [show (1 : Int).toNat = 1 from rfl, List.replicate_succ, List.replicate_zero, List.flatten_cons, List.flatten_nil, List.append_nil] at p
    exact q _ _ F H p rf r1'
  · have ex : Ext B F H (upd F d (.frz o (.tup (List.replicate n.toNat us).flatten))) (upd H d (.frz o (.tup (List.replicate n.toNat us).flatten))) := .laid s (fun a h => (bx a h).2) hd
    refine q _ _ _ _ p ex ?_
    rw [Rep]; exact ⟨d, _, rfl, .new ho, (reps_rep rc _).mono ex.ff⟩
end
end KV

namespace KV
open PySem PySem.Spec PyProof.Rows L2 KGX
/-! ### places -/
def seqOf : PV → Option (List PV)
  | .lst xs => some xs
  | .tup xs => some xs
  | .cst xs => some xs
  | .scr ns => some (ns.map .int)
  | _ => none
def onB (k : Bool → Prop) : PV → Prop
  | .bl b => k b
  | _ => False
def onI (k : Int → Prop) : PV → Prop
  | .int b => k b
  | _ => False
def onS (k : List PV → Prop) (v : PV) : Prop := match seqOf v with
  | some xs => k xs
  | none => False
theorem onB_ex {k : Bool → Prop} {v : PV} (h : onB k v) : ∃ b, v = .bl b ∧ k b := by
  cases v with
  | bl b => exact ⟨b, rfl, h⟩
  | _ => exact h.elim
theorem onI_ex {k : Int → Prop} {v : PV} (h : onI k v) : ∃ b, v = .int b ∧ k b := by
  cases v with
  | int b => exact ⟨b, rfl, h⟩
  | _ => exact h.elim
theorem onS_ex {k : List PV → Prop} {v : PV} (h : onS k v) : ∃ xs, seqOf v = some xs ∧ k xs := by
  unfold onS at h
  split at h
  · rename_i xs e; exact ⟨xs, e, h⟩
  · exact h.elim
def lookD (kvs : List (PV × PV)) (k : NestedKey) : Option PV := (kvs.find? fun kv => decide (keyOf kv.1 = some k)).map (·.2)
section
variable {K : PySem.W.Frag} {F H : Hp}
theorem Rep.seq {x : V} {v : PV} {ds : List PV} (s : Same F H) (h : Rep K F x v) (e : seqOf v = some ds) : ∃ a xs, x = .ref a ∧ (SqL K H a xs ∨ SqT K H a xs) ∧ Reps K F xs ds := by
  cases v with
  | lst xs => cases e; rw [Rep] at h; obtain ⟨a, us, e, q, r⟩ := h; exact ⟨a, us, e, .inl (.inl (.inl (s _ _ q))), r⟩
  | tup xs => cases e; rw [Rep] at h; obtain ⟨a, us, e, q, r⟩ := h; exact ⟨a, us, e, .inr (q.sq s), r⟩
  | cst xs => cases e; rw [Rep] at h; obtain ⟨a, us, e, q, r⟩ := h; exact ⟨a, us, e, .inr (q.elim (fun z => .inl (Rd.mono s z)) .inr), r⟩
  | scr ns => cases e; rw [Rep] at h; obtain ⟨a, e, q⟩ := h; exact ⟨a, _, e, .inl (q.elim (fun z => .inl (Rd.mono s z)) .inr), Reps.of_ints⟩
  | _ => exact nomatch e
mutual
theorem Rep.keyV (s : Same F H) : ∀ {x : V} (v : PV) {k : NestedKey}, Rep K F x v → nk v = some k → KeyV H k x
  | x, .int i, k, h, e => by rw [Rep] at h; rw [nk] at e; cases e; subst h; exact .num i
  | x, .bl b, k, h, e => by rw [Rep] at h; rw [nk] at e; cases e; subst h; exact .bl b
  | x, .tup ds, k, h, e => by
    rw [Rep] at h; rw [nk] at e; obtain ⟨a, xs, rfl, ⟨o, q, _⟩, r⟩ := h
    obtain ⟨ks, e1, rfl⟩ := Option.map_eq_some_iff.mp e
    exact .tup (.inr ⟨o, s _ _ q⟩) (Reps.keyV s ds r e1)
  | x, .non, k, h, e => by simp [nk] at e
  | x, .str _, k, h, e => by simp [nk] at e
  | x, .cst _, k, h, e => by simp [nk] at e
  | x, .lst _, k, h, e => by simp [nk] at e
  | x, .dic _, k, h, e => by simp [nk] at e
  | x, .dks _, k, h, e => by simp [nk] at e
  | x, .dmx _, k, h, e => by simp [nk] at e
  | x, .scr _, k, h, e => by simp [nk] at e
  | x, .exc _ _, k, h, e => by simp [nk] at e
theorem Reps.keyV (s : Same F H) : ∀ {xs : List V} (vs : List PV) {ks : List NestedKey}, Reps K F xs vs → nks vs = some ks → KeyVs H ks xs
  | [], [], ks, h, e => by rw [nks] at e; cases e; exact .nil
  | x :: xs, v :: vs, ks, h, e => by
    rw [Reps] at h; rw [nks] at e
    obtain ⟨k, e1, e⟩ := Option.bind_eq_some_iff.mp e
    obtain ⟨ks, e2, rfl⟩ := Option.map_eq_some_iff.mp e
    exact .cons (Rep.keyV s v h.1 e1) (Reps.keyV s vs h.2 e2)
  | [], _ :: _, _, h, _ => by rw [Reps] at h; exact h.elim
  | _ :: _, [], _, h, _ => by rw [Reps] at h; exact h.elim
end
theorem keyOf_nk {v : PV} {k : NestedKey} (h : keyOf v = some k) : nk v = some k ∧ k.depth ≤ 8 := by
  cases v with
  | tup xs =>
    rw [keyOf] at h
    obtain ⟨ks, e1, h⟩ := Option.bind_eq_some_iff.mp h
    split at h
    · rename_i hd
      cases h
      exact ⟨by rw [nk, e1]; rfl, hd⟩
    · exact nomatch h
  | _ => exact nomatch h
mutual
theorem flat_nk : ∀ (v : PV) {k : NestedKey}, nk v = some k → flat v = true
  | .int i, k, e => by simp [flat]
  | .bl b, k, e => by simp [flat]
  | .tup ds, k, e => by
    rw [nk] at e; obtain ⟨ks, e1, _⟩ := Option.map_eq_some_iff.mp e
    rw [flat]; exact flats_nk ds e1
  | .non, k, e => by simp [flat]
  | .str _, k, e => by simp [flat]
  | .cst _, k, e => by simp [nk] at e
  | .lst _, k, e => by simp [nk] at e
  | .dic _, k, e => by simp [nk] at e
  | .dks _, k, e => by simp [nk] at e
  | .dmx _, k, e => by simp [nk] at e
  | .scr _, k, e => by simp [nk] at e
  | .exc _ _, k, e => by simp [flat]
theorem flats_nk : ∀ (vs : List PV) {ks : List NestedKey}, nks vs = some ks → flats vs = true
  | [], ks, e => by rw [flats]
  | v :: vs, ks, e => by
    rw [nks] at e
    obtain ⟨k, e1, e⟩ := Option.bind_eq_some_iff.mp e
    obtain ⟨ks, e2, _⟩ := Option.map_eq_some_iff.mp e
    rw [flats, flat_nk v e1, flats_nk vs e2]; rfl
end
theorem Rep.key (s : Same F H) {x : V} {v : PV} {k : NestedKey} (h : Rep K F x v) (e : keyOf v = some k) : ∃ b, x = .ref b ∧ KeyAt H k b := by
  obtain ⟨e1, hd⟩ := keyOf_nk e
  have h2 := h.keyV s v e1
  cases v with
  | tup ds => rw [Rep] at h; obtain ⟨a, us, rfl, _⟩ := h; exact ⟨a, rfl, h2, hd⟩
  | _ => exact nomatch e
theorem RepX.look : ∀ {xs : List Ent} {ds : List (PV × PV)} {k : NestedKey}, RepX K F xs ds → (∀ d, lookD ds k = some d → ∃ p x, atKey xs k = some p ∧ RelV x p.2 ∧ Rep K F x d) ∧ (lookD ds k = none → atKey xs k = none)
  | [], [], k, _ => ⟨fun d e => (nomatch e), fun _ => rfl⟩
  | e :: xs, (kp, d) :: ds, k, h => by
    rw [RepX] at h
    obtain ⟨⟨h1, h2, y, h3, h4⟩, t⟩ := h
    have ih := RepX.look (k := k) t
    by_cases z : e.1 = k
    · have e1 : lookD ((kp, d) :: ds) k = some d := by simp [lookD, List.find?_cons, h1, z]
      have e2 : atKey (e :: xs) k = some e.2 := by simp [atKey, List.find?_cons, z]
      rw [e1, e2]
      exact ⟨fun d' e => by cases e; exact ⟨_, y, rfl, h3, h4⟩, fun e => nomatch e⟩
    · have e1 : lookD ((kp, d) :: ds) k = lookD ds k := by simp [lookD, List.find?_cons, h1, z]
      have e2 : atKey (e :: xs) k = atKey xs k := by simp [atKey, List.find?_cons, z]
      rw [e1, e2]; exact ih
  | [], _ :: _, _, h => by rw [RepX] at h; exact h.elim
  | _ :: _, [], _, h => by rw [RepX] at h; exact h.elim
theorem RepX.len : ∀ {xs : List Ent} {ds : List (PV × PV)}, RepX K F xs ds → xs.length = ds.length
  | [], [], _ => rfl
  | e :: xs, (k2, d) :: ds, h => by rw [RepX] at h; rw [List.length_cons, List.length_cons, RepX.len h.2]
  | [], _ :: _, h => by rw [RepX] at h; exact h.elim
  | _ :: _, [], h => by rw [RepX] at h; exact h.elim
theorem RepX.keys : ∀ {xs : List Ent} {ds : List (PV × PV)}, RepX K F xs ds → ds.map (fun kv => keyOf kv.1) = xs.map fun x => some x.1
  | [], [], _ => rfl
  | e :: xs, (k2, d) :: ds, h => by rw [RepX] at h; rw [List.map_cons, List.map_cons, RepX.keys h.2, h.1.1]
  | [], _ :: _, h => by rw [RepX] at h; exact h.elim
  | _ :: _, [], h => by rw [RepX] at h; exact h.elim
theorem RepX.mem : ∀ {xs : List Ent} {ds : List (PV × PV)}, RepX K F xs ds → ∀ e ∈ xs, ∃ kp, keyOf kp = some e.1 ∧ Rep K F (.ref e.2.1) kp
  | [], [], _, e, he => nomatch he
  | x :: xs, (k2, d) :: ds, h, e, he => by
    rw [RepX] at h
    rcases List.mem_cons.mp he with rfl | he
    · exact ⟨k2, h.1.1, h.1.2.1⟩
    · exact RepX.mem h.2 e he
  | [], _ :: _, h, _, _ => by rw [RepX] at h; exact h.elim
  | _ :: _, [], h, _, _ => by rw [RepX] at h; exact h.elim
theorem nodup_some {α : Type} : ∀ {l : List α}, (l.map some).Nodup → l.Nodup
  | [], _ => List.nodup_nil
  | a :: l, h => by
    rw [List.map_cons, List.nodup_cons] at h
    exact List.nodup_cons.mpr ⟨fun z => h.1 (List.mem_map.mpr ⟨a, z, rfl⟩), nodup_some h.2⟩
theorem RepX.md (s : Same F H) {a : Addr} {xs : List Ent} {ep : Nat} {ds : List (PV × PV)} (r : RepX K F xs ds) (dk : DOk a ds) (e : H a = some (.ext (RawD a xs ep))) : MD H a xs := by
  refine ⟨⟨ep, e⟩, dk.1, by rw [r.len]; exact dk.2.1, ?_, fun x hx => ?_⟩
  · have := dk.2.2
    rw [r.keys, show (xs.map fun x => some x.1) = (xs.map (·.1)).map some by rw [List.map_map]; rfl] at this
    exact nodup_some this
  · obtain ⟨kp, h1, h2⟩ := r.mem x hx
    obtain ⟨b, eb, ka⟩ := h2.key s h1
    cases eb; exact ka
theorem Rep.dic {x : V} {ds : List (PV × PV)} (s : Same F H) (h : Rep K F x (.dic ds)) : ∃ a xs ep, x = .ref a ∧ F a = some (.ext (RawD a xs ep)) ∧ MD H a xs ∧ DOk a ds ∧ RepX K F xs ds := by
  rw [Rep] at h
  obtain ⟨a, xs, ep, rfl, e, dk, r⟩ := h
  exact ⟨a, xs, ep, rfl, e, r.md s dk (s _ _ e), dk, r⟩
theorem Reps.atI {xs : List V} {ds : List PV} {i : Int} {d : PV} (h : Reps K F xs ds) (e : atI ds i = some d) : ∃ x, L2.atI xs i = some x ∧ Rep K F x d := by
  unfold L2.atI at e ⊢
  rw [h.len]
  obtain ⟨j, e1, e2⟩ := Option.bind_eq_some_iff.mp e
  obtain ⟨x, e3, r⟩ := h.at e2
  exact ⟨x, by rw [e1]; exact e3, r⟩
end
section
variable {X : Cx} {e a b c : Expr} {es : List Expr} {pos : Pos} {f g h : EW} {fa : AW}
def oIx : OW := fun v w k => ∃ xs i d, seqOf v = some xs ∧ w = .int i ∧ atI xs i = some d ∧ k d
def rIxS (K : PySem.W.Frag) : R2 := rOr (rIxL K) (rIxT K)
theorem ix_seq : IxR X (rIxS X.K) := IxR.or ix_list ix_tup
theorem opv_ix {K : PySem.W.Frag} : OpV K (rIxS K) oIx := by
  rintro x y v w B F H P Q s bx r1 r2 ⟨xs, i, d, e, rfl, hd, p⟩ q
  rw [Rep] at r2
  obtain ⟨a, us, rfl, sq, r⟩ := r1.seq s e
  obtain ⟨z, hz, rz⟩ := r.atI hd
  have fin := q d z F H p (.refl s fun a h => (bx a h).2) rz
  rcases sq with sq | sq
  · exact .inl ⟨a, us, i, z, rfl, r2, sq, hz, fin⟩
  · exact .inr ⟨a, us, i, z, rfl, r2, sq, hz, fin⟩
def oIxD : OW := fun v w k => ∃ kvs ks d, v = .dic kvs ∧ keyOf w = some ks ∧ lookD kvs ks = some d ∧ k d
theorem opv_ixD {K : PySem.W.Frag} : OpV K rIxM oIxD := by
  rintro x y v w B F H P Q s bx r1 r2 ⟨kvs, ks, d, rfl, hk, hd, p⟩ q
  obtain ⟨a, xs, ep, rfl, _, md, _, rx⟩ := r1.dic s
  obtain ⟨c, rfl, ka⟩ := r2.key s hk
  obtain ⟨e, z, he, hz, rz⟩ := (rx.look (k := ks)).1 d hd
  exact ⟨a, c, xs, ks, e, z, rfl, rfl, md, ka, he, hz, q d z F H p (.refl s fun a h => (bx a h).2) rz⟩
/-- k in d -/
def oInD (neg : Bool) : OW := fun w v k => ∃ kvs ks, v = .dic kvs ∧ keyOf w = some ks ∧ k (.bl (if neg = true then !(lookD kvs ks).isSome else (lookD kvs ks).isSome))
theorem opv_inD {K : PySem.W.Frag} {neg : Bool} : OpV K (rInM neg) (oInD neg) := by
  rintro y x w v B F H P Q s bx r2 r1 ⟨kvs, ks, rfl, hk, p⟩ q
  obtain ⟨a, xs, ep, rfl, _, md, _, rx⟩ := r1.dic s
  obtain ⟨c, rfl, ka⟩ := r2.key s hk
  have e : (atKey xs ks).isSome = (lookD kvs ks).isSome := by
    cases hd : lookD kvs ks with
    | none => rw [(rx.look (k := ks)).2 hd]; rfl
    | some d =>
      obtain ⟨e, z, he, _⟩ := (rx.look (k := ks)).1 d hd
      rw [he]; rfl
  refine ⟨a, c, xs, ks, rfl, rfl, md, ka, ?_⟩
  rw [e]
  exact q _ _ F H p (.refl s fun a h => (bx a h).2) (by rw [Rep])
end
end KV

namespace KV
open PySem PySem.Spec PyProof.Rows L2 KGX
/-! ### as data -/
mutual
def dat : PV → Option PyData
  | .non => some .none
  | .bl b => some (.bool b)
  | .int i => some (.int i)
  | .str x => some (.str x)
  | .tup xs => (dats xs).map .tuple
  | .cst xs => (dats xs).map .tuple
  | .lst xs => (dats xs).map .list
  | .dic _ => none
  | .dks _ => none
  | .dmx _ => none
  | .scr _ => none
  | .exc _ _ => none
def dats : List PV → Option (List PyData)
  | [] => some []
  | d :: ds => (dat d).bind fun x => (dats ds).map fun xs => x :: xs
end
section
variable {K : PySem.W.Frag} {F H : Hp}
mutual
theorem Rep.dp (s : Same F H) : ∀ {x : V} (v : PV) {d : PyData}, Rep K F x v → dat v = some d → Dp K H x d
  | x, .non, d, h, e => by rw [Rep] at h; rw [dat] at e; cases e; subst h; exact .non
  | x, .bl b, d, h, e => by rw [Rep] at h; rw [dat] at e; cases e; subst h; exact .bl b
  | x, .int b, d, h, e => by rw [Rep] at h; rw [dat] at e; cases e; subst h; exact .int b
  | x, .str b, d, h, e => by rw [Rep] at h; rw [dat] at e; cases e; subst h; exact .str b
  | x, .tup ds, d, h, e => by
    rw [Rep] at h; rw [dat] at e; obtain ⟨a, xs, rfl, q, r⟩ := h
    obtain ⟨es, e1, rfl⟩ := Option.map_eq_some_iff.mp e
    exact .tup (q.sq s) (Reps.dp s ds r e1)
  | x, .cst ds, d, h, e => by
    rw [Rep] at h; rw [dat] at e; obtain ⟨a, xs, rfl, q, r⟩ := h
    obtain ⟨es, e1, rfl⟩ := Option.map_eq_some_iff.mp e
    exact .tup (q.elim (fun z => .inl (Rd.mono s z)) .inr) (Reps.dp s ds r e1)
  | x, .lst ds, d, h, e => by
    rw [Rep] at h; rw [dat] at e; obtain ⟨a, xs, rfl, q, r⟩ := h
    obtain ⟨es, e1, rfl⟩ := Option.map_eq_some_iff.mp e
    exact .lst (.inl (.inl (s _ _ q))) (Reps.dp s ds r e1)
  | x, .dic ds, d, h, e => by rw [dat] at e; exact nomatch e
  | x, .dks ds, d, h, e => by rw [dat] at e; exact nomatch e
  | x, .dmx ds, d, h, e => by rw [dat] at e; exact nomatch e
  | x, .exc _ _, d, h, e => by rw [dat] at e; exact nomatch e
  | x, .scr ds, d, h, e => by rw [dat] at e; exact nomatch e
theorem Reps.dp (s : Same F H) : ∀ {xs : List V} (vs : List PV) {ds : List PyData}, Reps K F xs vs → dats vs = some ds → DpAll K H xs ds
  | [], [], ds, h, e => by rw [dats] at e; cases e; exact .nil
  | x :: xs, v :: vs, ds, h, e => by
    rw [Reps] at h; rw [dats] at e
    obtain ⟨d, e1, e⟩ := Option.bind_eq_some_iff.mp e
    obtain ⟨es, e2, rfl⟩ := Option.map_eq_some_iff.mp e
    exact .cons (Rep.dp s v h.1 e1) (Reps.dp s vs h.2 e2)
  | [], _ :: _, _, h, _ => by rw [Reps] at h; exact h.elim
  | _ :: _, [], _, h, _ => by rw [Reps] at h; exact h.elim
end
end
section
variable {X : Cx} {e a b c : Expr} {es : List Expr} {pos : Pos} {f g h : EW} {fa : AW}
/-- == and != of data without dicts -/
def oEqD (neg : Bool) : OW := fun v w k => ∃ d d', dat v = some d ∧ dat w = some d' ∧ SeqAt.shaped d = true ∧ SeqAt.shaped d' = true ∧ k (.bl (if neg then !PyData.eqv d d' else PyData.eqv d d'))
theorem opv_eqD {K : PySem.W.Frag} : OpV K (rEqD K) (oEqD false) := by
  rintro x y v w B F H P Q s bx r1 r2 ⟨d, d', e1, e2, s1, s2, p⟩ q
  exact ⟨d, d', r1.dp s v e1, r2.dp s w e2, s1, s2, q _ _ F H p (.refl s fun a h => (bx a h).2) (by rw [Rep]; rfl)⟩
theorem opv_neD {K : PySem.W.Frag} : OpV K (rNeD K) (oEqD true) := by
  rintro x y v w B F H P Q s bx r1 r2 ⟨d, d', e1, e2, s1, s2, p⟩ q
  exact ⟨d, d', r1.dp s v e1, r2.dp s w e2, s1, s2, q _ _ F H p (.refl s fun a h => (bx a h).2) (by rw [Rep]; rfl)⟩
/-- == and != of numbers, truths, texts -/
def scalP : PV → Option V
  | .non => some .non
  | .bl b => some (.bl b)
  | .int i => some (.int i)
  | .str x => some (.str x)
  | _ => none
theorem Rep.scal {K : PySem.W.Frag} {F : Hp} {x y : V} {v : PV} (h : Rep K F x v) (e : scalP v = some y) : x = y := by
  cases v <;> first
    | (cases e; rw [Rep] at h; exact h)
    | exact nomatch e
def oEqS (neg : Bool) : OW := fun v w k => ∃ x y, scalP v = some x ∧ scalP w = some y ∧ L2.scal x y = true ∧ k (.bl (if neg then !decide (x = y) else decide (x = y)))
theorem opv_eqS {K : PySem.W.Frag} : OpV K rEq (oEqS false) := by
  rintro x y v w B F H P Q s bx r1 r2 ⟨d, d', e1, e2, s1, p⟩ q
  rw [r1.scal e1, r2.scal e2]
  exact ⟨s1, q _ _ F H p (.refl s fun a h => (bx a h).2) (by rw [Rep]; rfl)⟩
theorem opv_neS {K : PySem.W.Frag} : OpV K rNe (oEqS true) := by
  rintro x y v w B F H P Q s bx r1 r2 ⟨d, d', e1, e2, s1, p⟩ q
  rw [r1.scal e1, r2.scal e2]
  exact ⟨s1, q _ _ F H p (.refl s fun a h => (bx a h).2) (by rw [Rep]; rfl)⟩
/-- in, not in: flat things in a row of flat things -/
def oIn (neg : Bool) : OW := fun v w k => ∃ x xs ys, scalP v = some x ∧ seqOf w = some xs ∧ xs.mapM scalP = some ys ∧ flatV x = true ∧ ys.all flatV = true ∧ k (.bl (if neg then !inV x ys else inV x ys))
theorem Reps.scals {K : PySem.W.Frag} {F : Hp} : ∀ {us : List V} {xs : List PV} {ys : List V}, Reps K F us xs → xs.mapM scalP = some ys → us = ys
  | [], [], ks, _, e => by simp at e; subst e; rfl
  | x :: xs, d :: ds, ks, h, e => by
    rw [Reps] at h
    rw [List.mapM_cons] at e
    obtain ⟨k, e1, e⟩ := Option.bind_eq_some_iff.mp e
    obtain ⟨ks', e2, e3⟩ := Option.bind_eq_some_iff.mp e
    cases e3
    rw [Reps.scals h.2 e2, h.1.scal e1]
  | [], _ :: _, _, h, _ => by rw [Reps] at h; exact h.elim
  | _ :: _, [], _, h, _ => by rw [Reps] at h; exact h.elim
theorem opv_in {K : PySem.W.Frag} {neg : Bool} : OpV K (rIn K neg) (oIn neg) := by
  rintro x y v w B F H P Q s bx r1 r2 ⟨d, xs, ys, e1, e2, e3, f1, f2, p⟩ q
  obtain ⟨a, us, rfl, sq, r⟩ := r2.seq s e2
  rw [r1.scal e1]
  have eu := r.scals e3
  subst eu
  exact ⟨a, us, rfl, sq, f1, f2, q _ _ F H p (.refl s fun a h => (bx a h).2) (by rw [Rep])⟩
/-! ### truths -/
def TW := Rho → (Bool → Prop) → Prop
def tT (K : PySem.W.Frag) (f : TW) : TT := fun σ H Q => ∃ B F ρ P, Wx K B F H σ ρ ∧ f ρ P ∧ ∀ b F' H', P b → Ext B F H F' H' → Q b H'
def PB (X : Cx) (e : Expr) (f : TW) : Prop := PT X e (tT X.K f)
theorem PT.weak {t t' : TT} (h : PT X e t) (w : ∀ σ H Q, t' σ H Q → t σ H Q) : PT X e t' := ⟨fun pins s σ H Q I q => h.run pins s σ H Q I (w σ H Q q)⟩
def bV (f : EW) : TW := fun ρ k => f ρ (onB k)
theorem pb_of {t : TE → TT} (ht : ∀ u σ H Q, (u σ H fun x H1 => ∃ c, x = .bl c ∧ Q c H1) → t u σ H Q) (h : PT X e (t (tE X.K f))) : PB X e (bV f) := PT.weak h fun σ H Q ⟨B, F, ρ, P, w, p, q⟩ =>
  ht _ σ H Q ⟨B, F, ρ, _, w, p, fun v x F1 H1 hb e1 r1 => by
    obtain ⟨b, ev, pb⟩ := onB_ex hb
    subst ev
    rw [Rep] at r1
    exact ⟨b, r1, q b F1 H1 pb e1⟩⟩
theorem pb_val (h : PP X e f) (he : ∀ whole, isTrue e X.env whole = (do let v ← whole; standAt e.pos; holding [v] (truthy v)) := by intro _; rfl) : PB X e (bV f) := pb_of (t := tB) (fun _ _ _ _ q => q) (pt_val h he)
theorem pb_cmp {op : CmpOp} {r : R2} {o : OW} (ho : OpR X (compareOp op) r) (h : OpV X.K r o) (ha : PP X a f) (hb : PP X b g) (hm : behindInMarks op b = false) : PB X (.Compare a [op] [b] pos) (bV (eBin o f g)) := PT.weak (pt_cmpR ho ha hb hm) fun σ H Q ⟨B, F, ρ, P, w, p, q⟩ =>
  bin_le h σ H _ ⟨B, F, ρ, _, w, p, fun v x F1 H1 hb e1 r1 => by
    obtain ⟨b, ev, pb⟩ := onB_ex hb
    subst ev
    rw [Rep] at r1
    exact ⟨b, r1, q b F1 H1 pb e1⟩⟩
end
end KV

namespace KV
open PySem PySem.Spec PyProof.Rows L2 KGX
section
variable {X : Cx} {e a b c : Expr} {es rest : List Expr} {pos : Pos} {f g h : EW} {fa : AW} {t u : TW}
/-! ### tests -/
def bNot (t : TW) : TW := fun ρ k => t ρ fun b => k (!b)
theorem pb_not (h : PB X a t) : PB X (.UnaryOp .Not a pos) (bNot t) := PT.weak (pt_not h) fun σ H Q ⟨B, F, ρ, P, w, p, q⟩ => ⟨B, F, ρ, _, w, p, fun b F1 H1 p1 e1 => q _ F1 H1 p1 e1⟩
def PBw (X : Cx) (e : Expr) (f : TW) : Prop := PW X e (tT X.K f)
theorem PW.weak {t t' : TT} (h : PW X e t) (w : ∀ σ H Q, t' σ H Q → t σ H Q) : PW X e t' := ⟨fun wh pins s σ H Q I q => h.run wh pins s σ H Q I (w σ H Q q)⟩
def bAnd (t u : TW) : TW := fun ρ k => t ρ fun b => if b = true then u ρ k else k false
def bOr (t u : TW) : TW := fun ρ k => t ρ fun b => if b = true then k true else u ρ k
theorem pbw_and1 (h : PB X a t) : PBw X (.BoolOp .And [a] pos) t := pw_and1 h
theorem pbw_or1 (h : PB X a t) : PBw X (.BoolOp .Or [a] pos) t := pw_or1 h
theorem pbw_and (h1 : PB X a t) (h2 : PBw X (.BoolOp .And (b :: rest) pos) u) : PBw X (.BoolOp .And (a :: b :: rest) pos) (bAnd t u) := PW.weak (pw_and h1 h2) fun σ H Q ⟨B, F, ρ, P, w, p, q⟩ =>
  ⟨B, F, ρ, _, w, p, fun b F1 H1 p1 e1 => by
    cases b with
    | true => exact ⟨B, F1, ρ, _, w.ext e1, p1, fun b F2 H2 p2 e2 => q b F2 H2 p2 (e1.trans e2)⟩
    | false => exact q false F1 H1 p1 e1⟩
theorem pbw_or (h1 : PB X a t) (h2 : PBw X (.BoolOp .Or (b :: rest) pos) u) : PBw X (.BoolOp .Or (a :: b :: rest) pos) (bOr t u) := PW.weak (pw_or h1 h2) fun σ H Q ⟨B, F, ρ, P, w, p, q⟩ =>
  ⟨B, F, ρ, _, w, p, fun b F1 H1 p1 e1 => by
    cases b with
    | false => exact ⟨B, F1, ρ, _, w.ext e1, p1, fun b F2 H2 p2 e2 => q b F2 H2 p2 (e1.trans e2)⟩
    | true => exact q true F1 H1 p1 e1⟩
theorem PBw.pb (h : PBw X e t) : PB X e t := PW.pt h
/-! ### truths as values -/
def eAnd (f g : EW) : EW := fun ρ k => f ρ (onB fun b => if b = true then g ρ k else k (.bl false))
def eOr (f g : EW) : EW := fun ρ k => f ρ (onB fun b => if b = true then k (.bl true) else g ρ k)
def eNot (f : EW) : EW := fun ρ k => f ρ (onB fun b => k (.bl (!b)))
theorem pp_one {op : BoolOp} (h : PP X a f) : PP X (.BoolOp op [a] pos) f := pe_one h
theorem pp_and (h1 : PP X a f) (h2 : PP X (.BoolOp .And (b :: rest) pos) g) : PP X (.BoolOp .And (a :: b :: rest) pos) (eAnd f g) := PE.weak (pe_and h1 h2) fun σ H Q ⟨B, F, ρ, P, w, p, q⟩ =>
  ⟨B, F, ρ, _, w, p, fun v x F1 H1 hb e1 r1 => by
    obtain ⟨b, ev, p1⟩ := onB_ex hb
    subst ev; rw [Rep] at r1
    refine ⟨b, r1, ?_⟩
    cases b with
    | true => exact ⟨B, F1, ρ, _, w.ext e1, p1, fun v x F2 H2 p2 e2 r2 => q v x F2 H2 p2 (e1.trans e2) r2⟩
    | false => exact q _ _ F1 H1 p1 e1 (by rw [Rep])⟩
theorem pp_or (h1 : PP X a f) (h2 : PP X (.BoolOp .Or (b :: rest) pos) g) : PP X (.BoolOp .Or (a :: b :: rest) pos) (eOr f g) := PE.weak (pe_or h1 h2) fun σ H Q ⟨B, F, ρ, P, w, p, q⟩ =>
  ⟨B, F, ρ, _, w, p, fun v x F1 H1 hb e1 r1 => by
    obtain ⟨b, ev, p1⟩ := onB_ex hb
    subst ev; rw [Rep] at r1
    refine ⟨b, r1, ?_⟩
    cases b with
    | false => exact ⟨B, F1, ρ, _, w.ext e1, p1, fun v x F2 H2 p2 e2 r2 => q v x F2 H2 p2 (e1.trans e2) r2⟩
    | true => exact q _ _ F1 H1 p1 e1 (by rw [Rep])⟩
theorem pp_not (h1 : PP X a f) : PP X (.UnaryOp .Not a pos) (eNot f) := PE.weak (pe_not h1) fun σ H Q ⟨B, F, ρ, P, w, p, q⟩ =>
  ⟨B, F, ρ, _, w, p, fun v x F1 H1 hb e1 r1 => by
    obtain ⟨b, ev, p1⟩ := onB_ex hb
    subst ev; rw [Rep] at r1
    exact ⟨b, r1, q _ _ F1 H1 p1 e1 (by rw [Rep])⟩⟩
def eChain (o o' : OW) (f g h : EW) : EW := fun ρ k => f ρ fun v => g ρ fun w => o v w (onB fun b => if b = true then h ρ fun u => o' w u k else k (.bl false))
theorem chain_le {r r' : R2} {o o' : OW} {K : PySem.W.Frag} (h1 : OpV K r o) (h2 : OpV K r' o') (σ : L2.St) (H : Hp) (Q : VK) (t : tE K (eChain o o' f g h) σ H Q) : tChain r r' (tE K f) (tE K g) (tE K h) σ H Q := by
  obtain ⟨B, F, ρ, P, w, p, q⟩ := t
  refine ⟨B, F, ρ, _, w, p, fun v x F1 H1 p1 e1 r1 => ?_⟩
  have w1 := w.ext e1
  refine ⟨B, F1, ρ, _, w1, p1, fun u y F2 H2 p2 e2 r2 => ?_⟩
  have w2 := w1.ext e2
  refine h1 x y v u B F2 H2 _ _ w2.fh w2.bx (Rep.mono e2.ff v r1) r2 p2 fun z c F3 H3 hb e3 r3 => ?_
  obtain ⟨b, ez, p3⟩ := onB_ex hb
  subst ez; rw [Rep] at r3
  refine ⟨b, r3, ?_⟩
  have e13 := e1.trans (e2.trans e3)
  cases b with
  | false => exact q _ _ F3 H3 p3 e13 (by rw [Rep])
  | true =>
    have w3 := w2.ext e3
    refine ⟨B, F3, ρ, _, w3, p3, fun m y' F4 H4 p4 e4 r4 => ?_⟩
    have w4 := w3.ext e4
    exact h2 y y' u m B F4 H4 P Q w4.fh w4.bx (Rep.mono (e3.ff.trans e4.ff) u r2) r4 p4 fun z p F' H' pz e5 r5 => q z p F' H' pz (e13.trans (e4.trans e5)) r5
theorem pp_chain {op op' : CmpOp} {r r' : R2} {o o' : OW} (ho : OpR X (compareOp op) r) (h1 : OpV X.K r o) (ho' : OpR X (compareOp op') r') (h2 : OpV X.K r' o') (ha : PP X a f) (hb : PP X b g) (hc : PP X c h)
    (hm : lastMarks [op, op'] [b, c] = false := by with_unfolding_all rfl) : PP X (.Compare a [op, op'] [b, c] pos) (eChain o o' f g h) := PE.weak (pe_chain ho ho' ha hb hc hm) (chain_le h1 h2)
theorem pb_chain {op op' : CmpOp} {r r' : R2} {o o' : OW} (ho : OpR X (compareOp op) r) (h1 : OpV X.K r o) (ho' : OpR X (compareOp op') r') (h2 : OpV X.K r' o') (ha : PP X a f) (hb : PP X b g) (hc : PP X c h)
    (hm : lastMarks [op, op'] [b, c] = false := by with_unfolding_all rfl) : PB X (.Compare a [op, op'] [b, c] pos) (bV (eChain o o' f g h)) := PT.weak (pt_chain ho ho' ha hb hc hm) fun σ H Q ⟨B, F, ρ, P, w, p, q⟩ =>
  chain_le h1 h2 σ H _ ⟨B, F, ρ, _, w, p, fun v x F1 H1 hb e1 r1 => by
    obtain ⟨b, ev, pb⟩ := onB_ex hb
    subst ev; rw [Rep] at r1
    exact ⟨b, r1, q b F1 H1 pb e1⟩⟩
def eIf (t : TW) (f g : EW) : EW := fun ρ k => t ρ fun b => if b = true then f ρ k else g ρ k
theorem pp_if (hc : PB X c t) (ha : PP X a f) (hb : PP X b g) : PP X (.IfExp c a b pos) (eIf t f g) := PE.weak (pe_ifExp hc ha hb) fun σ H Q ⟨B, F, ρ, P, w, p, q⟩ =>
  ⟨B, F, ρ, _, w, p, fun b F1 H1 p1 e1 => by
    cases b with
    | true => exact ⟨B, F1, ρ, _, w.ext e1, p1, fun v x F2 H2 p2 e2 r2 => q v x F2 H2 p2 (e1.trans e2) r2⟩
    | false => exact ⟨B, F1, ρ, _, w.ext e1, p1, fun v x F2 H2 p2 e2 r2 => q v x F2 H2 p2 (e1.trans e2) r2⟩⟩
def eNeg (f : EW) : EW := fun ρ k => f ρ (onI fun i => k (.int (-i)))
theorem pp_neg (ha : PP X a f) : PP X (.UnaryOp .USub a pos) (eNeg f) := PE.weak (pe_un un_neg ha) fun σ H Q ⟨B, F, ρ, P, w, p, q⟩ =>
  ⟨B, F, ρ, _, w, p, fun v x F1 H1 hi e1 r1 => by
    obtain ⟨i, ev, p1⟩ := onI_ex hi
    subst ev; rw [Rep] at r1
    exact ⟨i, r1, q _ _ F1 H1 p1 e1 (by rw [Rep])⟩⟩
/-! ### calls of what is built in -/
abbrev CW := List PV → (PV → Prop) → Prop
def CallV (K : PySem.W.Frag) (r : List V → Hp → VK → Prop) (o : CW) : Prop := ∀ (xs : List V) (vs : List PV) (B : Addr → Prop) (F H : Hp) (P : PV → Prop) (Q : VK), Same F H → (∀ a, B a → F a = none ∧ ∃ n, H a = some (.lst [.int n])) → Reps K F xs vs → o vs P →
  (∀ z p F' H', P z → Ext B F H F' H' → Rep K F' p z → Q p H') → r xs H Q
def eCall (o : CW) (fa : AW) : EW := fun ρ k => fa ρ fun vs => o vs k
theorem call_le {K : PySem.W.Frag} {r : List V → Hp → VK → Prop} {o : CW} (h : CallV K r o) (σ : L2.St) (H : Hp) (Q : VK) (t : tE K (eCall o fa) σ H Q) : tCB r (tAs K fa) σ H Q := by
  obtain ⟨B, F, ρ, P, w, p, q⟩ := t
  refine ⟨B, F, ρ, _, w, p, fun vs xs F1 H1 p1 e1 r1 => ?_⟩
  have w1 := w.ext e1
  exact h xs vs B F1 H1 P Q w1.fh w1.bx r1 p1 fun z p F' H' pz e2 r2 => q z p F' H' pz (e1.trans e2) r2
theorem pp_callB {id : String} {x : Str} {p : Pos} {r : List V → Hp → VK → Prop} {o : CW} (hc : CallR X (.builtin id) r) (h : CallV X.K r o) (hg : Gl X x) (hm : X.mg x = none) (hv : bootBuiltins x = some (.builtin id)) (ha : PPs X (e :: es) fa) (hn : x ≠ "__name__" := by decide) (hdb : (x == ("__debug__" : Str)) = false := by decide)
    (he : starEach (e :: es) X.env = (false, eval e X.env) :: starEach es X.env := by rfl) (hpl : (backTo pos (starEach es X.env)).any (·.1) = false := by rfl) : PP X (.Call (.Name x p) (e :: es) [] pos) (eCall o fa) := PE.weak (pe_callB hc hg hm hv ha hn hdb he hpl) (call_le h)
theorem pp_callTy {T : String} {x : Str} {p : Pos} {r : List V → Hp → VK → Prop} {o : CW} (hc : CallR X (.type T) r) (h : CallV X.K r o) (hg : Gl X x) (hm : X.mg x = none) (hv : bootBuiltins x = some (.type T)) (ha : PPs X (e :: es) fa) (hn : x ≠ "__name__" := by decide) (hdb : (x == ("__debug__" : Str)) = false := by decide)
    (he : starEach (e :: es) X.env = (false, eval e X.env) :: starEach es X.env := by rfl) (hpl : (backTo pos (starEach es X.env)).any (·.1) = false := by rfl) : PP X (.Call (.Name x p) (e :: es) [] pos) (eCall o fa) := PE.weak (pe_callTy hc hg hm hv ha hn hdb he hpl) (call_le h)
end
end KV

namespace KV
open PySem PySem.Spec PyProof.Rows L2 KGX
section
variable {X : Cx} {e a b c : Expr} {es rest : List Expr} {pos : Pos} {f g h : EW} {fa : AW} {K : PySem.W.Frag}
theorem Reps.one {K : PySem.W.Frag} {F : Hp} {xs : List V} {v : PV} (h : Reps K F xs [v]) : ∃ x, xs = [x] ∧ Rep K F x v := by
  match xs, h with
  | [x], h => rw [Reps] at h; exact ⟨x, rfl, h.1⟩
  | [], h => rw [Reps] at h; exact h.elim
  | _ :: _ :: _, h => rw [Reps, Reps] at h; exact h.2.elim
theorem Reps.two {K : PySem.W.Frag} {F : Hp} {xs : List V} {v w : PV} (h : Reps K F xs [v, w]) : ∃ x y, xs = [x, y] ∧ Rep K F x v ∧ Rep K F y w := by
  match xs, h with
  | x :: xs, h =>
    rw [Reps] at h
    obtain ⟨y, rfl, r⟩ := h.2.one
    exact ⟨x, y, rfl, h.1, r⟩
  | [], h => rw [Reps] at h; exact h.elim
def cLen : CW := fun vs k => match vs with
  | [.dic kvs] => k (.int kvs.length)
  | [v] => onS (fun xs => k (.int xs.length)) v
  | _ => False
def rLenZ (K : PySem.W.Frag) : List V → Hp → VK → Prop := fun xs H Q => Evl.rLenS K xs H Q ∨ rLenM xs H Q
theorem call_lenZ : CallR X (.builtin "len") (rLenZ X.K) := by
  intro pins s σ H xs us Q I r h
  rcases h with h | h
  · exact call_len_seq pins s σ H xs us Q I r h
  · exact call_lenM pins s σ H xs us Q I r h
theorem cv_len : CallV K (rLenZ K) cLen := by
  intro xs vs B F H P Q s bx r hp q
  unfold cLen at hp
  split at hp
  case h_3 => exact hp.elim
  · obtain ⟨x, rfl, rx⟩ := r.one
    obtain ⟨a, ys, ep, rfl, _, md, _, rx⟩ := rx.dic s
    refine .inr ⟨a, ys, rfl, md, ?_⟩
    rw [rx.len]
    exact q _ _ F H hp (.refl s fun a h => (bx a h).2) (by rw [Rep])
  · obtain ⟨ds, e, p⟩ := onS_ex hp
    obtain ⟨x, rfl, rx⟩ := r.one
    obtain ⟨a, us, rfl, sq, ru⟩ := rx.seq s e
    refine .inl ⟨a, us, rfl, sq, ?_⟩
    rw [ru.len]
    exact q _ _ F H p (.refl s fun a h => (bx a h).2) (by rw [Rep])
def intsOf : List PV → Option (List Int) := fun xs => xs.mapM fun v => match v with | .int i => some i | _ => none
theorem intsOf_map : ∀ ns : List Int, intsOf (ns.map .int) = some ns
  | [] => rfl
  | n :: ns => by
    have ih := intsOf_map ns
    unfold intsOf at ih ⊢
    rw [List.map_cons, List.mapM_cons, ih]; rfl
theorem intsOf_eq : ∀ {xs : List PV} {ns : List Int}, intsOf xs = some ns → xs = ns.map .int
  | [], ns, h => by cases h; rfl
  | x :: xs, ns, h => by
    unfold intsOf at h
    rw [List.mapM_cons] at h
    obtain ⟨i, e1, h⟩ := Option.bind_eq_some_iff.mp h
    obtain ⟨is, e2, h⟩ := Option.bind_eq_some_iff.mp h
    cases h
    rw [List.map_cons, intsOf_eq (xs := xs) e2]
    cases x <;> first
      | (cases e1; rfl)
      | exact nomatch e1
def cSum : CW := fun vs k => ∃ v xs ns, vs = [v] ∧ seqOf v = some xs ∧ intsOf xs = some ns ∧ k (.int ns.sum)
theorem cv_sum : CallV K (KG.rSum2 K) cSum := by
  rintro xs vs B F H P Q s bx r ⟨v, ds, ns, rfl, e, e2, p⟩ q
  obtain ⟨x, rfl, rx⟩ := r.one
  obtain ⟨a, us, rfl, sq, ru⟩ := rx.seq s e
  rw [intsOf_eq e2] at ru
  rw [ru.ints] at sq
  exact ⟨a, ns, rfl, sq, q _ _ F H p (.refl s fun a h => (bx a h).2) (by rw [Rep])⟩
def cMax : CW := fun vs k => ∃ i j, vs = [.int i, .int j] ∧ k (.int (if j > i then j else i))
def cMin : CW := fun vs k => ∃ i j, vs = [.int i, .int j] ∧ k (.int (if j < i then j else i))
def cAbs : CW := fun vs k => ∃ i, vs = [.int i] ∧ k (.int (if i < 0 then -i else i))
theorem cv_ii {g : Int → Int → Int} : CallV K (fun xs H Q => ∃ i j, xs = [.int i, .int j] ∧ Q (.int (g i j)) H) (fun vs k => ∃ i j, vs = [.int i, .int j] ∧ k (.int (g i j))) := by
  rintro xs vs B F H P Q s bx r ⟨i, j, rfl, p⟩ q
  obtain ⟨x, y, rfl, rx, ry⟩ := r.two
  rw [Rep] at rx ry
  subst rx ry
  exact ⟨i, j, rfl, q _ _ F H p (.refl s fun a h => (bx a h).2) (by rw [Rep])⟩
theorem cv_i {g : Int → Int} : CallV K (fun xs H Q => ∃ i, xs = [.int i] ∧ Q (.int (g i)) H) (fun vs k => ∃ i, vs = [.int i] ∧ k (.int (g i))) := by
  rintro xs vs B F H P Q s bx r ⟨i, rfl, p⟩ q
  obtain ⟨x, rfl, rx⟩ := r.one
  rw [Rep] at rx
  subst rx
  exact ⟨i, rfl, q _ _ F H p (.refl s fun a h => (bx a h).2) (by rw [Rep])⟩
def blsOf : List PV → Option (List Bool) := fun xs => xs.mapM fun v => match v with | .bl i => some i | _ => none
theorem blsOf_map : ∀ ns : List Bool, blsOf (ns.map .bl) = some ns
  | [] => rfl
  | n :: ns => by
    have ih := blsOf_map ns
    unfold blsOf at ih ⊢
    rw [List.map_cons, List.mapM_cons, ih]; rfl
theorem blsOf_eq : ∀ {xs : List PV} {ns : List Bool}, blsOf xs = some ns → xs = ns.map .bl
  | [], ns, h => by cases h; rfl
  | x :: xs, ns, h => by
    unfold blsOf at h
    rw [List.mapM_cons] at h
    obtain ⟨i, e1, h⟩ := Option.bind_eq_some_iff.mp h
    obtain ⟨is, e2, h⟩ := Option.bind_eq_some_iff.mp h
    cases h
    rw [List.map_cons, blsOf_eq (xs := xs) e2]
    cases x <;> first
      | (cases e1; rfl)
      | exact nomatch e1
def cAll (any : Bool) : CW := fun vs k => ∃ xs bs, vs = [.lst xs] ∧ blsOf xs = some bs ∧ k (.bl (if any then bs.any id else bs.all id))
theorem cv_all : CallV K (rAll K) (cAll false) := by
  rintro xs vs B F H P Q s bx r ⟨ds, bs, rfl, e, p⟩ q
  obtain ⟨x, rfl, rx⟩ := r.one
  rw [Rep] at rx
  obtain ⟨a, us, rfl, ea, ru⟩ := rx
  rw [blsOf_eq e] at ru
  exact ⟨a, bs, rfl, .inl (.inl (by rw [s _ _ ea, ru.bls])), q _ _ F H p (.refl s fun a h => (bx a h).2) (by rw [Rep]; rfl)⟩
theorem cv_any : CallV K (rAny K) (cAll true) := by
  rintro xs vs B F H P Q s bx r ⟨ds, bs, rfl, e, p⟩ q
  obtain ⟨x, rfl, rx⟩ := r.one
  rw [Rep] at rx
  obtain ⟨a, us, rfl, ea, ru⟩ := rx
  rw [blsOf_eq e] at ru
  exact ⟨a, bs, rfl, .inl (.inl (by rw [s _ _ ea, ru.bls])), q _ _ F H p (.refl s fun a h => (bx a h).2) (by rw [Rep]; rfl)⟩
/-- tuple(row) -/
def cTuple : CW := fun vs k => ∃ xs, (vs = [.lst xs] ∨ vs = [.tup xs]) ∧ k (.tup xs)
theorem cv_tuple : CallV K (rTupS K) cTuple := by
  rintro xs vs B F H P Q s bx r ⟨ds, rfl | rfl, p⟩ q
  · obtain ⟨x, rfl, rx⟩ := r.one
    rw [Rep] at rx
    obtain ⟨a, us, rfl, ea, ru⟩ := rx
    refine ⟨a, us, rfl, .inl ⟨.inl (.inl (s _ _ ea)), fun l o hl ho => ?_⟩⟩
    have ex : Ext B F H (upd F l (.frz o (.tup us))) (upd H l (.frz o (.tup us))) := .laid s (fun a h => (bx a h).2) hl
    exact q _ _ _ _ p ex (by rw [Rep]; exact ⟨l, us, rfl, .new ho, ru.mono ex.ff⟩)
  · obtain ⟨x, rfl, rx⟩ := r.one
    have rx' := rx
    rw [Rep] at rx
    obtain ⟨a, us, rfl, ea, ru⟩ := rx
    exact ⟨a, us, rfl, .inr ⟨ea.sq s, q _ _ F H p (.refl s fun a h => (bx a h).2) rx'⟩⟩
/-- repr of data -/
def cRepr : CW := fun vs k => ∃ v d, vs = [v] ∧ dat v = some d ∧ KG.ShowOk d ∧ k (.str d.shown)
theorem cv_repr : CallV K (KG.rRepr K) cRepr := by
  rintro xs vs B F H P Q s bx r ⟨v, d, rfl, e, sh, p⟩ q
  obtain ⟨x, rfl, rx⟩ := r.one
  exact ⟨x, d, rfl, rx.dp s v e, sh, q _ _ F H p (.refl s fun a h => (bx a h).2) (by rw [Rep])⟩
/-- tuple(range(n)), list(range(n)) -/
def eRgT (f : EW) : EW := fun ρ k => f ρ (onI fun n => (0 ≤ n ∧ n ≤ 1000000) ∧ k (.tup ((rg n.toNat).map .int)))
theorem pp_tupRg {p p2 pos2 : Pos} (hc : X.calm = true) (hg : Gl X "tuple") (hm : X.mg "tuple" = none) (hg2 : Gl X "range") (hm2 : X.mg "range" = none) (ha : PP X a f)
    (na : starEach [Expr.Call (.Name "range" p2) [a] [] pos2] X.env = (false, eval (.Call (.Name "range" p2) [a] [] pos2) X.env) :: starEach [] X.env := by rfl) (na2 : starEach [a] X.env = (false, eval a X.env) :: starEach [] X.env := by rfl) :
    PP X (.Call (.Name "tuple" p) [.Call (.Name "range" p2) [a] [] pos2] [] pos) (eRgT f) := PE.weak (pe_tupRgS hc hg hm (prg_1 hg2 hm2 ha na2) na) fun σ H Q ⟨B, F, ρ, P, w, p, q⟩ => by
  refine ⟨B, F, ρ, _, w, p, fun v x F1 H1 hv e1 r1 => ?_⟩
  obtain ⟨n, ev, ⟨h0, h1⟩, p1⟩ := onI_ex hv
  subst ev; rw [Rep] at r1
  refine ⟨n, r1, RgOk.of_le (by omega) (by omega) (by omega) h0, fun c o hc ho => ?_⟩
  obtain ⟨m, rfl⟩ := Int.eq_ofNat_of_zero_le h0
  rw [rgV_rg]
  have ex : Ext B F1 H1 (upd F1 c (.frz o (.tup ((rg m).map V.int)))) (upd H1 c (.frz o (.tup ((rg m).map V.int)))) := .laid (w.ext e1).fh (fun a h => ((w.ext e1).bx a h).2) hc
  exact q _ _ _ _ p1 (e1.trans ex) (by rw [Rep]; exact ⟨c, _, rfl, .new ho, Reps.of_ints⟩)
/-- isinstance(e, T) -/
def isiP : String → PV → Option Bool
  | "int", .int _ => some true
  | "int", .bl _ => some true
  | "int", .non => some false
  | "int", .cst _ => some false
  | "int", .str _ => some false
  | "int", .tup _ => some false
  | "int", .lst _ => some false
  | "int", .dic _ => some false
  | "int", .dks _ => some false
  | "int", .dmx _ => some false
  | "bool", .int _ => some false
  | "bool", .bl _ => some true
  | "bool", .non => some false
  | "bool", .cst _ => some false
  | "bool", .str _ => some false
  | "bool", .tup _ => some false
  | "bool", .lst _ => some false
  | "bool", .dic _ => some false
  | "bool", .dks _ => some false
  | "bool", .dmx _ => some false
  | "tuple", .int _ => some false
  | "tuple", .bl _ => some false
  | "tuple", .non => some false
  | "tuple", .cst _ => some true
  | "tuple", .str _ => some false
  | "tuple", .tup _ => some true
  | "tuple", .lst _ => some false
  | "tuple", .dic _ => some false
  | "tuple", .dks _ => some false
  | "tuple", .dmx _ => some false
  | "list", .int _ => some false
  | "list", .bl _ => some false
  | "list", .non => some false
  | "list", .cst _ => some false
  | "list", .str _ => some false
  | "list", .tup _ => some false
  | "list", .lst _ => some true
  | "list", .dic _ => some false
  | "list", .dks _ => some false
  | "list", .dmx _ => some false
  | "str", .int _ => some false
  | "str", .bl _ => some false
  | "str", .non => some false
  | "str", .cst _ => some false
  | "str", .str _ => some true
  | "str", .tup _ => some false
  | "str", .lst _ => some false
  | "str", .dic _ => some false
  | "str", .dks _ => some false
  | "str", .dmx _ => some false
  | "dict", .int _ => some false
  | "dict", .bl _ => some false
  | "dict", .non => some false
  | "dict", .cst _ => some false
  | "dict", .str _ => some false
  | "dict", .tup _ => some false
  | "dict", .lst _ => some false
  | "dict", .dic _ => some true
  | "dict", .dks _ => some true
  | "dict", .dmx _ => some true
  | _, _ => none
def eIsi (T : String) (f : EW) : EW := fun ρ k => f ρ fun v => match isiP T v with
  | some b => k (.bl b)
  | none => False
theorem cst_ty {F H : Hp} {a : Addr} {us : List V} (s : Same F H) (h : SqT K F a us) : ∃ t, t = Value.type "tuple" ∧ TyX K H (.ref a) t := by
  rcases h with (h | ⟨o, h⟩) | ⟨o, its, n, h1, h2, _⟩
  · exact ⟨_, rfl, .base (.tup (s _ _ h))⟩
  · exact ⟨_, rfl, .fTuple (s _ _ h)⟩
  · exact ⟨_, rfl, .kTuple h1 h2⟩
/-- isinstance, of all that is known -/
inductive TyZ (K : PySem.W.Frag) (H : Hp) : V → Value → Prop where
  | x {x : V} {t : Value} (h : TyX K H x t) : TyZ K H x t
  | md {a : Addr} {xs : List Ent} {ep : Nat} (e : H a = some (.ext (RawD a xs ep))) : TyZ K H (.ref a) (.type "dict")
  | mx {a : Addr} {es : List DictEntry} {ep : Nat} (e : H a = some (.ext (RawM a es ep))) : TyZ K H (.ref a) (.type "dict")
  | fd {a : Addr} {o : Obj} {kvs : List (Key × V)} (e : H a = some (.frz o (.dK kvs))) : TyZ K H (.ref a) (.type "dict")
def rIsiZ (K : PySem.W.Frag) : List V → Hp → VK → Prop := fun xs H Q => ∃ (x c : V) (t u : Value) (b : Bool), xs = [x, c] ∧ ClsV c u ∧ TyZ K H x t ∧ PySem.W.kitOne K t u = some b ∧ Q (.bl b) H
theorem call_isiZ : CallR X (.builtin "isinstance") (rIsiZ X.K) := by
  rintro pins s σ H xs us Q I r ⟨x, c, t, u, b, rfl, k, ty, e, q⟩
  cases ty with
  | x ty => exact call_isi pins s σ H _ us Q I r ⟨x, c, t, u, b, rfl, k, ty, e, q⟩
  | @md a ys ep ea =>
    obtain ⟨u1, u2, rfl, r1, r2⟩ := vals2 r
    have e2 := k.eq r2
    subst e2
    cases r1
    obtain ⟨o, es, h1, h2, _⟩ := (show ObjOk X.prog X.w H s.heap a (.ext (RawD a ys ep)) from I.hok a _ ea).1
    exact PySem.W.kia_one PySem.W.kitx_dict I.kIn ⟨o, h1, h2.1⟩ e (fun z => nomatch z) fun tk => ⟨.bl b, H, I.tok tk, rfl, q⟩
  | @mx a ys ep ea =>
    obtain ⟨u1, u2, rfl, r1, r2⟩ := vals2 r
    have e2 := k.eq r2
    subst e2
    cases r1
    obtain ⟨o, es, h1, h2, _⟩ := (show ObjOk X.prog X.w H s.heap a (.ext (RawM a ys ep)) from I.hok a _ ea).1
    exact PySem.W.kia_one PySem.W.kitx_dict I.kIn ⟨o, h1, h2.1⟩ e (fun z => nomatch z) fun tk => ⟨.bl b, H, I.tok tk, rfl, q⟩
  | @fd a o kvs ea =>
    obtain ⟨u1, u2, rfl, r1, r2⟩ := vals2 r
    have e2 := k.eq r2
    subst e2
    cases r1
    obtain ⟨_, h1, h2, _⟩ := I.frzK ea
    exact PySem.W.kia_one PySem.W.kitx_dict I.kIn ⟨o, h1, h2.1⟩ e (fun z => nomatch z) fun tk => ⟨.bl b, H, I.tok tk, rfl, q⟩
theorem isi_of {T : String} {F H : Hp} {x : V} {v : PV} {b : Bool} (s : Same F H) (r : Rep K F x v) (h : isiP T v = some b) : ∃ t u, ClsV (.ty T) u ∧ TyZ K H x t ∧ PySem.W.kitOne K t u = some b := by
  unfold isiP at h
  split at h <;> first
    | (cases h
       rw [Rep] at r
       first
         | (subst r; exact ⟨_, _, .ty _, .x (.base (.int _)), kit_ty (by decide +kernel)⟩)
         | (subst r; exact ⟨_, _, .ty _, .x (.base (.bl _)), kit_ty (by decide +kernel)⟩)
         | (subst r; exact ⟨_, _, .ty _, .x (.base (.str _)), kit_ty (by decide +kernel)⟩)
         | (subst r; exact ⟨_, _, .ty _, .x (.base .non), kit_ty (by decide +kernel)⟩)
         | (obtain ⟨a, us, rfl, ⟨o, ea, _⟩, ru⟩ := r; exact ⟨_, _, .ty _, .x (.fTuple (s _ _ ea)), kit_ty (by decide +kernel)⟩)
         | (obtain ⟨a, us, rfl, ea, ru⟩ := r; exact ⟨_, _, .ty _, .x (.base (.lst (s _ _ ea))), kit_ty (by decide +kernel)⟩)
         | (obtain ⟨a, ob, us, rfl, ea, ru⟩ := r; exact ⟨_, _, .ty _, .fd (s _ _ ea), kit_ty (by decide +kernel)⟩)
         | (obtain ⟨a, es, ep, rfl, ea, _⟩ := r; exact ⟨_, _, .ty _, .mx (s _ _ ea), kit_ty (by decide +kernel)⟩)
         | (obtain ⟨a, xs, ep, rfl, ea, _⟩ := r; exact ⟨_, _, .ty _, .md (s _ _ ea), kit_ty (by decide +kernel)⟩)
         | (obtain ⟨a, us, rfl, ea, ru⟩ := r; obtain ⟨t, ht, tx⟩ := cst_ty s ea; subst ht; exact ⟨_, _, .ty _, .x tx, kit_ty (by decide +kernel)⟩))
    | exact nomatch h
theorem pp_isi {T : String} {x : Str} {p p2 : Pos} (hg : Gl X "isinstance") (hm : X.mg "isinstance" = none) (hv : bootBuiltins "isinstance" = some (.builtin "isinstance")) (hT : PE X (.Name x p2) (tC (.ty T))) (ha : PP X a f) 
    (he : starEach [a, Expr.Name x p2] X.env = (false, eval a X.env) :: starEach [.Name x p2] X.env := by rfl) (he2 : starEach [Expr.Name x p2] X.env = (false, eval (.Name x p2) X.env) :: starEach [] X.env := by rfl) (hpl : (backTo pos (starEach [.Name x p2] X.env)).any (·.1) = false := by rfl) :
    PP X (.Call (.Name "isinstance" p) [a, .Name x p2] [] pos) (eIsi T f) := PE.weak (pe_callB call_isiZ hg hm hv (pa_cons ha (pa_cons hT pa_nil he2) he) (by decide) (by decide) he hpl) fun σ H Q ⟨B, F, ρ, P, w, p, q⟩ => by
  refine ⟨B, F, ρ, _, w, p, fun v x F1 H1 hp e1 r1 => ?_⟩
  split at hp
  case h_2 => exact hp.elim
  rename_i b hb
  have p1 := hp
  obtain ⟨t, u, h1, h2, h3⟩ := isi_of (w.ext e1).fh r1 hb
  exact ⟨x, .ty T, t, u, b, rfl, h1, h2, h3, q _ _ F1 H1 p1 e1 (by rw [Rep])⟩
end
end KV

namespace KV
open PySem PySem.Spec PyProof.Rows L2 KGX
open Classical
/-! ### where a statement stands -/
def owner : Cell → Bool
  | .fr _ => false
  | .ow _ => true
  | .box => true
def RepS (K : PySem.W.Frag) (B0 : Addr → Prop) (H0 F H : Hp) (x : V) : Cell → Prop
  | .fr v => Rep K F x v
  | .ow v => ∃ a o, x = .ref a ∧ F a = none ∧ H0 a = none ∧ H a = some o ∧ OwnO K F a o v
  | .box => ∃ b n, x = .ref b ∧ F b = none ∧ (B0 b ∨ H0 b = none) ∧ H b = some (.lst [.int n])
structure Ws (K : PySem.W.Frag) (B0 : Addr → Prop) (F0 H0 F H : Hp) (σ : L2.St) (ρ : Rho) : Prop where
  ext : Ext B0 F0 H0 F H
  b0 : ∀ a, B0 a → F0 a = none ∧ NT (H0 a)
  sl : ∀ (i : Nat) (c : Cell), ρ[i]? = some (some c) → ∃ x, σ[i]? = some (some x) ∧ RepS K B0 H0 F H x c
  len : ρ.length = σ.length
  dist : ∀ (i j : Nat) (c d : Cell) (a : Addr), i ≠ j → ρ[i]? = some (some c) → ρ[j]? = some (some d) → owner c = true → owner d = true → σ[i]? = some (some (.ref a)) → σ[j]? = some (some (.ref a)) → False
def OwA (σ : L2.St) (ρ : Rho) (a : Addr) : Prop := ∃ (i : Nat) (v : PV), ρ[i]? = some (some (.ow v)) ∧ σ[i]? = some (some (.ref a))
def BxA (σ : L2.St) (ρ : Rho) (a : Addr) : Prop := ∃ i : Nat, ρ[i]? = some (some .box) ∧ σ[i]? = some (some (.ref a))
noncomputable def plus (σ : L2.St) (ρ : Rho) (F H : Hp) : Hp := fun a => if OwA σ ρ a then H a else F a
noncomputable def cut (σ : L2.St) (ρ : Rho) (F : Hp) : Hp := fun a => if OwA σ ρ a then none else F a
def hide (ρ : Rho) : Rho := ρ.map fun c => match c with | some (.ow _) => none | c => c
section
variable {K : PySem.W.Frag} {B0 : Addr → Prop} {F0 H0 F H F' H' : Hp} {σ : L2.St} {ρ : Rho}
theorem OwnO.mono {p : Addr} {o : HO} {v : PV} (s : Same F F') (h : OwnO K F p o v) : OwnO K F' p o v := by
  cases o <;> cases v <;> first
    | exact h.elim
    | exact Reps.mono s _ h
    | (obtain ⟨xs, ep, e, dk, r⟩ := h; exact ⟨xs, ep, e, dk, RepX.mono s _ r⟩)
    | (obtain ⟨kvs, e, r⟩ := h; exact ⟨kvs, e, RepK.mono s _ r⟩)
    | (obtain ⟨es, ep, e, ns, r⟩ := h; exact ⟨es, ep, e, ns, RepM.mono s _ r⟩)
theorem OwnO.nobox {p : Addr} {o : HO} {v : PV} (h : OwnO K F p o v) : (∀ xs, o ≠ .tup xs) := by
  intro xs e; subst e; cases v <;> exact h.elim
theorem Ws.ow (w : Ws K B0 F0 H0 F H σ ρ) {a : Addr} (h : OwA σ ρ a) : F a = none ∧ H0 a = none ∧ ∃ o v, H a = some o ∧ OwnO K F a o v := by
  obtain ⟨i, v, e1, e2⟩ := h
  obtain ⟨x, e3, a', o, rfl, h1, h2, h3, h4⟩ := w.sl i _ e1
  rw [e2] at e3; cases e3
  exact ⟨h1, h2, o, v, h3, h4⟩
theorem Ws.bx (w : Ws K B0 F0 H0 F H σ ρ) {a : Addr} (h : BxA σ ρ a) : F a = none ∧ (B0 a ∨ H0 a = none) ∧ ∃ n, H a = some (.lst [.int n]) := by
  obtain ⟨i, e1, e2⟩ := h
  obtain ⟨x, e3, a', n, rfl, h1, h2, h3⟩ := w.sl i _ e1
  rw [e2] at e3; cases e3
  exact ⟨h1, h2, n, h3⟩
theorem Ws.apart (w : Ws K B0 F0 H0 F H σ ρ) {a : Addr} (h : BxA σ ρ a) : ¬ OwA σ ρ a := fun ⟨j, v, e3, e4⟩ => by
  obtain ⟨i, e1, e2⟩ := h
  by_cases z : i = j
  · subst z; rw [e1] at e3; exact nomatch e3
  · exact w.dist i j _ _ a z e1 e3 rfl rfl e2 e4
theorem Ws.b0F (w : Ws K B0 F0 H0 F H σ ρ) {a : Addr} (h : B0 a) : F a = none ∧ ∃ n, H a = some (.lst [.int n]) := ⟨w.ext.new a (w.b0 a h).1 (w.b0 a h).2, w.ext.box a h⟩
theorem Ws.old (w : Ws K B0 F0 H0 F H σ ρ) {a : Addr} (h : H0 a ≠ none) : ¬ OwA σ ρ a := fun z => h (w.ow z).2.1
abbrev Bs (B0 : Addr → Prop) (σ : L2.St) (ρ : Rho) : Addr → Prop := fun a => B0 a ∨ BxA σ ρ a
theorem Ws.sameP (w : Ws K B0 F0 H0 F H σ ρ) : Same F (plus σ ρ F H) := fun a o e => by
  unfold plus
  rw [if_neg (fun z => by rw [(w.ow z).1] at e; exact nomatch e)]; exact e
theorem Ws.x (w : Ws K B0 F0 H0 F H σ ρ) : Wx K (Bs B0 σ ρ) (plus σ ρ F H) H σ ρ := by
  refine ⟨fun a o e => ?_, fun a h => ?_, fun i c e => ?_, w.len⟩
  · unfold plus at e
    split at e
    · exact e
    · exact w.ext.fh a o e
  · rcases h with h | h
    · refine ⟨?_, (w.b0F h).2⟩
      unfold plus
      rw [if_neg (w.old (w.b0 a h).2.1)]; exact (w.b0F h).1
    · refine ⟨?_, (w.bx h).2.2⟩
      unfold plus
      rw [if_neg (w.apart h)]; exact (w.bx h).1
  · obtain ⟨x, e1, r⟩ := w.sl i c e
    refine ⟨x, e1, ?_⟩
    cases c with
    | fr v => exact Rep.mono w.sameP v r
    | ow v =>
      obtain ⟨a, o, rfl, h1, h2, h3, h4⟩ := r
      have hp : (plus σ ρ F H) a = some o := by unfold plus; rw [if_pos ⟨i, v, e, e1⟩]; exact h3
      have ow := h4.mono w.sameP
      show Rep K (plus σ ρ F H) (.ref a) v
      cases o <;> cases v <;> first
        | exact h4.elim
        | (rw [Rep]; exact ⟨a, _, rfl, hp, ow⟩)
        | (obtain ⟨xs, ep, rfl, dk, r⟩ := ow; rw [Rep]; exact ⟨a, xs, ep, rfl, hp, dk, r⟩)
        | (obtain ⟨kvs, rfl, r⟩ := ow; rw [Rep]; exact ⟨a, _, kvs, rfl, hp, r⟩)
    | box =>
      obtain ⟨b, n, rfl, _⟩ := r
      exact ⟨b, rfl, .inr ⟨i, e, e1⟩⟩
theorem hide_at {i : Nat} {c : Cell} (h : (hide ρ)[i]? = some (some c)) : ρ[i]? = some (some c) ∧ ∀ v, c ≠ .ow v := by
  unfold hide at h
  rw [List.getElem?_map] at h
  cases e : ρ[i]? with
  | none => rw [e] at h; exact nomatch h
  | some d =>
    rw [e] at h
    match d, h with
    | some (.fr v), h => cases h; exact ⟨rfl, fun _ z => nomatch z⟩
    | some .box, h => cases h; exact ⟨rfl, fun _ z => nomatch z⟩
    | some (.ow v), h => exact nomatch h
    | none, h => exact nomatch h
theorem Ws.h (w : Ws K B0 F0 H0 F H σ ρ) : Wx K (Bs B0 σ ρ) F H σ (hide ρ) := by
  refine ⟨w.ext.fh, fun a h => ?_, fun i c e => ?_, by unfold hide; rw [List.length_map]; exact w.len⟩
  · rcases h with h | h
    · exact w.b0F h
    · exact ⟨(w.bx h).1, (w.bx h).2.2⟩
  · obtain ⟨e', hn⟩ := hide_at e
    obtain ⟨x, e1, r⟩ := w.sl i c e'
    refine ⟨x, e1, ?_⟩
    cases c with
    | fr v => exact r
    | ow v => exact (hn v rfl).elim
    | box => obtain ⟨b, n, rfl, _⟩ := r; exact ⟨b, rfl, .inr ⟨i, e', e1⟩⟩
/-- behind an expression that knew of nothing owned -/
theorem Ws.backH (w : Ws K B0 F0 H0 F H σ ρ) (e : Ext (Bs B0 σ ρ) F H F' H') : Ws K B0 F0 H0 F' H' σ ρ := by
  have nb : ∀ a, ¬ B0 a → H0 a ≠ none → ¬ Bs B0 σ ρ a := fun a h1 h2 z => z.elim h1 fun z => (w.bx z).2.1.elim h1 h2
  refine ⟨⟨w.ext.ff.trans e.ff, e.fh, fun a n h => e.new a (w.ext.new a n h) (w.ext.thereN h), fun a o b h => e.keep a o (nb a b (by rw [h]; exact fun z => nomatch z)) (w.ext.keep a o b h), fun a b => e.box a (.inl b)⟩, w.b0, fun i c q => ?_, w.len, w.dist⟩
  obtain ⟨x, e1, r⟩ := w.sl i c q
  refine ⟨x, e1, ?_⟩
  cases c with
  | fr v => exact Rep.mono e.ff v r
  | ow v =>
    obtain ⟨a, o, rfl, h1, h2, h3, h4⟩ := r
    have hna : ¬ Bs B0 σ ρ a := fun z => z.elim (fun z => (w.b0 a z).2.1 h2) fun z => w.apart z ⟨i, v, q, e1⟩
    exact ⟨a, o, rfl, e.new a h1 (by rw [h3]; exact ⟨(fun z => nomatch z), fun xs z => h4.nobox xs (Option.some.inj z)⟩), h2, e.keep a o hna h3, h4.mono e.ff⟩
  | box =>
    obtain ⟨b, n, rfl, h1, h2, h3⟩ := r
    obtain ⟨n', h4⟩ := e.box b (.inr ⟨i, q, e1⟩)
    exact ⟨b, n', rfl, e.new b h1 (by rw [h3]; exact ⟨(fun z => nomatch z), fun xs z => nomatch z⟩), h2, h4⟩
/-- behind one that read what is owned: what was read is owned again -/
theorem Ws.back (w : Ws K B0 F0 H0 F H σ ρ) (e : Ext (Bs B0 σ ρ) (plus σ ρ F H) H F' H') : Ws K B0 F0 H0 (cut σ ρ F') H' σ ρ := by
  have nb : ∀ a, ¬ B0 a → H0 a ≠ none → ¬ Bs B0 σ ρ a := fun a h1 h2 z => z.elim h1 fun z => (w.bx z).2.1.elim h1 h2
  have sc : Same F (cut σ ρ F') := fun a o q => by
    unfold cut
    rw [if_neg (fun z => by rw [(w.ow z).1] at q; exact nomatch q)]
    exact e.ff a o (w.sameP a o q)
  refine ⟨⟨w.ext.ff.trans sc, fun a o q => ?_, fun a n h => ?_, fun a o b h => e.keep a o (nb a b (by rw [h]; exact fun z => nomatch z)) (w.ext.keep a o b h), fun a b => e.box a (.inl b)⟩, w.b0, fun i c q => ?_, w.len, w.dist⟩
  · unfold cut at q
    split at q
    · exact nomatch q
    · exact e.fh a o q
  · unfold cut
    split
    · rfl
    · rename_i z
      refine e.new a ?_ (w.ext.thereN h)
      unfold plus; rw [if_neg z]; exact w.ext.new a n h
  obtain ⟨x, e1, r⟩ := w.sl i c q
  refine ⟨x, e1, ?_⟩
  cases c with
  | fr v => exact Rep.mono sc v r
  | ow v =>
    obtain ⟨a, o, rfl, h1, h2, h3, h4⟩ := r
    have oa : OwA σ ρ a := ⟨i, v, q, e1⟩
    have hna : ¬ Bs B0 σ ρ a := fun z => z.elim (fun z => (w.b0 a z).2.1 h2) fun z => w.apart z oa
    refine ⟨a, o, rfl, ?_, h2, e.keep a o hna h3, h4.mono sc⟩
    unfold cut; rw [if_pos oa]
  | box =>
    obtain ⟨b, n, rfl, h1, h2, h3⟩ := r
    have bb : BxA σ ρ b := ⟨i, q, e1⟩
    obtain ⟨n', h4⟩ := e.box b (.inr bb)
    refine ⟨b, n', rfl, ?_, h2, h4⟩
    unfold cut; rw [if_neg (w.apart bb)]
    exact e.new b (by unfold plus; rw [if_neg (w.apart bb)]; exact h1) (by rw [h3]; exact ⟨(fun z => nomatch z), fun xs z => nomatch z⟩)
theorem Ws.sc (w : Ws K B0 F0 H0 F H σ ρ) (e : Ext (Bs B0 σ ρ) (plus σ ρ F H) H F' H') : Same F (cut σ ρ F') := fun a o q => by
  unfold cut
  rw [if_neg (fun z => by rw [(w.ow z).1] at q; exact nomatch q)]
  exact e.ff a o (w.sameP a o q)
theorem Ws.flatR (w : Ws K B0 F0 H0 F H σ ρ) (e : Ext (Bs B0 σ ρ) (plus σ ρ F H) H F' H') {x : V} {v : PV} (hf : flat v = true) (r : Rep K F' x v) : Rep K (cut σ ρ F') x v := by
  refine Rep.flat (fun a o q h1 h2 h3 => ?_) v hf r
  unfold cut
  rw [if_neg]; exact q
  intro z
  obtain ⟨f, h0, u, y, hu, ow⟩ := w.ow z
  have hp : plus σ ρ F H a = some u := by unfold plus; rw [if_pos z]; exact hu
  have := e.ff a u hp
  rw [q] at this; cases this
  cases o <;> cases y <;> first
    | exact ow.elim
    | exact h1 _ rfl
    | exact h3 _ rfl
    | (obtain ⟨kvs, e, _⟩ := ow; subst e; exact h2 _ _ rfl)
    | (obtain ⟨xs, ep, e, _⟩ := ow; subst e; exact h3 _ rfl)
theorem Ws.extR (w : Ws K B0 F0 H0 F H σ ρ) (e : Ext (Bs B0 σ ρ) (plus σ ρ F H) H F' H') : Ext B0 F0 H0 F' H' := by
  have nb : ∀ a, ¬ B0 a → H0 a ≠ none → ¬ Bs B0 σ ρ a := fun a h1 h2 z => z.elim h1 fun z => (w.bx z).2.1.elim h1 h2
  refine ⟨(w.ext.ff.trans w.sameP).trans e.ff, e.fh, fun a n h => e.new a ?_ (w.ext.thereN h), fun a o b h => e.keep a o (nb a b (by rw [h]; exact fun z => nomatch z)) (w.ext.keep a o b h), fun a b => e.box a (.inl b)⟩
  unfold plus; rw [if_neg (w.old h.1)]; exact w.ext.new a n h
/-- a slot is set -/
theorem Ws.set (w : Ws K B0 F0 H0 F H σ ρ) (i : Nat) {x : V} {v : PV} (r : Rep K F x v) : Ws K B0 F0 H0 F H (σ.set i (some x)) (ρ.set i (some (.fr v))) := by
  refine ⟨w.ext, w.b0, fun j c e => ?_, by rw [List.length_set, List.length_set]; exact w.len, fun j k c d a hjk e1 e2 o1 o2 s1 s2 => ?_⟩
  · by_cases z : i = j
    · subst z
      have hl : i < ρ.length := by
        have := (List.getElem?_eq_some_iff.mp e).1
        rw [List.length_set] at this; exact this
      rw [List.getElem?_set_self hl] at e; cases e
      exact ⟨x, List.getElem?_set_self (by rw [← w.len]; exact hl), r⟩
    · rw [List.getElem?_set_ne z] at e ⊢; exact w.sl j c e
  · have nz : ∀ {m : Nat} {u : Cell}, (ρ.set i (some (.fr v)))[m]? = some (some u) → owner u = true → i ≠ m := fun {m u} e o z => by
      subst z
      have hl := (List.getElem?_eq_some_iff.mp e).1
      rw [List.length_set] at hl
      rw [List.getElem?_set_self hl] at e; cases e; exact nomatch o
    have n1 := nz e1 o1
    have n2 := nz e2 o2
    rw [List.getElem?_set_ne n1] at e1 s1
    rw [List.getElem?_set_ne n2] at e2 s2
    exact w.dist j k c d a hjk e1 e2 o1 o2 s1 s2
/-- .. to what is owned: at p, where no other owner stands -/
theorem Ws.setO (w : Ws K B0 F0 H0 F H σ ρ) (i : Nat) {p : Addr} {c : Cell} (oc : owner c = true) (r : RepS K B0 H0 F H (.ref p) c) (np : ∀ (j : Nat) (d : Cell), j ≠ i → ρ[j]? = some (some d) → owner d = true → σ[j]? ≠ some (some (.ref p))) :
    Ws K B0 F0 H0 F H (σ.set i (some (.ref p))) (ρ.set i (some c)) := by
  refine ⟨w.ext, w.b0, fun j d e => ?_, by rw [List.length_set, List.length_set]; exact w.len, fun j k d1 d2 a hjk e1 e2 o1 o2 s1 s2 => ?_⟩
  · by_cases z : i = j
    · subst z
      have hl : i < ρ.length := by
        have := (List.getElem?_eq_some_iff.mp e).1
        rw [List.length_set] at this; exact this
      rw [List.getElem?_set_self hl] at e; cases e
      exact ⟨.ref p, List.getElem?_set_self (by rw [← w.len]; exact hl), r⟩
    · rw [List.getElem?_set_ne z] at e ⊢; exact w.sl j d e
  · by_cases z : i = j
    · subst z
      have hl := (List.getElem?_eq_some_iff.mp e1).1
      rw [List.length_set] at hl
      rw [List.getElem?_set_self (by rw [← w.len]; exact hl)] at s1; cases s1
      rw [List.getElem?_set_ne hjk] at e2 s2
      exact np k d2 (fun z => hjk z.symm) e2 o2 s2
    · by_cases z2 : i = k
      · subst z2
        have hl := (List.getElem?_eq_some_iff.mp e2).1
        rw [List.length_set] at hl
        rw [List.getElem?_set_self (by rw [← w.len]; exact hl)] at s2; cases s2
        rw [List.getElem?_set_ne z] at e1 s1
        exact np j d1 hjk e1 o1 s1
      · rw [List.getElem?_set_ne z] at e1 s1
        rw [List.getElem?_set_ne z2] at e2 s2
        exact w.dist j k d1 d2 a hjk e1 e2 o1 o2 s1 s2
end
end KV

namespace KV
open PySem PySem.Spec PyProof.Rows L2 KGX
abbrev SW := Rho → (Rho → Prop) → (PV → Prop) → Prop
/-- what is told: known data (m false), or a new list or dict that nobody knows (m true) -/
def RetV (K : PySem.W.Frag) (m : Bool) (B0 : Addr → Prop) (F0 H0 F H : Hp) (x : V) (v : PV) : Prop := Ext B0 F0 H0 F H ∧ match m with
  | false => Rep K F x v
  | true => ∃ p o, x = .ref p ∧ F p = none ∧ H0 p = none ∧ H p = some o ∧ OwnO K F p o v
def tS (K : PySem.W.Frag) (m : Bool) (f : SW) : TS := fun D σ H => ∃ B0 F0 H0 F ρ N R, Ws K B0 F0 H0 F H σ ρ ∧ f ρ N R ∧ (∀ ρ' σ' F' H', N ρ' → Same F F' → Ws K B0 F0 H0 F' H' σ' ρ' → D.nx σ' H') ∧ (∀ v x F' H', R v → RetV K m B0 F0 H0 F' H' x v → D.rt x H')
def QS (X : Cx) (m : Bool) (st : Stmt) (f : SW) : Prop := PS X st (tS X.K m f)
def QSs (X : Cx) (m : Bool) (st : List Stmt) (f : SW) : Prop := PSs X st (tS X.K m f)
section
variable {m : Bool} {X : Cx} {e a b c : Expr} {st : Stmt} {sts rest : List Stmt} {pos : Pos} {f g h : EW} {s1 s2 : SW} {tw : TW}
theorem PS.weak {t t' : TS} (h : PS X st t) (w : ∀ D σ H, t' D σ H → t D σ H) : PS X st t' := ⟨fun pins s σ H D I q => h.run pins s σ H D I (w D σ H q)⟩
theorem PSs.weak {t t' : TS} (h : PSs X sts t) (w : ∀ D σ H, t' D σ H → t D σ H) : PSs X sts t' := ⟨fun pins s σ H D I q => h.run pins s σ H D I (w D σ H q)⟩
/-! blocks -/
def sSeq (s1 s2 : SW) : SW := fun ρ N R => s1 ρ (fun ρ' => s2 ρ' N R) R
def sNil : SW := fun ρ N _ => N ρ
def sNever : SW := fun _ _ _ => False
theorem qss_nil : QSs X m [] sNil := PSs.weak pss_nil fun D σ H ⟨B0, F0, H0, F, ρ, N, R, w, p, q, r⟩ => q ρ σ F H p (fun _ _ z => z) w
theorem qss_one (h : QS X m st s1) : QSs X m [st] s1 := pss_one h
theorem qss_cons (h1 : QS X m st s1) (h2 : QSs X m rest s2) : QSs X m (st :: rest) (sSeq s1 s2) := PSs.weak (pss_cons h1 h2) fun D σ H ⟨B0, F0, H0, F, ρ, N, R, w, p, q, r⟩ =>
  ⟨B0, F0, H0, F, ρ, _, R, w, p, fun ρ' σ' F' H' p' s' w' => ⟨B0, F0, H0, F', ρ', N, R, w', p', fun ρ2 σ2 F2 H2 p2 s2 w2 => q ρ2 σ2 F2 H2 p2 (s'.trans s2) w2, r⟩, r⟩
theorem qs_never : QS X m st sNever := PS.weak ps_never fun D σ H ⟨B0, F0, H0, F, ρ, N, R, w, p, q, r⟩ => p
/-! x = e -/
/-- .. by what knows of nothing owned -/
def sSet (i : Nat) (f : EW) : SW := fun ρ N _ => f (hide ρ) fun v => N (ρ.set i (some (.fr v)))
/-- .. by what may read what is owned: its value has no list and no dict in it -/
def sSetB (i : Nat) (f : EW) : SW := fun ρ N _ => f ρ fun v => flat v = true ∧ N (ρ.set i (some (.fr v)))
/-- .. a new list, a new dict, owned from now on -/
def sOwn (i : Nat) (f : EW) : SW := fun ρ N _ => f (hide ρ) fun v => N (ρ.set i (some (.ow v)))
theorem qs_set {i : Nat} (h : PE X e (tE X.K f) → PS X st (tAsg (tE X.K f) (gName i))) (he : PP X e f) : QS X m st (sSet i f) := PS.weak (h he) fun D σ H ⟨B0, F0, H0, F, ρ, N, R, w, p, q, r⟩ =>
  ⟨_, F, _, _, w.h, p, fun v x F' H' pv ex rx => q _ _ _ _ pv ex.ff ((w.backH ex).set i rx)⟩
theorem qs_setB {i : Nat} (h : PE X e (tE X.K f) → PS X st (tAsg (tE X.K f) (gName i))) (he : PP X e f) : QS X m st (sSetB i f) := PS.weak (h he) fun D σ H ⟨B0, F0, H0, F, ρ, N, R, w, p, q, r⟩ =>
  ⟨_, _, _, _, w.x, p, fun v x F' H' ⟨hf, pv⟩ ex rx => q _ _ _ _ pv (w.sc ex) ((w.back ex).set i (w.flatR ex hf rx))⟩
theorem Ws.h0 {K : PySem.W.Frag} {B0 : Addr → Prop} {F0 H0 F H : Hp} {σ : L2.St} {ρ : Rho} (w : Ws K B0 F0 H0 F H σ ρ) {p : Addr} (h : H p = none) : H0 p = none := w.ext.none h
theorem Ws.noOwner {K : PySem.W.Frag} {B0 : Addr → Prop} {F0 H0 F H : Hp} {σ : L2.St} {ρ : Rho} (w : Ws K B0 F0 H0 F H σ ρ) {p : Addr} (h : H p = none) (j : Nat) (d : Cell) (e : ρ[j]? = some (some d)) (o : owner d = true) : σ[j]? ≠ some (some (.ref p)) := fun z => by
  obtain ⟨x, e1, r⟩ := w.sl j d e
  rw [z] at e1; cases e1
  cases d with
  | fr v => exact nomatch o
  | ow v => obtain ⟨a, u, ea, _, _, h3, _⟩ := r; cases ea; rw [h] at h3; exact nomatch h3
  | box => obtain ⟨a, n, ea, _, _, h3⟩ := r; cases ea; rw [h] at h3; exact nomatch h3
theorem qs_own {i : Nat} (h : PE X e (tF X.K f) → PS X st (tAsg (tF X.K f) (gName i))) (he : PF X e f) : QS X m st (sOwn i f) := PS.weak (h he) fun D σ H ⟨B0, F0, H0, F, ρ, N, R, w, p, q, r⟩ =>
  ⟨_, F, _, _, w.h, p, fun v c o F' H' pv ex fc hc ho ow => q _ _ _ _ pv ex.ff ((w.backH ex).setO i (c := .ow v) rfl ⟨c, o, rfl, fc, w.h0 hc, ho, ow⟩ fun j d _ e o => w.noOwner hc j d e o)⟩
/-! if, return -/
def sIf (t : TW) (s1 s2 : SW) : SW := fun ρ N R => t ρ fun b => if b = true then s1 ρ N R else s2 ρ N R
theorem qs_if {x y : List Stmt} (hc : PB X c tw) (h1 : QSs X m x s1) (h2 : QSs X m y s2) : QS X m (.If c x y pos) (sIf tw s1 s2) := PS.weak (ps_if hc h1 h2) fun D σ H ⟨B0, F0, H0, F, ρ, N, R, w, p, q, r⟩ =>
  ⟨_, _, _, _, w.x, p, fun b F' H' pb ex => by
    cases b with
    | true => exact ⟨B0, F0, H0, _, ρ, N, R, w.back ex, pb, fun ρ2 σ2 F2 H2 p2 s2 w2 => q ρ2 σ2 F2 H2 p2 ((w.sc ex).trans s2) w2, r⟩
    | false => exact ⟨B0, F0, H0, _, ρ, N, R, w.back ex, pb, fun ρ2 σ2 F2 H2 p2 s2 w2 => q ρ2 σ2 F2 H2 p2 ((w.sc ex).trans s2) w2, r⟩⟩
def sRet (f : EW) : SW := fun ρ _ R => f ρ R
theorem qs_ret (he : PP X e f) : QS X false (.Return (some e) pos) (sRet f) := PS.weak (ps_ret he) fun D σ H ⟨B0, F0, H0, F, ρ, N, R, w, p, q, r⟩ =>
  ⟨_, _, _, _, w.x, p, fun v x F' H' pv ex rx => r v x F' H' pv ⟨w.extR ex, rx⟩⟩
/-- a new one, told -/
theorem qs_retF (he : PF X e f) : QS X true (.Return (some e) pos) (sRet f) := PS.weak (ps_ret he) fun D σ H ⟨B0, F0, H0, F, ρ, N, R, w, p, q, r⟩ =>
  ⟨_, _, _, _, w.x, p, fun v c o F' H' pv ex fc hc ho ow => r v _ F' H' pv ⟨w.extR ex, c, o, rfl, fc, w.ext.none hc, ho, ow⟩⟩
/-- what is owned, told -/
def sRetO (i : Nat) : SW := fun ρ _ R => match ρ[i]? with
  | some (some (.ow v)) => R v
  | _ => False
theorem qs_retO {i : Nat} (he : PE X e (tVar i)) : QS X true (.Return (some e) pos) (sRetO i) := PS.weak (ps_ret he) fun D σ H ⟨B0, F0, H0, F, ρ, N, R, w, p, q, r⟩ => by
  unfold sRetO at p
  split at p
  case h_2 => exact p.elim
  rename_i v e
  obtain ⟨x, e1, a, o, rfl, h1, h2, h3, h4⟩ := w.sl i _ e
  exact ⟨_, e1, r v _ F H p ⟨w.ext, a, o, rfl, h1, h2, h3, h4⟩⟩
def sDrop (f : EW) : SW := fun ρ N _ => f ρ fun _ => N ρ
theorem qs_expr (he : PP X e f) (hs : swapsWith e none pos.line X.env = pure false := by rfl) : QS X m (.Expr e pos) (sDrop f) := PS.weak (ps_expr he hs) fun D σ H ⟨B0, F0, H0, F, ρ, N, R, w, p, q, r⟩ =>
  ⟨_, _, _, _, w.x, p, fun v x F' H' pv ex rx => q _ _ _ _ pv (w.sc ex) (w.back ex)⟩
/-! changes of what is owned -/
theorem Ws.write {K : PySem.W.Frag} {B0 : Addr → Prop} {F0 H0 F H : Hp} {σ : L2.St} {ρ : Rho} (w : Ws K B0 F0 H0 F H σ ρ) {i : Nat} {p : Addr} {v v' : PV} {o' : HO} (e : ρ[i]? = some (some (.ow v))) (es : σ[i]? = some (some (.ref p))) (ow : OwnO K F p o' v') :
    Ws K B0 F0 H0 F (upd H p o') σ (ρ.set i (some (.ow v'))) := by
  obtain ⟨x, e1, a, o, rfl, h1, h2, h3, h4⟩ := w.sl i _ e
  rw [es] at e1; cases e1
  have oa : OwA σ ρ p := ⟨i, v, e, es⟩
  have hl : i < ρ.length := (List.getElem?_eq_some_iff.mp e).1
  have hB : ∀ b, B0 b → b ≠ p := fun b hb z => by subst z; exact (w.b0 b hb).2.1 h2
  refine ⟨⟨w.ext.ff, fun b u q => ?_, w.ext.new, fun b u nb q => ?_, fun b hb => ?_⟩, w.b0, fun j d q => ?_, by rw [List.length_set]; exact w.len, fun j k d1 d2 b hjk e1 e2 o1 o2 s1 s2 => ?_⟩
  · rw [upd_ne (fun z => by rw [z, h1] at q; exact nomatch q)]; exact w.ext.fh b u q
  · rw [upd_ne (fun z => by rw [z, h2] at q; exact nomatch q)]; exact w.ext.keep b u nb q
  · rw [upd_ne (hB b hb)]; exact w.ext.box b hb
  · by_cases z : i = j
    · subst z
      rw [List.getElem?_set_self hl] at q; cases q
      exact ⟨.ref p, es, p, o', rfl, h1, h2, upd_same, ow⟩
    · rw [List.getElem?_set_ne z] at q
      obtain ⟨x, e5, r⟩ := w.sl j d q
      refine ⟨x, e5, ?_⟩
      cases d with
      | fr u => exact r
      | ow u =>
        obtain ⟨b, u', rfl, g1, g2, g3, g4⟩ := r
        have nz : b ≠ p := fun y => by subst y; exact w.dist i j _ _ b z e q rfl rfl es e5
        exact ⟨b, u', rfl, g1, g2, by rw [upd_ne nz]; exact g3, g4⟩
      | box =>
        obtain ⟨b, n, rfl, g1, g2, g3⟩ := r
        have nz : b ≠ p := fun y => by subst y; exact w.dist i j _ _ b z e q rfl rfl es e5
        exact ⟨b, n, rfl, g1, g2, by rw [upd_ne nz]; exact g3⟩
  · have back : ∀ {m : Nat} {u : Cell}, (ρ.set i (some (.ow v')))[m]? = some (some u) → owner u = true → ∃ u', ρ[m]? = some (some u') ∧ owner u' = true := fun {m u} q o => by
      by_cases z : i = m
      · subst z; exact ⟨_, e, rfl⟩
      · rw [List.getElem?_set_ne z] at q; exact ⟨u, q, o⟩
    obtain ⟨u1, q1, p1⟩ := back e1 o1
    obtain ⟨u2, q2, p2⟩ := back e2 o2
    exact w.dist j k u1 u2 b hjk q1 q2 p1 p2 s1 s2
/-- x.append(e) -/
def sApp (i : Nat) (f : EW) : SW := fun ρ N _ => ∃ xs, ρ[i]? = some (some (.ow (.lst xs))) ∧ xs.length < 1000000 ∧ f ρ fun v => flat v = true ∧ N (ρ.set i (some (.ow (.lst (xs ++ [v])))))
def sAppH (i : Nat) (f : EW) : SW := fun ρ N _ => ∃ xs, ρ[i]? = some (some (.ow (.lst xs))) ∧ xs.length < 1000000 ∧ f (hide ρ) fun v => N (ρ.set i (some (.ow (.lst (xs ++ [v])))))
theorem line_lt {n : Nat} (h : n < 1000000) : n < sizeLine := Nat.lt_trans h (by decide)
theorem app_core {K : PySem.W.Frag} {B0 : Addr → Prop} {F0 H0 F H : Hp} {σ : L2.St} {ρ : Rho} {Q : VK} (w : Ws K B0 F0 H0 F H σ ρ) {i : Nat} {xs : List PV} {p : Addr} {y : V} {v : PV} (e : ρ[i]? = some (some (.ow (.lst xs)))) (es : σ[i]? = some (some (.ref p))) (r : Rep K F y v) (hl : xs.length < 1000000)
    (q : ∀ H', Ws K B0 F0 H0 F H' σ (ρ.set i (some (.ow (.lst (xs ++ [v]))))) → Q .non H') : rAppend (.ref p) [y] H Q := by
  obtain ⟨x, e1, a, o, rfl, h1, h2, h3, h4⟩ := w.sl i _ e
  rw [es] at e1; cases e1
  cases o with
  | lst us => exact ⟨p, us, y, rfl, rfl, h3, line_lt (by rw [Reps.len h4]; exact hl), q _ (w.write e es (o' := .lst (us ++ [y])) (Reps.snoc h4 r))⟩
  | _ => exact h4.elim
theorem qs_app {i : Nat} (h : PE X e (tE X.K f) → PS X st (tDrop (tBM X.K "list" rAppend (tVar i) (tCons (tE X.K f) tNil)))) (he : PP X e f) : QS X m st (sApp i f) := PS.weak (h he) fun D σ H ⟨B0, F0, H0, F, ρ, N, R, w, ⟨xs, e, hl, p⟩, q, r⟩ => by
  obtain ⟨x, e1, a, o, rfl, h1, h2, h3, h4⟩ := w.sl i _ e
  cases o with
  | lst us => exact ⟨_, e1, .inl ⟨rfl, us, .inl (.inl h3)⟩, _, _, _, _, w.x, p, fun v y F' H' ⟨hf, pv⟩ ex rx => app_core (Q := fun _ H1 => D.nx σ H1) (w.back ex) e e1 (w.flatR ex hf rx) hl fun H2 w2 => q _ _ _ _ pv (w.sc ex) w2⟩
  | _ => exact h4.elim
theorem qs_appH {i : Nat} (h : PE X e (tE X.K f) → PS X st (tDrop (tBM X.K "list" rAppend (tVar i) (tCons (tE X.K f) tNil)))) (he : PP X e f) : QS X m st (sAppH i f) := PS.weak (h he) fun D σ H ⟨B0, F0, H0, F, ρ, N, R, w, ⟨xs, e, hl, p⟩, q, r⟩ => by
  obtain ⟨x, e1, a, o, rfl, h1, h2, h3, h4⟩ := w.sl i _ e
  cases o with
  | lst us => exact ⟨_, e1, .inl ⟨rfl, us, .inl (.inl h3)⟩, _, _, _, _, w.h, p, fun v y F' H' pv ex rx => app_core (Q := fun _ H1 => D.nx σ H1) (w.backH ex) e e1 rx hl fun H2 w2 => q _ _ _ _ pv ex.ff w2⟩
  | _ => exact h4.elim
/-- x[i] = e, x a list -/
def sPutL (i : Nat) (fi f : EW) : SW := fun ρ N _ => ∃ xs, ρ[i]? = some (some (.ow (.lst xs))) ∧ f ρ fun v => flat v = true ∧ fi ρ fun u => ∃ n j, u = .int n ∧ ixN xs.length n = some j ∧ N (ρ.set i (some (.ow (.lst (xs.set j v)))))
theorem Reps.set {K : PySem.W.Frag} {F : Hp} {x : V} {d : PV} (r : Rep K F x d) : ∀ {xs : List V} {ds : List PV} (j : Nat), Reps K F xs ds → Reps K F (xs.set j x) (ds.set j d)
  | [], [], _, h => h
  | _ :: _, _ :: _, 0, h => by rw [Reps] at h; exact Reps.cons r h.2
  | _ :: _, _ :: _, j + 1, h => by rw [Reps] at h; exact Reps.cons h.1 (Reps.set r j h.2)
  | [], _ :: _, _, h => by rw [Reps] at h; exact h.elim
  | _ :: _, [], _, h => by rw [Reps] at h; exact h.elim
theorem qs_putL {i : Nat} {fi : EW} (h : PE X e (tE X.K f) → PE X a (tE X.K fi) → PS X st (tAsg (tE X.K f) (gSub (tVar i) (tE X.K fi) rSetL))) (he : PP X e f) (hi : PP X a fi) : QS X m st (sPutL i fi f) := PS.weak (h he hi) fun D σ H ⟨B0, F0, H0, F, ρ, N, R, w, ⟨xs, e, p⟩, q, r⟩ =>
  ⟨_, _, _, _, w.x, p, fun v x F1 H1 ⟨hf, p1⟩ ex rx => by
    have w1 := w.back ex
    have rv := w.flatR ex hf rx
    obtain ⟨y, ey, _⟩ := w.sl i _ e
    refine ⟨y, ey, _, _, _, _, w1.x, p1, fun u z F2 H2 ⟨n, j, eu, hj, pv⟩ ex2 rz => ?_⟩
    subst eu; rw [Rep] at rz
    have w2 := w1.back ex2
    obtain ⟨y', e1, b, o, rfl, h1, h2, h3, h4⟩ := w2.sl i _ e
    rw [ey] at e1; cases e1
    cases o with
    | lst us =>
      refine ⟨b, us, n, j, rfl, rz, h3, by rw [Reps.len h4]; exact hj, ?_⟩
      exact q _ _ _ _ pv ((w.sc ex).trans (w1.sc ex2)) (w2.write e ey (o' := .lst (us.set j x)) (Reps.set (w1.flatR ex2 hf ((Rep.mono w1.sameP v rv).mono ex2.ff v)) j h4))
    | _ => exact h4.elim⟩
end
end KV

namespace KV
open PySem PySem.Spec PyProof.Rows L2 KGX
section
variable {m : Bool} {X : Cx} {e a b c : Expr} {st : Stmt} {sts rest : List Stmt} {pos : Pos} {f g h : EW} {s1 s2 : SW} {tw : TW} {K : PySem.W.Frag} {F : Hp}
/-! d[k] = e, d a dict -/
def putD (kvs : List (PV × PV)) (kp : PV) (k : NestedKey) (v : PV) : List (PV × PV) := if (lookD kvs k).isSome = true then kvs.map (fun kv => if keyOf kv.1 = some k then (kv.1, v) else kv) else kvs ++ [(kp, v)]
theorem RepX.isome {k : NestedKey} : ∀ {xs : List Ent} {ds : List (PV × PV)}, RepX K F xs ds → (atKey xs k).isSome = (lookD ds k).isSome := fun {xs ds} h => by
  cases hd : lookD ds k with
  | none => rw [(h.look (k := k)).2 hd]; rfl
  | some d =>
    obtain ⟨p, x, e, _⟩ := (h.look (k := k)).1 d hd
    rw [e]; rfl
theorem RepX.map {k : NestedKey} {x : V} {u : Value} {d : PV} (ru : RelV x u) (r : Rep K F x d) : ∀ {xs : List Ent} {ds : List (PV × PV)}, RepX K F xs ds → RepX K F (xs.map (putAt k u)) (ds.map fun kv => if keyOf kv.1 = some k then (kv.1, d) else kv)
  | [], [], h => h
  | e :: xs, (k2, w) :: ds, h => by
    rw [RepX] at h
    obtain ⟨⟨h1, h2, y, h3, h4⟩, t⟩ := h
    rw [List.map_cons, List.map_cons]
    by_cases z : e.1 = k
    · have e1 : putAt k u e = (e.1, e.2.1, u) := by unfold putAt; rw [if_pos z]
      have e2 : (if keyOf k2 = some k then (k2, d) else (k2, w)) = (k2, d) := by rw [if_pos (by rw [h1, z])]
      rw [e1]; simp only [e2]; rw [RepX]; exact ⟨⟨h1, h2, x, ru, r⟩, RepX.map ru r t⟩
    · have e1 : putAt k u e = e := by unfold putAt; rw [if_neg z]
      have e2 : (if keyOf k2 = some k then (k2, d) else (k2, w)) = (k2, w) := by rw [if_neg (by rw [h1]; exact fun q => z (Option.some.inj q))]
      rw [e1]; simp only [e2]; rw [RepX]; exact ⟨⟨h1, h2, y, h3, h4⟩, RepX.map ru r t⟩
  | [], _ :: _, h => by rw [RepX] at h; exact h.elim
  | _ :: _, [], h => by rw [RepX] at h; exact h.elim
theorem RepX.snoc {e : Ent} {kp d : PV} {x : V} (hk : keyOf kp = some e.1) (rk : Rep K F (.ref e.2.1) kp) (ru : RelV x e.2.2) (r : Rep K F x d) : ∀ {xs : List Ent} {ds : List (PV × PV)}, RepX K F xs ds → RepX K F (xs ++ [e]) (ds ++ [(kp, d)])
  | [], [], h => by show RepX K F [_] [_]; rw [RepX]; exact ⟨⟨hk, rk, x, ru, r⟩, h⟩
  | e1 :: xs, (k2, w) :: ds, h => by
    rw [RepX] at h
    show RepX K F (e1 :: _) ((k2, w) :: _)
    rw [RepX]; exact ⟨h.1, RepX.snoc hk rk ru r h.2⟩
  | [], _ :: _, h => by rw [RepX] at h; exact h.elim
  | _ :: _, [], h => by rw [RepX] at h; exact h.elim
theorem RepX.put {k : NestedKey} {b : Addr} {kp d : PV} {x : V} {u : Value} (hk : keyOf kp = some k) (rk : Rep K F (.ref b) kp) (ru : RelV x u) (r : Rep K F x d) {xs : List Ent} {ds : List (PV × PV)} (h : RepX K F xs ds) : RepX K F (storedH xs k b u) (putD ds kp k d) := by
  unfold storedH putD
  rw [h.isome]
  split
  · exact h.map ru r
  · exact h.snoc (e := (k, b, u)) hk rk ru r
theorem lookD_none {kvs : List (PV × PV)} {k : NestedKey} (h : lookD kvs k = none) : some k ∉ kvs.map fun kv => keyOf kv.1 := fun z => by
  obtain ⟨kv, hm, he⟩ := List.mem_map.mp z
  unfold lookD at h
  rw [Option.map_eq_none_iff, List.find?_eq_none] at h
  exact h kv hm (decide_eq_true he)
theorem DOk.put {p : Addr} {kvs : List (PV × PV)} {kp v : PV} {k : NestedKey} (h : DOk p kvs) (hk : keyOf kp = some k) (hl : kvs.length < 1000000) : DOk p (putD kvs kp k v) := by
  obtain ⟨h1, h2, h3⟩ := h
  unfold putD
  split
  · refine ⟨h1, by rw [List.length_map]; exact h2, ?_⟩
    have e : (kvs.map fun kv => if keyOf kv.1 = some k then (kv.1, v) else kv).map (fun kv => keyOf kv.1) = kvs.map fun kv => keyOf kv.1 := by
      rw [List.map_map]
      refine List.map_congr_left fun kv _ => ?_
      show keyOf (if keyOf kv.1 = some k then (kv.1, v) else kv).1 = keyOf kv.1
      split <;> rfl
    rw [e]; exact h3
  · rename_i hn
    have hn' : lookD kvs k = none := by
      cases e : lookD kvs k with
      | none => rfl
      | some d => rw [e] at hn; exact (hn rfl).elim
    refine ⟨h1, by rw [List.length_append]; show kvs.length + 1 ≤ _; omega, ?_⟩
    rw [List.map_append, List.nodup_append]
    refine ⟨h3, by simp, fun x hx y hy e => ?_⟩
    have hy' : y = some k := by simpa [hk] using hy
    subst e hy'
    exact lookD_none hn' hx
/-- the value reads what is owned: it is flat -/
def sPutD (i : Nat) (fi f : EW) : SW := fun ρ N _ => ∃ kvs, ρ[i]? = some (some (.ow (.dic kvs))) ∧ f ρ fun v => flat v = true ∧ fi ρ fun u => ∃ ks, keyOf u = some ks ∧ kvs.length < 1000000 ∧ N (ρ.set i (some (.ow (.dic (putD kvs u ks v)))))
/-- .. it does not -/
def sPutDH (i : Nat) (fi f : EW) : SW := fun ρ N _ => ∃ kvs, ρ[i]? = some (some (.ow (.dic kvs))) ∧ f (hide ρ) fun v => fi ρ fun u => ∃ ks, keyOf u = some ks ∧ kvs.length < 1000000 ∧ N (ρ.set i (some (.ow (.dic (putD kvs u ks v)))))
theorem put_key {B0 : Addr → Prop} {F0 H0 F1 H1 : Hp} {σ : L2.St} {ρ : Rho} {N : Rho → Prop} {Q : Hp → Prop} {i : Nat} {kvs : List (PV × PV)} {fi : EW} {x : V} {v : PV} (w1 : Ws K B0 F0 H0 F1 H1 σ ρ) (e : ρ[i]? = some (some (.ow (.dic kvs)))) (rv : Rep K F1 x v)
    (p1 : fi ρ fun u => ∃ ks, keyOf u = some ks ∧ kvs.length < 1000000 ∧ N (ρ.set i (some (.ow (.dic (putD kvs u ks v)))))) (q : ∀ ρ' F' H', N ρ' → Same F1 F' → Ws K B0 F0 H0 F' H' σ ρ' → Q H') :
    ∃ y, σ[i]? = some (some y) ∧ tE K fi σ H1 fun z H3 => ∃ a b xs k, y = .ref a ∧ z = .ref b ∧ MD H3 a xs ∧ KeyAt H3 k b ∧ ∀ u ep, RelV x u → Q (upd H3 a (.ext (RawD a (storedH xs k b u) ep))) := by
  obtain ⟨y, ey, a0, o0, rfl, _⟩ := w1.sl i _ e
  refine ⟨_, ey, _, _, _, _, w1.x, p1, fun u z F2 H2 ⟨ks, hk, hl, pv⟩ ex2 rz => ?_⟩
  have w2 := w1.back ex2
  obtain ⟨y', e1, b, o, rfl, h1, h2, h3, h4⟩ := w2.sl i _ e
  rw [ey] at e1; cases e1
  have fz : flat u = true := by
    obtain ⟨hn, _⟩ := keyOf_nk hk
    exact flat_nk u hn
  have rz2 := w1.flatR ex2 fz rz
  obtain ⟨c, rfl, ka⟩ := rz2.key w2.ext.fh hk
  cases o with
  | ext φ =>
    cases v with
    | _ =>
      obtain ⟨xs, ep0, rfl, dk, rx⟩ := h4
      refine ⟨_, c, xs, ks, rfl, rfl, rx.md w2.ext.fh dk h3, ka, fun u' ep ru => ?_⟩
      exact q _ _ _ pv (w1.sc ex2) (w2.write e ey (o' := .ext (RawD _ (storedH xs ks c u') ep)) ⟨_, ep, rfl, dk.put hk hl, rx.put hk rz2 ru (Rep.mono (w1.sc ex2) _ rv)⟩)
  | _ => exact h4.elim
theorem qs_putD {i : Nat} {fi : EW} (h : PE X e (tE X.K f) → PE X a (tE X.K fi) → PS X st (sPutM (tVar i) (tE X.K fi) (tE X.K f))) (he : PP X e f) (hi : PP X a fi) : QS X m st (sPutD i fi f) := PS.weak (h he hi) fun D σ H ⟨B0, F0, H0, F, ρ, N, R, w, ⟨kvs, e, p⟩, q, r⟩ =>
  ⟨_, _, _, _, w.x, p, fun v x F1 H1 ⟨hf, p1⟩ ex rx => put_key (Q := fun H => D.nx σ H) (w.back ex) e (w.flatR ex hf rx) p1 fun ρ' F' H' pn sf ws => q _ _ _ _ pn ((w.sc ex).trans sf) ws⟩
theorem qs_putDH {i : Nat} {fi : EW} (h : PE X e (tE X.K f) → PE X a (tE X.K fi) → PS X st (sPutM (tVar i) (tE X.K fi) (tE X.K f))) (he : PP X e f) (hi : PP X a fi) : QS X m st (sPutDH i fi f) := PS.weak (h he hi) fun D σ H ⟨B0, F0, H0, F, ρ, N, R, w, ⟨kvs, e, p⟩, q, r⟩ =>
  ⟨_, _, _, _, w.h, p, fun v x F1 H1 p1 ex rx => put_key (Q := fun H => D.nx σ H) (w.backH ex) e rx p1 fun ρ' F' H' pn sf ws => q _ _ _ _ pn (ex.ff.trans sf) ws⟩
/-! x += e, of ints -/
def oIp (C : Int → Int → Prop) (g : Int → Int → Int) : TIp := fun x y H Q => ∃ i j, x = .int i ∧ y = .int j ∧ C i j ∧ Q (.int (g i j)) H
def sAug (i : Nat) (C : Int → Int → Prop) (g : Int → Int → Int) (f : EW) : SW := fun ρ N _ => match ρ[i]? with
  | some (some (.fr (.int m))) => f ρ (onI fun j => C m j ∧ N (ρ.set i (some (.fr (.int (g m j))))))
  | _ => False
theorem qs_aug {i : Nat} {C : Int → Int → Prop} {g : Int → Int → Int} {ti : TIp} (ht : ∀ x y H Q, oIp C g x y H Q → ti x y H Q) (h : PE X e (tE X.K f) → PS X st (tAug i (tE X.K f) ti)) (he : PP X e f) : QS X m st (sAug i C g f) := PS.weak (h he) fun D σ H ⟨B0, F0, H0, F, ρ, N, R, w, hp, q, r⟩ => by
  unfold sAug at hp
  split at hp
  case h_2 => exact hp.elim
  rename_i m e
  have p := hp
  obtain ⟨x, e1, rx⟩ := w.sl i _ e
  have rx : Rep X.K F x (.int m) := rx
  rw [Rep] at rx; subst rx
  refine ⟨_, e1, _, _, _, _, w.x, p, fun v y F' H' hv ex ry => ?_⟩
  obtain ⟨j, ev, hc, pv⟩ := onI_ex hv
  subst ev; rw [Rep] at ry; subst ry
  exact ht _ _ _ _ ⟨m, j, rfl, rfl, hc, q _ _ _ _ pv (w.sc ex) ((w.back ex).set i (by rw [Rep]))⟩
/-! ### targets -/
/-- a target: what the value does to the slots -/
abbrev GW := PV → Rho → (Rho → Prop) → Prop
/-- a target that lays nothing -/
def GV (K : PySem.W.Frag) (g : TG) (gw : GW) : Prop := ∀ (x : V) (v : PV) (B0 : Addr → Prop) (F0 H0 F H : Hp) (σ : L2.St) (ρ : Rho) (N : Rho → Prop) (Q : L2.St → Hp → Prop), Ws K B0 F0 H0 F H σ ρ → Rep K F x v → gw v ρ N →
  (∀ ρ' σ', N ρ' → Ws K B0 F0 H0 F H σ' ρ' → Q σ' H) → g x σ H Q
def gwName (i : Nat) : GW := fun v ρ N => N (ρ.set i (some (.fr v)))
theorem gv_name {i : Nat} : GV K (gName i) (gwName i) := fun x v B0 F0 H0 F H σ ρ N Q w r p q => q _ _ p (w.set i r)
def gwNil : List PV → Rho → (Rho → Prop) → Prop := fun vs ρ N => match vs with
  | [] => N ρ
  | _ => False
def gwCons (g : GW) (gs : List PV → Rho → (Rho → Prop) → Prop) : List PV → Rho → (Rho → Prop) → Prop := fun vs ρ N => match vs with
  | v :: r => g v ρ fun ρ' => gs r ρ' N
  | [] => False
def GVs (K : PySem.W.Frag) (g : TGs) (gw : List PV → Rho → (Rho → Prop) → Prop) : Prop := ∀ (xs : List V) (vs : List PV) (B0 : Addr → Prop) (F0 H0 F H : Hp) (σ : L2.St) (ρ : Rho) (N : Rho → Prop) (Q : L2.St → Hp → Prop), Ws K B0 F0 H0 F H σ ρ → Reps K F xs vs → gw vs ρ N →
  (∀ ρ' σ', N ρ' → Ws K B0 F0 H0 F H σ' ρ' → Q σ' H) → g xs σ H Q
theorem gvs_nil : GVs K gNil gwNil := fun xs vs B0 F0 H0 F H σ ρ N Q w r p q => by
  match vs, xs, r, p with
  | [], [], _, p => exact ⟨rfl, q _ _ p w⟩
  | [], _ :: _, r, _ => rw [Reps] at r; exact r.elim
  | _ :: _, _, _, p => exact p.elim
theorem gvs_cons {g : TG} {gw : GW} {gs : TGs} {gws : List PV → Rho → (Rho → Prop) → Prop} (h1 : GV K g gw) (h2 : GVs K gs gws) : GVs K (gCons g gs) (gwCons gw gws) := fun xs vs B0 F0 H0 F H σ ρ N Q w r p q => by
  match vs, xs, r, p with
  | [], _, _, p => exact p.elim
  | _ :: _, [], r, _ => rw [Reps] at r; exact r.elim
  | v :: r', x :: xs, r, p =>
    rw [Reps] at r
    exact ⟨x, xs, rfl, h1 x v B0 F0 H0 F H σ ρ _ _ w r.1 p fun ρ' σ' p' w' => h2 xs r' B0 F0 H0 F H σ' ρ' N Q w' r.2 p' q⟩
def tupOf : PV → Option (List PV)
  | .tup xs => some xs
  | .cst xs => some xs
  | _ => none
def gwTup (n : Nat) (gs : List PV → Rho → (Rho → Prop) → Prop) : GW := fun v ρ N => match tupOf v with
  | some xs => xs.length = n ∧ gs xs ρ N
  | none => False
theorem Rep.tup {F H : Hp} {x : V} {v : PV} {ds : List PV} (s : Same F H) (h : Rep K F x v) (e : tupOf v = some ds) : ∃ a xs, x = .ref a ∧ SqT K H a xs ∧ Reps K F xs ds := by
  cases v with
  | tup xs => cases e; rw [Rep] at h; obtain ⟨a, us, e, q, r⟩ := h; exact ⟨a, us, e, q.sq s, r⟩
  | cst xs => cases e; rw [Rep] at h; obtain ⟨a, us, e, q, r⟩ := h; exact ⟨a, us, e, q.elim (fun z => .inl (Rd.mono s z)) .inr, r⟩
  | _ => exact nomatch e
theorem gv_tup {n : Nat} {gs : TGs} {gws : List PV → Rho → (Rho → Prop) → Prop} (h : GVs K gs gws) : GV K (gTup K n gs) (gwTup n gws) := fun x v B0 F0 H0 F H σ ρ N Q w r hp q => by
  unfold gwTup at hp
  split at hp
  case h_2 => exact hp.elim
  rename_i ds e
  obtain ⟨hl, p⟩ := hp
  obtain ⟨a, xs, rfl, sq, rs⟩ := r.tup w.ext.fh e
  exact ⟨a, xs, rfl, sq, by rw [rs.len]; exact hl, h xs ds B0 F0 H0 F H σ ρ N Q w rs p q⟩
/-- (x, y) = e -/
def sAsgT (gw : GW) (f : EW) : SW := fun ρ N _ => f (hide ρ) fun v => gw v ρ N
theorem qs_asgT {g : TG} {gw : GW} (hg : GV X.K g gw) (h : PE X e (tE X.K f) → PS X st (tAsg (tE X.K f) g)) (he : PP X e f) : QS X m st (sAsgT gw f) := PS.weak (h he) fun D σ H ⟨B0, F0, H0, F, ρ, N, R, w, p, q, r⟩ =>
  ⟨_, _, _, _, w.h, p, fun v x F' H' pv ex rx => hg x v _ _ _ _ _ _ _ N _ (w.backH ex) rx pv fun ρ' σ' p' w' => q _ _ _ _ p' ex.ff w'⟩
end
end KV

namespace KV
open PySem PySem.Spec PyProof.Rows L2 KGX
/-! ### what is walked -/
def YV (K : PySem.W.Frag) (F H H' : Hp) (x : V) (d : PV) : Prop :=
  (H' = H ∧ Rep K F x d) ∨ ∃ T xs ds, x = .ref T ∧ H T = none ∧ H' = upd H T (.tup xs) ∧ d = .cst ds ∧ Reps K F xs ds
structure ItV (K : PySem.W.Frag) (J : It) (F : Hp) (ds : List PV) : Prop where
  goes : ∀ i H, Same F H → i < ds.length → J.go i H
  stops : ∀ H, Same F H → J.stop ds.length H
  yields : ∀ i H x H', Same F H → i < ds.length → J.yld i H x H' → ∃ d, ds[i]? = some d ∧ YV K F H H' x d
def tI (K : PySem.W.Frag) (fi : AW) : TI := fun σ H R => ∃ B F ρ P, Wx K B F H σ ρ ∧ fi ρ P ∧ ∀ ds J F' H', P ds → Ext B F H F' H' → ItV K J F' ds → R J H'
def QI (X : Cx) (tg iter : Expr) (fi : AW) : Prop := PI X tg iter (tI X.K fi)
theorem PI.weak {X : Cx} {tg iter : Expr} {t t' : TI} (h : PI X tg iter t) (w : ∀ σ H R, t' σ H R → t σ H R) : PI X tg iter t' := ⟨fun pins s σ H R I q => h.run pins s σ H R I (w σ H R q)⟩
section
variable {m : Bool} {X : Cx} {tg l : Expr} {f : EW} {K : PySem.W.Frag} {F : Hp}
theorem itv_list {a : Addr} {xs : List V} {ds : List PV} (h : ∀ H, Same F H → SqL K H a xs) (r : Reps K F xs ds) : ItV K (Itl K a) F ds := by
  have hl := r.len
  refine ⟨fun i H s hi => ⟨xs, xs[i]'(by omega), h H s, List.getElem?_eq_getElem _⟩, fun H s => ⟨xs, h H s, by omega⟩, fun i H x H' s hi ⟨e, y⟩ => ?_⟩
  obtain ⟨d, e1, r1⟩ := r.to (y xs (h H s))
  exact ⟨d, e1, .inl ⟨e, r1⟩⟩
theorem itv_tup {a : Addr} {xs : List V} {ds : List PV} (h : ∀ H, Same F H → SqT K H a xs) (r : Reps K F xs ds) : ItV K (Itt K a) F ds := by
  have hl := r.len
  refine ⟨fun i H s hi => ⟨xs, xs[i]'(by omega), h H s, List.getElem?_eq_getElem _⟩, fun H s => ⟨xs, h H s, by omega⟩, fun i H x H' s hi ⟨e, y⟩ => ?_⟩
  obtain ⟨d, e1, r1⟩ := r.to (y xs (h H s))
  exact ⟨d, e1, .inl ⟨e, r1⟩⟩
theorem RepX.at : ∀ {xs : List Ent} {ds : List (PV × PV)} {i : Nat} {kv : PV × PV}, RepX K F xs ds → ds[i]? = some kv → ∃ e y, xs[i]? = some e ∧ Rep K F (.ref e.2.1) kv.1 ∧ RelV y e.2.2 ∧ Rep K F y kv.2
  | [], [], _, _, _, e => by simp at e
  | x :: xs, (k, d) :: ds, 0, _, h, e => by rw [RepX] at h; simp at e; subst e; obtain ⟨⟨_, h2, y, h3, h4⟩, _⟩ := h; exact ⟨x, y, rfl, h2, h3, h4⟩
  | x :: xs, (k, d) :: ds, i + 1, _, h, e => by
    rw [RepX] at h
    obtain ⟨x', y, e1, r⟩ := RepX.at (i := i) h.2 (by simpa using e)
    exact ⟨x', y, by simpa using e1, r⟩
  | [], _ :: _, _, _, h, _ => by rw [RepX] at h; exact h.elim
  | _ :: _, [], _, _, h, _ => by rw [RepX] at h; exact h.elim
theorem itv_keys {a : Addr} {xs : List Ent} {ep : Nat} {ds : List (PV × PV)} (h : F a = some (.ext (RawD a xs ep))) (hs : (a == sysModules) = false) (r : RepX K F xs ds) : ItV K (ItmK a xs ep) F (ds.map (·.1)) := by
  have hl := r.len
  have mr : ∀ H, Same F H → MR H a xs ep := fun H s => ⟨s _ _ h, hs⟩
  refine ⟨fun i H s hi => ⟨mr H s, by rw [List.length_map] at hi; omega⟩, fun H s => ⟨mr H s, by rw [List.length_map]; omega⟩, fun i H x H' s hi ⟨e, en, he, ex⟩ => ?_⟩
  rw [List.length_map] at hi
  obtain ⟨en', y, he', r1, _⟩ := r.at (List.getElem?_eq_getElem hi)
  rw [he] at he'; cases he'
  exact ⟨_, by rw [List.getElem?_map, List.getElem?_eq_getElem hi]; rfl, .inl ⟨e, by rw [ex]; exact r1⟩⟩
def keyP : Key → PV
  | .inl i => .int i
  | .inr x => .str x
theorem RepK.at {F : Hp} : ∀ {xs : List (Key × V)} {ds : List (Key × PV)} {i : Nat} {k : Key} {v : V}, RepK K F xs ds → xs[i]? = some (k, v) → ∃ d, ds[i]? = some (k, d)
  | (k', x) :: xs, (k'', d) :: ds, 0, k, v, h, e => by
    rw [RepK] at h
    cases e
    exact ⟨d, by rw [h.1]; rfl⟩
  | (k', x) :: xs, (k'', d) :: ds, i + 1, k, v, h, e => by
    rw [RepK] at h
    exact RepK.at (i := i) h.2.2 e
  | [], [], _, _, _, _, e => by simp at e
  | [], _ :: _, _, _, _, h, _ => by rw [RepK] at h; exact h.elim
  | _ :: _, [], _, _, _, h, _ => by rw [RepK] at h; exact h.elim
theorem RepK.len {F : Hp} : ∀ {xs : List (Key × V)} {ds : List (Key × PV)}, RepK K F xs ds → xs.length = ds.length
  | [], [], _ => rfl
  | (k, x) :: xs, (k', d) :: ds, h => by
    rw [RepK] at h
    rw [List.length_cons, List.length_cons, RepK.len h.2.2]
  | [], _ :: _, h => by rw [RepK] at h; exact h.elim
  | _ :: _, [], h => by rw [RepK] at h; exact h.elim
theorem itv_dks {a : Addr} {o : Obj} {xs : List (Key × V)} {ds : List (Key × PV)} (h : F a = some (.frz o (.dK xs))) (r : RepK K F xs ds) : ItV K (Itk a o xs) F (ds.map fun p => keyP p.1) := by
  have hl := r.len
  refine ⟨fun i H s hi => ⟨s _ _ h, by rw [List.length_map] at hi; omega⟩, fun H s => ⟨s _ _ h, by rw [List.length_map]; omega⟩, fun i H x H' s hi ⟨e, k, v, he, ex⟩ => ?_⟩
  obtain ⟨d, hd⟩ := r.at he
  refine ⟨keyP k, by rw [List.getElem?_map, hd]; rfl, .inl ⟨e, ?_⟩⟩
  rw [ex]
  cases k
  · show Rep K F (.int _) (.int _); rw [Rep]
  · show Rep K F (.str _) (.str _); rw [Rep]
theorem itv_vals {a : Addr} {xs : List Ent} {ep : Nat} {ds : List (PV × PV)} (h : F a = some (.ext (RawD a xs ep))) (hs : (a == sysModules) = false) (r : RepX K F xs ds) : ItV K (ItmV a xs ep) F (ds.map (·.2)) := by
  have hl := r.len
  have mr : ∀ H, Same F H → MR H a xs ep := fun H s => ⟨s _ _ h, hs⟩
  refine ⟨fun i H s hi => ⟨mr H s, ?_⟩, fun H s => ⟨mr H s, by rw [List.length_map]; omega⟩, fun i H x H' s hi ⟨e, en, he, rx⟩ => ?_⟩
  · rw [List.length_map] at hi
    obtain ⟨en', y, he', _, ry, _⟩ := r.at (List.getElem?_eq_getElem hi)
    exact ⟨en', y, he', ry⟩
  · rw [List.length_map] at hi
    obtain ⟨en', y, he', _, ry, r1⟩ := r.at (List.getElem?_eq_getElem hi)
    rw [he] at he'; cases he'
    have := RelV.inj rx ry
    subst this
    exact ⟨_, by rw [List.getElem?_map, List.getElem?_eq_getElem hi]; rfl, .inl ⟨e, r1⟩⟩
/-- list, tuple, the script, a dict -/
def iSeq (K : PySem.W.Frag) (tl : TE) : TI := fun σ H R => tl σ H fun x H1 => ∃ a, x = .ref a ∧ ((∃ xs, SqL K H1 a xs ∧ R (Itl K a) H1) ∨ (∃ xs, SqT K H1 a xs ∧ R (Itt K a) H1) ∨ (∃ xs ep, MR H1 a xs ep ∧ R (ItmK a xs ep) H1) ∨ ∃ o kvs, H1 a = some (.frz o (.dK kvs)) ∧ R (Itk a o kvs) H1)
theorem pi_seq {tl : TE} (hl : PE X l tl) : PI X tg l (iSeq X.K tl) := by
  refine ⟨fun pins s σ H R I h => ?_⟩
  refine thn (hl.run pins s σ H _ I h) fun v s1 ⟨x, H1, I1, r1, q1⟩ => ?_
  obtain ⟨a, e, ⟨xs, hq, q⟩ | ⟨xs, hq, q⟩ | ⟨xs, ep, d, q⟩ | ⟨o, kvs, hd, q⟩⟩ := q1
  · subst e
    cases r1
    obtain ⟨its, rv, p, hz⟩ := I1.list hq
    refine wpAny_pyIter_list p.isList ?_
    refine ⟨s1.heap.objs.size, [s1.heap.objs.size], _, _, H1, rfl, I1.kept (t' := s1.toks) fun b o e => Heap.get?_push_of_some _ e, turn_list a _, ⟨_, Heap.get?_push_size _ rfl, rfl, rfl⟩, fun b hb => ?_, q⟩
    have e : b = s1.heap.objs.size := by simpa using hb
    subst e
    exact I1.fpOk (Nat.le_refl _) (I1.hok.fresh (Nat.le_refl _))
  · subst e
    cases r1
    obtain ⟨its, rv, p, hz⟩ := I1.tuple hq
    refine wpAny_pyIter_tuple (show s1.heap.IsTuple a its.toArray from p) ?_
    refine ⟨s1.heap.objs.size, [s1.heap.objs.size], _, _, H1, rfl, I1.kept (t' := s1.toks) fun b o e => Heap.get?_push_of_some _ e, turn_tuple a _, ⟨_, Heap.get?_push_size _ rfl, rfl, rfl⟩, fun b hb => ?_, q⟩
    have e : b = s1.heap.objs.size := by simpa using hb
    subst e
    exact I1.fpOk (Nat.le_refl _) (I1.hok.fresh (Nat.le_refl _))
  · subst e
    cases r1
    obtain ⟨es, dr, hl, ent⟩ := d.raw I1
    refine wpAny_pyIter_dict_raw d.2 dr (pi_one (tk := s1.toks) I1 _ (turn_mk a _ xs ep) ⟨_, Heap.get?_push_size _ rfl, rfl, ?_⟩ q)
    rw [hl] <;> rfl
  · subst e
    cases r1
    obtain ⟨hs, hgd, hx, es, ep, vs, hdt, hsz, kv, hm⟩ := I1.frzK hd
    refine iter_keys hs hgd hx hdt (pi_one (tk := s1.toks) I1 _ (turn_keys _ hdt) ⟨_, Heap.get?_push_size _ rfl, rfl, ?_⟩ q)
    rw [hsz] <;> rfl
/-- what is walked -/
def onW (k : List PV → Prop) (v : PV) : Prop := match v with
  | .dic kvs => k (kvs.map (·.1))
  | .dks kvs => k (kvs.map fun p => keyP p.1)
  | v => onS k v
def wSeq (f : EW) : AW := fun ρ k => f ρ (onW k)
theorem qi_seq (h : PP X l f) : QI X tg l (wSeq f) := PI.weak (pi_seq h) fun σ H R ⟨B, F, ρ, P, w, p, q⟩ =>
  ⟨B, F, ρ, _, w, p, fun v x F1 H1 hv ex rx => by
    unfold onW at hv
    split at hv
    · rename_i kvs
      obtain ⟨a, xs, ep, rfl, e, _, dk, r⟩ := rx.dic (fun _ _ z => z : Same F1 F1)
      exact ⟨a, rfl, .inr (.inr (.inl ⟨xs, ep, ⟨ex.fh _ _ e, dk.1⟩, q _ _ F1 H1 hv ex (itv_keys e dk.1 r)⟩))⟩
    · rename_i kvs
      rw [Rep] at rx
      obtain ⟨a, o, xs, rfl, e, r⟩ := rx
      exact ⟨a, rfl, .inr (.inr (.inr ⟨o, xs, ex.fh _ _ e, q _ _ F1 H1 hv ex (itv_dks e r)⟩))⟩
    · obtain ⟨ds, e, pv⟩ := onS_ex hv
      obtain ⟨a, xs, rfl, sq, r⟩ := rx.seq (fun _ _ z => z : Same F1 F1) e
      rcases sq with sq | sq
      · have hs : ∀ H, Same F1 H → SqL X.K H a xs := fun H s => sq.elim (fun z => .inl (Rd.mono s z)) .inr
        exact ⟨a, rfl, .inl ⟨xs, hs H1 ex.fh, q ds _ F1 H1 pv ex (itv_list hs r)⟩⟩
      · have hs : ∀ H, Same F1 H → SqT X.K H a xs := fun H s => sq.elim (fun z => .inl (Rd.mono s z)) .inr
        exact ⟨a, rfl, .inr (.inl ⟨xs, hs H1 ex.fh, q ds _ F1 H1 pv ex (itv_tup hs r)⟩)⟩⟩
/-- d.values() -/
def wVals (f : EW) : AW := fun ρ k => f ρ fun v => match v with
  | .dic kvs => k (kvs.map (·.2))
  | _ => False
theorem qi_vals {apos cpos : Pos} (h : PP X l f) (hbase : attributeBase l "values" X.env (eval l X.env) = eval l X.env := by rfl) (hline : (apos.endLine == cpos.line) = true := by rfl) : QI X tg (.Call (.Attribute l "values" apos) [] [] cpos) (wVals f) := PI.weak (pi_mv h hbase hline) fun σ H R ⟨B, F, ρ, P, w, p, q⟩ =>
  ⟨B, F, ρ, _, w, p, fun v x F1 H1 hv ex rx => by
    split at hv
    case h_2 => exact hv.elim
    obtain ⟨a, xs, ep, rfl, e, _, dk, r⟩ := rx.dic (fun _ _ z => z : Same F1 F1)
    exact ⟨a, xs, ep, rfl, ⟨ex.fh _ _ e, dk.1⟩, q _ _ F1 H1 hv ex (itv_vals e dk.1 r)⟩⟩
/-- lo, lo + 1, .. -/
def rgI (lo : Int) (n : Nat) : List Int := (List.range n).map fun i : Nat => lo + (i : Int)
theorem rgI_len {lo : Int} {n : Nat} : (rgI lo n).length = n := by unfold rgI; rw [List.length_map, List.length_range]
theorem rgI_at {lo : Int} {n i : Nat} (h : i < n) : (rgI lo n)[i]? = some (lo + (i : Int)) := by unfold rgI; rw [List.getElem?_map, List.getElem?_range h]; rfl
theorem itv_rng {lo : Int} {n : Nat} : ItV K (Itr lo n) F ((rgI lo n).map .int) := by
  have hl : ((rgI lo n).map PV.int).length = n := by rw [List.length_map, rgI_len]
  refine ⟨fun i H s hi => by rw [hl] at hi; exact hi, fun H s => by rw [hl]; exact Nat.le_refl _, fun i H x H' s hi ⟨e, y⟩ => ?_⟩
  rw [hl] at hi
  exact ⟨.int (lo + i), by rw [List.getElem?_map, rgI_at hi]; rfl, .inl ⟨e, by rw [y, Rep]⟩⟩
def small62 (j : Int) : Prop := -(2 ^ 62) ≤ j ∧ j < 2 ^ 62
def wRng1 (f : EW) : AW := fun ρ k => f ρ (onI fun j => small62 j ∧ k ((rgI 0 j.toNat).map .int))
def wRng2 (f g : EW) : AW := fun ρ k => f ρ (onI fun i => g ρ (onI fun j => (small62 i ∧ small62 j) ∧ k ((rgI i (j - i).toNat).map .int)))
theorem qi_rng1 {p pos : Pos} {a : Expr} (hg : Gl X "range") (hm : X.mg "range" = none) (ha : PP X a f) (hs : starEach [a] X.env = [(false, eval a X.env)] := by rfl) : QI X tg (.Call (.Name "range" p) [a] [] pos) (wRng1 f) :=
  PI.weak (pi_range1 hg hm (pa_cons ha pa_nil hs) hs) fun σ H R ⟨B, F, ρ, P, w, p, q⟩ =>
  ⟨B, F, ρ, _, w, p, fun v x F1 H1 hv ex rx => by
    obtain ⟨j, ev, hj, pv⟩ := onI_ex hv
    subst ev; rw [Rep] at rx; subst rx
    exact ⟨j, rfl, hj.1, hj.2, q _ _ F1 H1 pv ex itv_rng⟩⟩
theorem qi_rng2 {p pos : Pos} {a b : Expr} {g : EW} (hg : Gl X "range") (hm : X.mg "range" = none) (ha : PP X a f) (hb : PP X b g) (hs : starEach [a, b] X.env = (false, eval a X.env) :: starEach [b] X.env := by rfl) (hs2 : starEach [b] X.env = (false, eval b X.env) :: starEach [] X.env := by rfl) (hs3 : starEach [a, b] X.env = [(false, eval a X.env), (false, eval b X.env)] := by rfl) : QI X tg (.Call (.Name "range" p) [a, b] [] pos) (wRng2 f g) :=
  PI.weak (pi_range2 hg hm (pa_cons ha (pa_cons hb pa_nil hs2) hs) hs3 hs2) fun σ H R ⟨B, F, ρ, P, w, p, q⟩ =>
  ⟨B, F, ρ, _, w, p, fun v x F1 H1 hv ex rx => by
    obtain ⟨i, ev, p1⟩ := onI_ex hv
    exact ⟨B, F1, ρ, _, w.ext ex, p1, fun u y F2 H2 hu ex2 ry => by
      obtain ⟨j, eu, ⟨hi, hj⟩, pv⟩ := onI_ex hu
      subst ev eu; rw [Rep] at rx ry; subst rx ry
      exact ⟨i, j, rfl, ⟨hi.1, hi.2, hj.1, hj.2⟩, q _ _ F2 H2 pv (ex.trans ex2) itv_rng⟩⟩⟩
end
/-! ### for -/
def forW (gw : GW) (sb : SW) : List PV → SW
  | [] => fun ρ N _ => N ρ
  | d :: ds => fun ρ N R => gw d ρ fun ρ1 => sb ρ1 (fun ρ2 => forW gw sb ds ρ2 N R) R
def sFor (fi : AW) (gw : GW) (sb : SW) : SW := fun ρ N R => fi (hide ρ) fun ds => forW gw sb ds ρ N R
section
variable {m : Bool} {X : Cx} {tg iter : Expr} {pos : Pos} {fi : AW} {g : TG} {gw : GW} {body : List Stmt} {sb : SW}
theorem Ws.lay {K : PySem.W.Frag} {B0 : Addr → Prop} {F0 H0 F H : Hp} {σ : L2.St} {ρ : Rho} (w : Ws K B0 F0 H0 F H σ ρ) {T : Addr} {o : HO} (hT : H T = none) : Ws K B0 F0 H0 (upd F T o) (upd H T o) σ ρ :=
  w.backH (.laid w.ext.fh (fun a h => (w.h.bx a h).2) hT)
theorem Ws.yv {K : PySem.W.Frag} {B0 : Addr → Prop} {F0 H0 F H H' FI : Hp} {σ : L2.St} {ρ : Rho} {x : V} {d : PV} (w : Ws K B0 F0 H0 F H σ ρ) (s : Same FI F) (y : YV K FI H H' x d) : ∃ F', Same F F' ∧ Ws K B0 F0 H0 F' H' σ ρ ∧ Rep K F' x d := by
  rcases y with ⟨rfl, r⟩ | ⟨T, xs, ds, rfl, hT, rfl, rfl, r⟩
  · exact ⟨F, fun _ _ z => z, w, Rep.mono s d r⟩
  · have fT : F T = none := none_of w.ext.fh hT
    refine ⟨upd F T (.tup xs), same_new fT, w.lay hT, ?_⟩
    rw [Rep]; exact ⟨T, xs, rfl, .inl (.inl upd_same), r.mono (s.trans (same_new fT))⟩
theorem qs_for (hp : PassesOwn (model X.prog X.w) X.A X.env X.xe) (hc : X.calm = true) (hi : QI X tg iter fi) (hg : PG X tg g) (gv : GV X.K g gw) (hb : QSs X m body sb) (hs : ∀ x, foldedSetIterable iter X.env x = pure x := by intro _; rfl) : QS X m (.For tg iter body [] pos) (sFor fi gw sb) :=
  PS.weak (ps_for hp hc hi hg hb hs) fun D σ H ⟨B0, F0, H0, F, ρ, N, R, w, p, q, r⟩ => by
  refine ⟨_, _, _, _, w.h, p, fun ds J F1 H1 pd ex iv => ?_⟩
  have w1 := w.backH ex
  refine ⟨fun i m σ' H' => m = ds.length - i ∧ i ≤ ds.length ∧ ∃ F2 ρ', Same F1 F2 ∧ Ws X.K B0 F0 H0 F2 H' σ' ρ' ∧ forW gw sb (ds.drop i) ρ' N R, ⟨_, rfl, Nat.zero_le _, F1, ρ, fun _ _ z => z, w1, pd⟩, ?_⟩
  rintro i m σ' H' ⟨em, hi, F2, ρ', s12, w2, pf⟩
  by_cases hl : i = ds.length
  · subst hl
    rw [List.drop_length] at pf
    exact .inl ⟨iv.stops H' (s12.trans w2.ext.fh), q _ _ _ _ pf (ex.ff.trans s12) w2⟩
  · have hlt : i < ds.length := by omega
    refine .inr ⟨iv.goes i H' (s12.trans w2.ext.fh) hlt, fun σ3 H3 => ∃ F3 ρ3, Same F1 F3 ∧ Ws X.K B0 F0 H0 F3 H3 σ3 ρ3 ∧ forW gw sb (ds.drop (i + 1)) ρ3 N R, ?_, ?_⟩
    · rintro σ3 H3 ⟨F3, ρ3, s3, w3, p3⟩
      exact ⟨_, by omega, rfl, hlt, F3, ρ3, s3, w3, p3⟩
    · intro x H3 y
      obtain ⟨d, ed, yv⟩ := iv.yields i H' x H3 (s12.trans w2.ext.fh) hlt y
      obtain ⟨F3, s23, w3, rx⟩ := w2.yv s12 yv
      have edrop : ds.drop i = d :: ds.drop (i + 1) := by
        rw [List.drop_eq_getElem_cons hlt]
        rw [List.getElem?_eq_getElem hlt] at ed
        rw [Option.some.inj ed]
      rw [edrop] at pf
      refine gv x d _ _ _ _ _ _ _ _ _ w3 rx pf fun ρ4 σ4 p4 w4 => ?_
      refine ⟨B0, F0, H0, F3, ρ4, _, R, w4, p4, fun ρ5 σ5 F5 H5 p5 s5 w5 => ⟨F5, ρ5, (s12.trans s23).trans s5, w5, p5⟩, r⟩
end
end KV

namespace KV
open PySem PySem.Spec PyProof.Rows L2 KGX
/-! ### comprehensions -/
def wipeR (ρ : Rho) : List Nat → Rho
  | [] => ρ
  | v :: vs => (wipeR ρ vs).set v none
theorem wipeR_length (ρ : Rho) : ∀ vs : List Nat, (wipeR ρ vs).length = ρ.length
  | [] => rfl
  | v :: vs => by unfold wipeR; rw [List.length_set, wipeR_length ρ vs]
theorem wipe_get (σ : L2.St) {i : Nat} : ∀ {vs : List Nat}, i ∉ vs → (wipe σ vs)[i]? = σ[i]?
  | [], _ => rfl
  | v :: vs, h => by
    unfold wipe
    rw [List.getElem?_set_ne (fun z => h (by rw [z]; exact List.mem_cons_self)), wipe_get σ (fun z => h (List.mem_cons_of_mem _ z))]
theorem wipeR_get (ρ : Rho) {i : Nat} {c : Cell} : ∀ {vs : List Nat}, (wipeR ρ vs)[i]? = some (some c) → ρ[i]? = some (some c) ∧ i ∉ vs
  | [], h => ⟨h, by simp⟩
  | v :: vs, h => by
    unfold wipeR at h
    by_cases hi : v = i
    · subst hi
      by_cases hv : v < (wipeR ρ vs).length
      · rw [List.getElem?_set_self hv] at h; cases h
      · rw [List.getElem?_eq_none (by simpa using hv)] at h; cases h
    · rw [List.getElem?_set_ne hi] at h
      obtain ⟨h1, h2⟩ := wipeR_get ρ h
      exact ⟨h1, by simp only [List.mem_cons, not_or]; exact ⟨fun e => hi e.symm, h2⟩⟩
theorem wipe_set (σ : L2.St) {i : Nat} {x : Option V} : ∀ {vs : List Nat}, i ∈ vs → wipe (σ.set i x) vs = wipe σ vs
  | v :: vs, h => by
    by_cases hi : i ∈ vs
    · show (wipe (σ.set i x) vs).set v none = (wipe σ vs).set v none
      rw [wipe_set σ hi]
    · have e : i = v := (List.mem_cons.mp h).resolve_right hi
      subst e
      have comm : ∀ {us : List Nat}, i ∉ us → wipe (σ.set i x) us = (wipe σ us).set i x := by
        intro us
        induction us with
        | nil => intro _; rfl
        | cons u us ih =>
          intro hu
          show (wipe (σ.set i x) us).set u none = ((wipe σ us).set u none).set i x
          rw [ih (fun z => hu (List.mem_cons_of_mem _ z)), List.set_comm _ _ (fun z => hu (by rw [z]; exact List.mem_cons_self))]
      show (wipe (σ.set i x) vs).set i none = (wipe σ vs).set i none
      rw [comm hi, List.set_set]
theorem wipe_wipe (σ : L2.St) : ∀ {us vs : List Nat}, (∀ i ∈ us, i ∈ vs) → wipe (wipe σ us) vs = wipe σ vs
  | [], _, _ => rfl
  | u :: us, vs, h => by
    show wipe ((wipe σ us).set u none) vs = wipe σ vs
    rw [wipe_set _ (h u List.mem_cons_self), wipe_wipe σ fun i hi => h i (List.mem_cons_of_mem _ hi)]
section
variable {K : PySem.W.Frag} {B : Addr → Prop} {F H : Hp} {σ : L2.St} {ρ : Rho}
theorem Wx.wipe (w : Wx K B F H σ ρ) (vs : List Nat) : Wx K B F H (L2.wipe σ vs) (wipeR ρ vs) := by
  refine ⟨w.fh, w.bx, fun i c e => ?_, by rw [wipeR_length, wipe_length]; exact w.len⟩
  obtain ⟨e1, hn⟩ := wipeR_get ρ e
  rw [wipe_get σ hn]
  exact w.sl i c e1
theorem Wx.set (w : Wx K B F H σ ρ) (i : Nat) {x : V} {v : PV} (r : Rep K F x v) : Wx K B F H (σ.set i (some x)) (ρ.set i (some (.fr v))) := by
  refine ⟨w.fh, w.bx, fun j c e => ?_, by rw [List.length_set, List.length_set]; exact w.len⟩
  by_cases z : i = j
  · subst z
    have hl : i < ρ.length := by
      have := (List.getElem?_eq_some_iff.mp e).1
      rw [List.length_set] at this; exact this
    rw [List.getElem?_set_self hl] at e; cases e
    exact ⟨x, List.getElem?_set_self (by rw [← w.len]; exact hl), r⟩
  · rw [List.getElem?_set_ne z] at e ⊢; exact w.sl j c e
/-- a comprehension's target, its slots -/
def GX (K : PySem.W.Frag) (is : List Nat) (g : TG) (gw : GW) : Prop := ∀ (x : V) (v : PV) (B : Addr → Prop) (F H : Hp) (σ : L2.St) (ρ : Rho) (N : Rho → Prop) (Q : L2.St → Hp → Prop), Wx K B F H σ ρ → Rep K F x v → gw v ρ N →
  (∀ ρ' σ', N ρ' → Wx K B F H σ' ρ' → (∀ vs, (∀ i ∈ is, i ∈ vs) → wipe σ' vs = wipe σ vs) → Q σ' H) → g x σ H Q
def GXs (K : PySem.W.Frag) (is : List Nat) (g : TGs) (gw : List PV → Rho → (Rho → Prop) → Prop) : Prop := ∀ (xs : List V) (vs : List PV) (B : Addr → Prop) (F H : Hp) (σ : L2.St) (ρ : Rho) (N : Rho → Prop) (Q : L2.St → Hp → Prop), Wx K B F H σ ρ → Reps K F xs vs → gw vs ρ N →
  (∀ ρ' σ', N ρ' → Wx K B F H σ' ρ' → (∀ vs, (∀ i ∈ is, i ∈ vs) → wipe σ' vs = wipe σ vs) → Q σ' H) → g xs σ H Q
theorem gx_name {i : Nat} : GX K [i] (gName i) (gwName i) := fun x v B F H σ ρ N Q w r p q => q _ _ p (w.set i r) fun vs h => wipe_set σ (h i List.mem_cons_self)
theorem gxs_nil : GXs K [] gNil gwNil := fun xs vs B F H σ ρ N Q w r p q => by
  match vs, xs, r, p with
  | [], [], _, p => exact ⟨rfl, q _ _ p w fun _ _ => rfl⟩
  | [], _ :: _, r, _ => rw [Reps] at r; exact r.elim
  | _ :: _, _, _, p => exact p.elim
theorem gxs_cons {i1 i2 : List Nat} {g : TG} {gw : GW} {gs : TGs} {gws : List PV → Rho → (Rho → Prop) → Prop} (h1 : GX K i1 g gw) (h2 : GXs K i2 gs gws) : GXs K (i1 ++ i2) (gCons g gs) (gwCons gw gws) := fun xs vs B F H σ ρ N Q w r p q => by
  match vs, xs, r, p with
  | [], _, _, p => exact p.elim
  | _ :: _, [], r, _ => rw [Reps] at r; exact r.elim
  | v :: r', x :: xs, r, p =>
    rw [Reps] at r
    refine ⟨x, xs, rfl, h1 x v B F H σ ρ _ _ w r.1 p fun ρ' σ' p' w' e' => h2 xs r' B F H σ' ρ' N Q w' r.2 p' fun ρ2 σ2 p2 w2 e2 => q _ _ p2 w2 fun us hu => ?_⟩
    rw [e2 us fun i hi => hu i (List.mem_append_right _ hi), e' us fun i hi => hu i (List.mem_append_left _ hi)]
theorem gx_tup {n : Nat} {is : List Nat} {gs : TGs} {gws : List PV → Rho → (Rho → Prop) → Prop} (h : GXs K is gs gws) : GX K is (gTup K n gs) (gwTup n gws) := fun x v B F H σ ρ N Q w r hp q => by
  unfold gwTup at hp
  split at hp
  case h_2 => exact hp.elim
  rename_i ds e
  obtain ⟨hl, p⟩ := hp
  obtain ⟨a, xs, rfl, sq, rs⟩ := r.tup w.fh e
  exact ⟨a, xs, rfl, sq, by rw [rs.len]; exact hl, h xs ds B F H σ ρ N Q w rs p q⟩
end
def tYesW : TW := fun _ k => k true
/-- the list so far -/
def lcW (gw : GW) (t : TW) (f : EW) (ρ : Rho) (k : PV → Prop) : List PV → List PV → Prop
  | [], acc => k (.lst acc)
  | d :: ds, acc => gw d ρ fun ρ1 => t ρ1 fun b => if b = true then f ρ1 fun v => acc.length < 1000000 ∧ lcW gw t f ρ k ds (acc ++ [v]) else lcW gw t f ρ k ds acc
def eLc (fi : AW) (gw : GW) (t : TW) (f : EW) (vs : List Nat) : EW := fun ρ k => fi ρ fun ds => lcW gw t f (wipeR ρ vs) k ds []
section
variable {K : PySem.W.Frag} {fi : AW} {g : TG} {gw : GW} {tt : TT} {t : TW} {f : EW} {is vs : List Nat}
theorem Wx.yv {B : Addr → Prop} {F H H' FI : Hp} {σ : L2.St} {ρ : Rho} {x : V} {d : PV} (w : Wx K B F H σ ρ) (s : Same FI F) (y : YV K FI H H' x d) : ∃ F', Ext B F H F' H' ∧ Wx K B F' H' σ ρ ∧ Rep K F' x d := by
  rcases y with ⟨rfl, r⟩ | ⟨T, xs, ds, rfl, hT, rfl, rfl, r⟩
  · exact ⟨F, w.refl, w, Rep.mono s d r⟩
  · have ex : Ext B F H (upd F T (.tup xs)) (upd H T (.tup xs)) := .laid w.fh (fun a h => (w.bx a h).2) hT
    refine ⟨_, ex, w.ext ex, ?_⟩
    rw [Rep]; exact ⟨T, xs, rfl, .inl (.inl upd_same), r.mono (s.trans ex.ff)⟩
theorem lc_le (hg : GX K is g gw) (hv : ∀ i ∈ is, i ∈ vs) (ht : ∀ σ H Q, tT K t σ H Q → tt σ H Q) (σ : L2.St) (H : Hp) (Q : VK) (h : tF K (eLc fi gw t f vs) σ H Q) : tLc (tI K fi) g tt (tE K f) vs σ H Q := by
  obtain ⟨B, F, ρ, P, w, p, q⟩ := h
  refine ⟨B, F, ρ, _, w, p, fun ds J F1 H1 pd ex iv D hD => ?_⟩
  have w1 := w.ext ex
  have fD : F1 D = none := none_of w1.fh hD
  have hD0 : H D = none := ex.none hD
  -- the list is not known to F
  refine ⟨fun i m H' => m = ds.length - i ∧ i ≤ ds.length ∧ ∃ F2 acc us, Ext B F1 H1 F2 H' ∧ F2 D = none ∧ H' D = some (.lst us) ∧ Reps K F2 us acc ∧ lcW gw t f (wipeR ρ vs) P (ds.drop i) acc,
    ⟨_, rfl, Nat.zero_le _, F1, [], [], .own w1.fh (fun a h => (w1.bx a h).2) hD, fD, upd_same, Reps.nil, pd⟩, ?_⟩
  rintro i m H' ⟨em, hi, F2, acc, us, e2, f2, hu, ru, pl⟩
  have s12 : Same F1 H' := e2.ff.trans e2.fh
  have nB : ¬ B D := fun z => by
    obtain ⟨n, e⟩ := (w1.bx D z).2
    rw [hD] at e; exact nomatch e
  by_cases hl : i = ds.length
  · subst hl
    rw [List.drop_length] at pl
    refine .inl ⟨iv.stops H' s12, q _ D (.lst us) F2 H' pl ?_ f2 hD0 hu ru⟩
    exact ex.trans e2
  · have hlt : i < ds.length := by omega
    refine .inr ⟨iv.goes i H' s12 hlt, fun H3 => ∃ F3 acc us, Ext B F1 H1 F3 H3 ∧ F3 D = none ∧ H3 D = some (.lst us) ∧ Reps K F3 us acc ∧ lcW gw t f (wipeR ρ vs) P (ds.drop (i + 1)) acc, ?_, ?_⟩
    · rintro H3 ⟨F3, acc, us, h⟩
      exact ⟨_, by omega, rfl, hlt, F3, acc, us, h⟩
    · intro x H3 y
      obtain ⟨d, ed, yv⟩ := iv.yields i H' x H3 s12 hlt y
      have w2 := (w1.wipe vs).ext e2
      obtain ⟨F3, e3, w3, rx⟩ := w2.yv e2.ff yv
      have edrop : ds.drop i = d :: ds.drop (i + 1) := by
        rw [List.drop_eq_getElem_cons hlt]
        rw [List.getElem?_eq_getElem hlt] at ed
        rw [Option.some.inj ed]
      rw [edrop] at pl
      have d3 : H3 D = some (.lst us) := e3.keep D _ nB hu
      have fd3 : F3 D = none := e3.new D f2 (by rw [hu]; exact ⟨(fun z => nomatch z), fun xs z => nomatch z⟩)
      refine hg x d B F3 H3 _ _ _ _ w3 rx pl fun ρ4 σ4 p4 w4 ew => ⟨?_, ht σ4 H3 _ ⟨B, F3, ρ4, _, w4, p4, fun b F5 H5 p5 e5 => ?_⟩⟩
      · rw [ew vs hv, wipe_wipe σ fun _ z => z]
      · have d5 : H5 D = some (.lst us) := e5.keep D _ nB d3
        have fd5 : F5 D = none := e5.new D fd3 (by rw [d3]; exact ⟨(fun z => nomatch z), fun xs z => nomatch z⟩)
        have e25 := e2.trans (e3.trans e5)
        have ru5 := ru.mono (e3.ff.trans e5.ff)
        cases b with
        | false => exact ⟨F5, acc, us, e25, fd5, d5, ru5, p5⟩
        | true =>
          refine ⟨B, F5, ρ4, _, w4.ext e5, p5, fun v z F6 H6 ⟨hlen, p6⟩ e6 rz => ?_⟩
          have d6 : H6 D = some (.lst us) := e6.keep D _ nB d5
          have fd6 : F6 D = none := e6.new D fd5 (by rw [d5]; exact ⟨(fun z => nomatch z), fun xs z => nomatch z⟩)
          have ru6 := ru5.mono e6.ff
          refine ⟨us, d6, line_lt (by rw [ru6.len]; exact hlen), F6, acc ++ [v], us ++ [z], ?_, fd6, upd_same, ru6.snoc rz, p6⟩
          have e26 := e25.trans e6
          refine ⟨e26.ff, fun a o e => ?_, e26.new, fun a o nb e => ?_, fun a b => ?_⟩
          · rw [upd_ne (fun z => by rw [z, fd6] at e; exact nomatch e)]; exact e26.fh a o e
          · rw [upd_ne (fun z => by rw [z, hD] at e; exact nomatch e)]; exact e26.keep a o nb e
          · rw [upd_ne (fun z => nB (by rw [← z]; exact b))]; exact e26.box a b
end
end KV

namespace KV
open PySem PySem.Spec PyProof.Rows L2 KGX
section
variable {m : Bool} {X : Cx} {fi : AW} {g : TG} {gw : GW} {t : TW} {f : EW} {is : List Nat}
def PBs (X : Cx) (ifs : List Expr) (t : TW) : Prop := PTs X ifs (tT X.K t)
theorem pbs_nil : PBs X [] tYesW := ⟨fun pins s σ H Q I ⟨B, F, ρ, P, w, p, q⟩ => pts_nil.run pins s σ H Q I (q true F H p w.refl)⟩
theorem pbs_one {c : Expr} (h : PB X c t) : PBs X [c] t := pts_one h
theorem pf_lc {elt tg iter : Expr} {ifs : List Expr} {scope : Scope} {own : List (Str × Nat)} {pos : Pos} (hc : X.calm = true) (hN : X.N.Nodup) (hi : QI X tg iter fi) (ok : BlkOk X.N X.env.scope scope own) (gx : GX X.K is g gw) (hv : ∀ i ∈ is, i ∈ own.map (·.2))
    (hg : ∀ (s : Shared) (H : Hp) (C : Addr) (cl : List (Str × Addr)) (fp : List Addr), PG (X.blk s H scope (compEnvC scope cl C X.env) fp) tg g) (ht : ∀ (s : Shared) (H : Hp) (C : Addr) (cl : List (Str × Addr)) (fp : List Addr), PBs (X.blk s H scope (compEnvC scope cl C X.env) fp) ifs t)
    (he : ∀ (s : Shared) (H : Hp) (C : Addr) (cl : List (Str × Addr)) (fp : List Addr), PP (X.blk s H scope (compEnvC scope cl C X.env) fp) elt f) (hs : ∀ x, foldedSetIterable iter X.env x = pure x := by intro _; rfl) :
    PF X (.ListComp elt [⟨tg, iter, ifs, 0⟩] scope pos) (eLc fi gw t f (own.map (·.2))) := PE.weak (pe_lc (tt := tT X.K t) (te := tE X.K f) hc hN hi ok hg ht he hs) (lc_le gx hv fun _ _ _ z => z)
/-- y = [..] -/
theorem asg_mono {te te' : TE} {g : TG} (h : ∀ σ H Q, te' σ H Q → te σ H Q) (D : Ends) (σ : L2.St) (H : Hp) (q : tAsg te' g D σ H) : tAsg te g D σ H := h _ _ _ q
theorem ps_lc {i : Nat} {y : Str} {py : Pos} {elt tg iter : Expr} {ifs : List Expr} {scope : Scope} {own : List (Str × Nat)} {pos spos : Pos} (hc : X.calm = true) (hN : X.N.Nodup) (hy : X.N[i]? = some y) (hyl : X.env.scope.names.lookup y = some .local)
    (hsw : swapsWith (.ListComp elt [⟨tg, iter, ifs, 0⟩] scope pos) (some (.Name y py)) spos.line X.env = pure true) (hi : QI X tg iter fi) (ok : BlkOk X.N X.env.scope scope own) (gx : GX X.K is g gw) (hv : ∀ i ∈ is, i ∈ own.map (·.2))
    (hg : ∀ (s : Shared) (H : Hp) (C : Addr) (cl : List (Str × Addr)) (fp : List Addr), PG (X.blk s H scope (compEnvC scope cl C X.env) fp) tg g) (ht : ∀ (s : Shared) (H : Hp) (C : Addr) (cl : List (Str × Addr)) (fp : List Addr), PBs (X.blk s H scope (compEnvC scope cl C X.env) fp) ifs t)
    (he : ∀ (s : Shared) (H : Hp) (C : Addr) (cl : List (Str × Addr)) (fp : List Addr), PP (X.blk s H scope (compEnvC scope cl C X.env) fp) elt f) (hs : ∀ x, foldedSetIterable iter X.env x = pure x := by intro _; rfl) :
    PS X (.Assign [.Name y py] (.ListComp elt [⟨tg, iter, ifs, 0⟩] scope pos) spos) (tAsg (tF X.K (eLc fi gw t f (own.map (·.2)))) (gName i)) :=
  PS.weak (ps_setLc (tt := tT X.K t) (te := tE X.K f) hc hN hy hyl hsw hi ok hg ht he hs) (asg_mono (lc_le gx hv fun _ _ _ z => z))
theorem tF_tE {K : PySem.W.Frag} {f : EW} {σ : L2.St} {H : Hp} {Q : VK} (h : tE K f σ H Q) : tF K f σ H Q := by
  obtain ⟨B, F, ρ, P, w, p, q⟩ := h
  exact ⟨B, F, ρ, P, w, p, fun v c o F' H' pv ex fc hc ho ow => q v _ _ _ pv (ex.frz fc hc ho) (ow.rep fc)⟩
theorem qs_setLc {i : Nat} {st : Stmt} (h : PS X st (tAsg (tF X.K f) (gName i))) : QS X m st (sSet i f) := PS.weak h fun D σ H ⟨B0, F0, H0, F, ρ, N, R, w, p, q, r⟩ =>
  tF_tE ⟨_, F, _, _, w.h, p, fun v x F' H' pv ex rx => q _ _ _ _ pv ex.ff ((w.backH ex).set i rx)⟩
theorem qs_ownLc {i : Nat} {st : Stmt} (h : PS X st (tAsg (tF X.K f) (gName i))) : QS X m st (sOwn i f) := PS.weak h fun D σ H ⟨B0, F0, H0, F, ρ, N, R, w, p, q, r⟩ =>
  ⟨_, F, _, _, w.h, p, fun v c o F' H' pv ex fc hc ho ow => q _ _ _ _ pv ex.ff ((w.backH ex).setO i (c := .ow v) rfl ⟨c, o, rfl, fc, w.h0 hc, ho, ow⟩ fun j d _ e o => w.noOwner hc j d e o)⟩
end
/-! ### defs -/
/-- a def's promise by values -/
def spP (K : PySem.W.Frag) (sp : CW) : Sp := fun xs H Q _ => ∃ B F vs P, Same F H ∧ (∀ a, B a → F a = none ∧ ∃ n, H a = some (.lst [.int n])) ∧ Reps K F xs vs ∧ sp vs P ∧ ∀ v x F' H', P v → Ext B F H F' H' → Rep K F' x v → Q x H'
/-- .. the first argument being a box -/
def spB (K : PySem.W.Frag) (sp : CW) : Sp := fun xs H Q _ => ∃ B F b ys vs P, xs = .ref b :: ys ∧ B b ∧ Same F H ∧ (∀ a, B a → F a = none ∧ ∃ n, H a = some (.lst [.int n])) ∧ Reps K F ys vs ∧ sp vs P ∧ ∀ v x F' H', P v → Ext B F H F' H' → Rep K F' x v → Q x H'
/-- .. that tells a new list or dict -/
def spO (K : PySem.W.Frag) (sp : CW) : Sp := fun xs H Q _ => ∃ B F vs P, Same F H ∧ (∀ a, B a → F a = none ∧ ∃ n, H a = some (.lst [.int n])) ∧ Reps K F xs vs ∧ sp vs P ∧ ∀ v p o F' H', P v → Ext B F H F' H' → F' p = none → H p = none → H' p = some o → OwnO K F' p o v → Q (.ref p) H'
def stR (n : Nat) (cs : List Cell) : Rho := cs.map some ++ List.replicate (n - cs.length) none
section
variable {K : PySem.W.Frag}
theorem start_at {N : List Str} {xs : List V} {cs : List Cell} (hl : xs.length = cs.length) {i : Nat} {c : Cell} (e : (stR N.length cs)[i]? = some (some c)) : cs[i]? = some c ∧ ∃ x, xs[i]? = some x ∧ (L2.start N xs)[i]? = some (some x) := by
  unfold stR at e
  by_cases hi : i < cs.length
  · rw [List.getElem?_append_left (by rw [List.length_map]; exact hi), List.getElem?_map, List.getElem?_eq_getElem hi] at e
    have e' : cs[i] = c := by simpa using e
    refine ⟨by rw [List.getElem?_eq_getElem hi, e'], xs[i]'(by omega), List.getElem?_eq_getElem _, ?_⟩
    unfold L2.start
    rw [List.getElem?_append_left (by rw [List.length_map]; omega), List.getElem?_map, List.getElem?_eq_getElem (by omega)]; rfl
  · rw [List.getElem?_append_right (by rw [List.length_map]; omega)] at e
    have := List.mem_of_getElem? e
    rw [List.mem_replicate] at this
    exact nomatch this.2
theorem start_len {N : List Str} {xs : List V} {cs : List Cell} (hl : xs.length = cs.length) : (stR N.length cs).length = (L2.start N xs).length := by
  unfold stR L2.start
  rw [List.length_append, List.length_append, List.length_map, List.length_map, List.length_replicate, List.length_replicate, hl]
theorem ws_start {N : List Str} {B : Addr → Prop} {F H : Hp} {xs : List V} {vs : List PV} (s : Same F H) (bx : ∀ a, B a → F a = none ∧ ∃ n, H a = some (.lst [.int n])) (r : Reps K F xs vs) : Ws K B F H F H (L2.start N xs) (stR N.length (vs.map .fr)) := by
  have hl : xs.length = (vs.map Cell.fr).length := by rw [List.length_map, r.len]
  have nofr : ∀ {i : Nat} {c : Cell}, (stR N.length (vs.map .fr))[i]? = some (some c) → ∃ v, c = .fr v ∧ vs[i]? = some v := fun {i c} e => by
    have := (start_at (N := N) hl e).1
    rw [List.getElem?_map] at this
    obtain ⟨v, e1, e2⟩ := Option.map_eq_some_iff.mp this
    exact ⟨v, e2.symm, e1⟩
  refine ⟨.refl s fun a h => (bx a h).2, fun a h => ⟨(bx a h).1, ?_⟩, fun i c e => ?_, start_len hl, fun i j c d a _ e1 _ o1 => ?_⟩
  · obtain ⟨n, q⟩ := (bx a h).2
    rw [q]; exact ⟨(fun z => nomatch z), fun xs z => nomatch z⟩
  · obtain ⟨v, rfl, ev⟩ := nofr e
    obtain ⟨_, x, ex, es⟩ := start_at (N := N) hl e
    obtain ⟨x', ex', rx⟩ := r.at ev
    rw [ex] at ex'; cases ex'
    exact ⟨x, es, rx⟩
  · obtain ⟨v, rfl, _⟩ := nofr e1
    exact nomatch o1
theorem ws_startB {N : List Str} {B : Addr → Prop} {F H : Hp} {b : Addr} {ys : List V} {vs : List PV} (hb : B b) (s : Same F H) (bx : ∀ a, B a → F a = none ∧ ∃ n, H a = some (.lst [.int n])) (r : Reps K F ys vs) : Ws K B F H F H (L2.start N (.ref b :: ys)) (stR N.length (.box :: vs.map .fr)) := by
  have hl : (V.ref b :: ys).length = (Cell.box :: vs.map Cell.fr).length := by rw [List.length_cons, List.length_cons, List.length_map, r.len]
  have cs : ∀ {i : Nat} {c : Cell}, (stR N.length (.box :: vs.map .fr))[i]? = some (some c) → (i = 0 ∧ c = .box) ∨ ∃ v j, i = j + 1 ∧ c = .fr v ∧ vs[j]? = some v := fun {i c} e => by
    have := (start_at (N := N) hl e).1
    cases i with
    | zero => exact .inl ⟨rfl, by simpa using this.symm⟩
    | succ j =>
      rw [List.getElem?_cons_succ, List.getElem?_map] at this
      obtain ⟨v, e1, e2⟩ := Option.map_eq_some_iff.mp this
      exact .inr ⟨v, j, rfl, e2.symm, e1⟩
  refine ⟨.refl s fun a h => (bx a h).2, fun a h => ⟨(bx a h).1, ?_⟩, fun i c e => ?_, start_len hl, fun i j c d a hij e1 e2 o1 o2 => ?_⟩
  · obtain ⟨n, q⟩ := (bx a h).2
    rw [q]; exact ⟨(fun z => nomatch z), fun xs z => nomatch z⟩
  · obtain ⟨_, x, ex, es⟩ := start_at (N := N) hl e
    refine ⟨x, es, ?_⟩
    rcases cs e with ⟨rfl, rfl⟩ | ⟨v, j, rfl, rfl, ev⟩
    · have : x = .ref b := by simpa using ex.symm
      subst this
      obtain ⟨n, q⟩ := (bx b hb).2
      exact ⟨b, n, rfl, (bx b hb).1, .inl hb, q⟩
    · rw [List.getElem?_cons_succ] at ex
      obtain ⟨x', ex', rx⟩ := r.at ev
      rw [ex] at ex'; cases ex'
      exact rx
  · rcases cs e1 with ⟨rfl, rfl⟩ | ⟨v, k, rfl, rfl, _⟩
    · rcases cs e2 with ⟨rfl, rfl⟩ | ⟨v, k, rfl, rfl, _⟩
      · exact (hij rfl).elim
      · exact nomatch o2
    · exact nomatch o1
/-- a def's body, from the start -/
def run (n : Nat) (s : SW) (cs : List Cell) (k : PV → Prop) : Prop := s (stR n cs) (fun _ => k .non) k
theorem body_p {X : Cx} {N : List Str} {sts : List Stmt} {s : SW} {sp : CW} (h : QSs X false sts s) (hsp : ∀ vs P, sp vs P → run N.length s (vs.map .fr) P) {xs : List V} {H : Hp} {Q : VK} {E : XK} (q : spP X.K sp xs H Q E) :
    ∃ t, PSs X sts t ∧ t { nx := fun _ H' => Q .non H', rt := Q } (L2.start N xs) H := by
  obtain ⟨B, F, vs, P, sm, bx, r, p, k⟩ := q
  exact ⟨_, h, B, F, H, F, _, _, _, ws_start sm bx r, hsp vs P p, fun ρ' σ' F' H' pn _ w => k .non .non F' H' pn w.ext (by rw [Rep]), fun v x F' H' pv ⟨ex, rx⟩ => k v x F' H' pv ex rx⟩
/-- .. a new list or dict told -/
theorem body_o {X : Cx} {N : List Str} {sts : List Stmt} {s : SW} {sp : CW} (h : QSs X true sts s) (hsp : ∀ vs P, sp vs P → s (stR N.length (vs.map .fr)) (fun _ => False) P) {xs : List V} {H : Hp} {Q : VK} {E : XK} (q : spO X.K sp xs H Q E) :
    ∃ t, PSs X sts t ∧ t { nx := fun _ H' => Q .non H', rt := Q } (L2.start N xs) H := by
  obtain ⟨B, F, vs, P, sm, bx, r, p, k⟩ := q
  exact ⟨_, h, B, F, H, F, _, _, _, ws_start sm bx r, hsp vs P p, fun ρ' σ' F' H' pn _ w => pn.elim, fun v x F' H' pv ⟨ex, c, o, ex2, fc, hc, ho, ow⟩ => by subst ex2; exact k v c o F' H' pv ex fc hc ho ow⟩
theorem body_b {X : Cx} {N : List Str} {sts : List Stmt} {s : SW} {sp : CW} (h : QSs X false sts s) (hsp : ∀ vs P, sp vs P → run N.length s (.box :: vs.map .fr) P) {xs : List V} {H : Hp} {Q : VK} {E : XK} (q : spB X.K sp xs H Q E) :
    ∃ t, PSs X sts t ∧ t { nx := fun _ H' => Q .non H', rt := Q } (L2.start N xs) H := by
  obtain ⟨B, F, b, ys, vs, P, rfl, hb, sm, bx, r, p, k⟩ := q
  exact ⟨_, h, B, F, H, F, _, _, _, ws_startB hb sm bx r, hsp vs P p, fun ρ' σ' F' H' pn _ w => k .non .non F' H' pn w.ext (by rw [Rep]), fun v x F' H' pv ⟨ex, rx⟩ => k v x F' H' pv ex rx⟩
end
end KV

namespace KV
open PySem PySem.Spec PyProof.Rows L2 KGX
/-! ### the readings by cases: they compute -/
section
variable {m : Bool} {X : Cx} {e a b c : Expr} {es rest : List Expr} {st : Stmt} {pos : Pos} {f g h f' : EW} {fa : AW} {t u : TW} {K : PySem.W.Frag} {s1 s2 : SW}
theorem PP.weak (h : PP X e f') (w : ∀ ρ k, f ρ k → f' ρ k) : PP X e f := PE.weak h fun σ H Q ⟨B, F, ρ, P, wx, p, q⟩ => ⟨B, F, ρ, P, wx, w _ _ p, q⟩
theorem PF.weak (h : PF X e f') (w : ∀ ρ k, f ρ k → f' ρ k) : PF X e f := PE.weak h fun σ H Q ⟨B, F, ρ, P, wx, p, q⟩ => ⟨B, F, ρ, P, wx, w _ _ p, q⟩
theorem PB.weak {t' : TW} (h : PB X e t') (w : ∀ ρ k, t ρ k → t' ρ k) : PB X e t := PT.weak h fun σ H Q ⟨B, F, ρ, P, wx, p, q⟩ => ⟨B, F, ρ, P, wx, w _ _ p, q⟩
theorem QS.weak (h : QS X m st s2) (w : ∀ ρ N R, s1 ρ N R → s2 ρ N R) : QS X m st s1 := PS.weak h fun D σ H ⟨B0, F0, H0, F, ρ, N, R, ws, p, q⟩ => ⟨B0, F0, H0, F, ρ, N, R, ws, w _ _ _ p, q⟩
theorem OpV.weak {r : R2} {o o' : OW} (h : OpV K r o') (w : ∀ v u k, o v u k → o' v u k) : OpV K r o := fun x y v u B F H P Q s bx r1 r2 p q => h x y v u B F H P Q s bx r1 r2 (w _ _ _ p) q
theorem OpF.weak {r : R2} {o o' : OW} (h : OpF K r o') (w : ∀ v u k, o v u k → o' v u k) : OpF K r o := fun x y v u B F H P Q s bx r1 r2 p q => h x y v u B F H P Q s bx r1 r2 (w _ _ _ p) q
theorem CallV.weak {r : List V → Hp → VK → Prop} {o o' : CW} (h : CallV K r o') (w : ∀ v k, o v k → o' v k) : CallV K r o := fun xs vs B F H P Q s bx r1 p q => h xs vs B F H P Q s bx r1 (w _ _ p) q
/-! names -/
def mVar (i : Nat) : EW := fun ρ k => match ρ[i]? with
  | some (some (.fr v)) => k v
  | some (some (.ow v)) => k v
  | _ => False
theorem mp_var (i : Nat) {x : Str} (h : PE X (.Name x pos) (tVar i)) : PP X (.Name x pos) (mVar i) := PP.weak (pp_var i h) fun ρ k q => by
  unfold mVar at q
  split at q
  · rename_i v e; exact ⟨v, .inl e, q⟩
  · rename_i v e; exact ⟨v, .inr e, q⟩
  · exact q.elim
/-! operators -/
def mAdd : OW := fun v w k => match v, w with
  | .int i, .int j => k (.int (i + j))
  | .tup xs, .tup ys => xs.length + ys.length ≤ 1000000 ∧ k (.tup (xs ++ ys))
  | .lst xs, .lst ys => xs.length + ys.length ≤ 1000000 ∧ k (.lst (xs ++ ys))
  | _, _ => False
theorem mp_add (ha : PP X a f) (hb : PP X b g) : PP X (.BinOp a .Add b pos) (eBin mAdd f g) :=
  pp_op (opR_or op_add (opR_or op_catS op_cat)) ((opv_or opv_rI0 (opv_or opv_catA opf_cat.v)).weak fun v w k q => by
    unfold mAdd at q
    split at q
    · exact .inl ⟨_, _, rfl, rfl, trivial, q⟩
    · exact .inr (.inl ⟨_, _, rfl, rfl, q.1, q.2⟩)
    · exact .inr (.inr ⟨_, _, rfl, rfl, q.1, q.2⟩)
    · exact q.elim) ha hb
def mSub : OW := fun v w k => match v, w with
  | .int i, .int j => k (.int (i - j))
  | _, _ => False
theorem mp_sub (ha : PP X a f) (hb : PP X b g) : PP X (.BinOp a .Sub b pos) (eBin mSub f g) :=
  pp_op op_sub (opv_rI0.weak fun v w k q => by
    unfold mSub at q
    split at q
    · exact ⟨_, _, rfl, rfl, trivial, q⟩
    · exact q.elim) ha hb
def CM (i j : Int) : Prop := CMul i j ∨ CMulW i j
def mMul : OW := fun v w k => match v, w with
  | .int i, .int j => CM i j ∧ k (.int (i * j))
  | .tup xs, .int n => (xs ≠ [] ∧ 1 ≤ n ∧ n ≤ 1000 ∧ xs.length ≤ 1000) ∧ k (.tup (List.replicate n.toNat xs).flatten)
  | .lst xs, .int n => (-1000 ≤ n ∧ n ≤ 1000 ∧ xs.length ≤ 1000) ∧ k (.lst (List.replicate n.toNat xs).flatten)
  | _, _ => False
theorem mp_mul (ha : PP X a f) (hb : PP X b g) : PP X (.BinOp a .Mult b pos) (eBin mMul f g) :=
  pp_op (opR_or (opR_or op_mul op_mulW) (opR_or op_timesS op_rep)) ((opv_or (opv_or opv_rI opv_rI) (opv_or opv_repT opf_rep.v)).weak fun v w k q => by
    unfold mMul at q
    split at q
    · exact .inl (q.1.elim (fun z => .inl ⟨_, _, rfl, rfl, z, q.2⟩) fun z => .inr ⟨_, _, rfl, rfl, z, q.2⟩)
    · exact .inr (.inl ⟨_, _, rfl, rfl, q.1.1, q.1.2.1, q.1.2.2.1, q.1.2.2.2, q.2⟩)
    · exact .inr (.inr ⟨_, _, rfl, rfl, q.1.1, q.1.2.1, q.1.2.2, q.2⟩)
    · exact q.elim) ha hb
/-- .. a new list -/
theorem mf_mul (ha : PP X a f) (hb : PP X b g) : PF X (.BinOp a .Mult b pos) (eBin oRepL f g) := pf_op op_rep opf_rep ha hb
theorem mf_add (ha : PP X a f) (hb : PP X b g) : PF X (.BinOp a .Add b pos) (eBin oCatL f g) := pf_op op_cat opf_cat ha hb
def mMod : OW := fun v w k => match v, w with
  | .int i, .int j => 0 < j ∧ k (.int (i % j))
  | _, _ => False
theorem mp_mod (ha : PP X a f) (hb : PP X b g) : PP X (.BinOp a .Mod b pos) (eBin mMod f g) :=
  pp_op op_mod (opv_rI.weak fun v w k q => by
    unfold mMod at q
    split at q
    · exact ⟨_, _, rfl, rfl, q.1, q.2⟩
    · exact q.elim) ha hb
def mDiv : OW := fun v w k => match v, w with
  | .int i, .int j => CDivW i j ∧ k (.int (i / j))
  | _, _ => False
theorem mp_div (ha : PP X a f) (hb : PP X b g) : PP X (.BinOp a .FloorDiv b pos) (eBin mDiv f g) :=
  pp_op op_fdivW (opv_rI.weak fun v w k q => by
    unfold mDiv at q
    split at q
    · exact ⟨_, _, rfl, rfl, q.1, q.2⟩
    · exact q.elim) ha hb
def mPow : OW := fun v w k => match v, w with
  | .int i, .int j => CPow i j ∧ k (.int (i ^ j.toNat))
  | _, _ => False
theorem mp_pow (ha : PP X a f) (hb : PP X b g) : PP X (.BinOp a .Pow b pos) (eBin mPow f g) :=
  pp_op op_pow (opv_rI.weak fun v w k q => by
    unfold mPow at q
    split at q
    · exact ⟨_, _, rfl, rfl, q.1, q.2⟩
    · exact q.elim) ha hb
/-! comparisons -/
def mCmp (p : Int → Int → Bool) : OW := fun v w k => match v, w with
  | .int i, .int j => k (.bl (p i j))
  | _, _ => False
theorem opv_mcmp {p : Int → Int → Bool} : OpV K (rI0 fun i j => .bl (p i j)) (mCmp p) := opv_cmp.weak fun v w k q => by
  unfold mCmp at q
  split at q
  · exact ⟨_, _, rfl, rfl, trivial, q⟩
  · exact q.elim
abbrev cLt : Int → Int → Bool := fun i j => decide (i < j)
abbrev cLe : Int → Int → Bool := fun i j => decide (i ≤ j)
abbrev cGt : Int → Int → Bool := fun i j => decide (j < i)
abbrev cGe : Int → Int → Bool := fun i j => decide (j ≤ i)
def mEq : OW := fun v w k => match v, w with
  | .int i, .int j => k (.bl (decide (i = j)))
  | .str i, .str j => k (.bl (decide (i = j)))
  | .bl i, .bl j => k (.bl (decide (i = j)))
  | _, _ => oEqD false v w k
def mNe : OW := fun v w k => match v, w with
  | .int i, .int j => k (.bl (!decide (i = j)))
  | .str i, .str j => k (.bl (!decide (i = j)))
  | .bl i, .bl j => k (.bl (!decide (i = j)))
  | _, _ => oEqD true v w k
theorem dec_congr {p q : Prop} [Decidable p] [Decidable q] (h : p ↔ q) : decide p = decide q := by
  by_cases hp : p
  · rw [decide_eq_true hp, decide_eq_true (h.mp hp)]
  · rw [decide_eq_false hp, decide_eq_false (fun z => hp (h.mpr z))]
theorem opv_mEq : OpV K (rOr rEq (rEqD K)) mEq := (opv_or opv_eqS opv_eqD).weak fun v w k q => by
  unfold mEq at q
  split at q
  · refine .inl ⟨_, _, rfl, rfl, rfl, ?_⟩
    rw [if_neg (by decide), dec_congr (q := _ = _) ⟨fun e => V.int.inj e, fun e => by rw [e]⟩]; exact q
  · refine .inl ⟨_, _, rfl, rfl, rfl, ?_⟩
    rw [if_neg (by decide), dec_congr (q := _ = _) ⟨fun e => V.str.inj e, fun e => by rw [e]⟩]; exact q
  · refine .inl ⟨_, _, rfl, rfl, rfl, ?_⟩
    rw [if_neg (by decide), dec_congr (q := _ = _) ⟨fun e => V.bl.inj e, fun e => by rw [e]⟩]; exact q
  · exact .inr q
theorem opv_mNe : OpV K (rOr rNe (rNeD K)) mNe := (opv_or opv_neS opv_neD).weak fun v w k q => by
  unfold mNe at q
  split at q
  · refine .inl ⟨_, _, rfl, rfl, rfl, ?_⟩
    rw [if_pos rfl, dec_congr (q := _ = _) ⟨fun e => V.int.inj e, fun e => by rw [e]⟩]; exact q
  · refine .inl ⟨_, _, rfl, rfl, rfl, ?_⟩
    rw [if_pos rfl, dec_congr (q := _ = _) ⟨fun e => V.str.inj e, fun e => by rw [e]⟩]; exact q
  · refine .inl ⟨_, _, rfl, rfl, rfl, ?_⟩
    rw [if_pos rfl, dec_congr (q := _ = _) ⟨fun e => V.bl.inj e, fun e => by rw [e]⟩]; exact q
  · exact .inr q
theorem opr_eq (hu : X.A.units + 64 < cLine) : OpR X (compareOp .Eq) (rOr rEq (rEqD X.K)) := opR_or op_eq (op_eqD hu)
theorem opr_ne (hu : X.A.units + 64 < cLine) : OpR X (compareOp .NotEq) (rOr rNe (rNeD X.K)) := opR_or op_ne (op_neD hu)
end
end KV

namespace KV
open PySem PySem.Spec PyProof.Rows L2 KGX
section
variable {m : Bool} {X : Cx} {e a b c : Expr} {es rest : List Expr} {st : Stmt} {pos : Pos} {f g h f' : EW} {fa : AW} {t u : TW} {K : PySem.W.Frag} {s1 s2 : SW}
/-! what is built in, by cases -/
def mMax : CW := fun vs k => match vs with
  | [.int i, .int j] => k (.int (if j > i then j else i))
  | _ => False
def mMin : CW := fun vs k => match vs with
  | [.int i, .int j] => k (.int (if j < i then j else i))
  | _ => False
def mAbs : CW := fun vs k => match vs with
  | [.int i] => k (.int (if i < 0 then -i else i))
  | _ => False
theorem cm_max : CallV K (fun xs H Q => ∃ i j, xs = [.int i, .int j] ∧ Q (.int (if j > i then j else i)) H) mMax := (cv_ii (g := fun i j => if j > i then j else i)).weak fun vs k q => by
  unfold mMax at q
  split at q
  · exact ⟨_, _, rfl, q⟩
  · exact q.elim
theorem cm_min : CallV K (fun xs H Q => ∃ i j, xs = [.int i, .int j] ∧ Q (.int (if j < i then j else i)) H) mMin := (cv_ii (g := fun i j => if j < i then j else i)).weak fun vs k q => by
  unfold mMin at q
  split at q
  · exact ⟨_, _, rfl, q⟩
  · exact q.elim
theorem cm_abs : CallV K (fun xs H Q => ∃ i, xs = [.int i] ∧ Q (.int (if i < 0 then -i else i)) H) mAbs := (cv_i (g := fun i => if i < 0 then -i else i)).weak fun vs k q => by
  unfold mAbs at q
  split at q
  · exact ⟨_, rfl, q⟩
  · exact q.elim
def mTuple : CW := fun vs k => match vs with
  | [.lst xs] => k (.tup xs)
  | [.tup xs] => k (.tup xs)
  | _ => False
theorem cm_tuple : CallV K (rTupS K) mTuple := cv_tuple.weak fun vs k q => by
  unfold mTuple at q
  split at q
  · exact ⟨_, .inl rfl, q⟩
  · exact ⟨_, .inr rfl, q⟩
  · exact q.elim
/-! list(row): a new list -/
def mList : CW := fun vs k => match vs with
  | [v] => onS (fun xs => k (.lst xs)) v
  | _ => False
theorem pf_list {x : Str} {p : Pos} (hg : Gl X "list") (hm : X.mg "list" = none) (hv : bootBuiltins "list" = some (.type "list")) (ha : PPs X [e] fa) (he : starEach [e] X.env = (false, eval e X.env) :: starEach [] X.env := by rfl) (hpl : (backTo pos (starEach [] X.env)).any (·.1) = false := by rfl) :
    PF X (.Call (.Name "list" p) [e] [] pos) (eCall mList fa) := PE.weak (pe_callTy call_list_of hg hm hv ha (by decide) (by decide) he hpl) fun σ H Q ⟨B, F, ρ, P, w, p, q⟩ => by
  refine ⟨B, F, ρ, _, w, p, fun vs xs F1 H1 p1 e1 r1 => ?_⟩
  unfold mList at p1
  split at p1
  case h_2 => exact p1.elim
  obtain ⟨ds, ed, p2⟩ := onS_ex p1
  obtain ⟨x, rfl, rx⟩ := r1.one
  have w1 := w.ext e1
  obtain ⟨l, us, rfl, sq, ru⟩ := rx.seq w1.fh ed
  exact ⟨l, us, rfl, sq, own_new e1 w1.fh (fun a b => (w1.bx a b).2) p2 (fun _ => ru) q⟩
/-! slices -/
abbrev OptW := Rho → (Option Int → Prop) → Prop
def tOp' (K : PySem.W.Frag) (f : OptW) : TO := fun σ H Q => ∃ B F ρ P, Wx K B F H σ ρ ∧ f ρ P ∧ ∀ v F' H', P v → Ext B F H F' H' → Q v H'
def PPo (X : Cx) (e : Option Expr) (f : OptW) : Prop := PO X e (tOp' X.K f)
def oNone : OptW := fun _ k => k none
def oSome (f : EW) : OptW := fun ρ k => f ρ (onI fun i => k (some i))
theorem ppo_none : PPo X none oNone := ⟨fun pins s σ H Q I ⟨B, F, ρ, P, w, p, q⟩ => po_none.run pins s σ H Q I (q none F H p w.refl)⟩
theorem ppo_some (h : PP X e f) : PPo X (some e) (oSome f) := ⟨fun pins s σ H Q I ⟨B, F, ρ, P, w, p, q⟩ => (po_some h).run pins s σ H Q I ⟨B, F, ρ, _, w, p, fun v x F1 H1 hv e1 r1 => by
  obtain ⟨i, ev, p1⟩ := onI_ex hv
  subst ev; rw [Rep] at r1
  exact ⟨i, r1, q _ F1 H1 p1 e1⟩⟩⟩
def cutP (xs : List PV) (lo hi : Option Int) : List PV := (xs.drop (HT.sIx xs.length 0 lo)).take (HT.sIx xs.length xs.length hi - HT.sIx xs.length 0 lo)
theorem Reps.cut {F : Hp} {us : List V} {ds : List PV} (r : Reps K F us ds) (lo hi : Option Int) : Reps K F (cutV us lo hi) (cutP ds lo hi) := by
  unfold cutV cutP
  rw [r.len]
  exact (r.drop _).take _
def mSl : PV → Option Int → Option Int → (PV → Prop) → Prop := fun v lo hi k => match v with
  | .tup xs => k (.tup (cutP xs lo hi))
  | .lst xs => k (.lst (cutP xs lo hi))
  | _ => False
def eSl (f : EW) (fl fh : OptW) : EW := fun ρ k => f ρ fun v => fl ρ fun lo => fh ρ fun hi => mSl v lo hi k
theorem pp_slice {lo hi : Option Expr} {p2 : Pos} {fl fh : OptW} (he : PP X e f) (hl : PPo X lo fl) (hh : PPo X hi fh) : PP X (.Subscript e (.Slice lo hi none p2) pos) (eSl f fl fh) := PE.weak (pe_slice (SlR.or sl_tupS sl_list) he hl hh) fun σ H Q ⟨B, F, ρ, P, w, p, q⟩ => by
  refine ⟨B, F, ρ, _, w, p, fun v x F1 H1 p1 e1 r1 => ⟨B, F1, ρ, _, w.ext e1, p1, fun l F2 H2 p2 e2 => ⟨B, F2, ρ, _, (w.ext e1).ext e2, p2, fun u F3 H3 p3 e3 => ?_⟩⟩⟩
  have w3 := ((w.ext e1).ext e2).ext e3
  have r3 := Rep.mono (e2.ff.trans e3.ff) v r1
  have e13 := e1.trans (e2.trans e3)
  unfold mSl at p3
  split at p3
  · rename_i ds
    have r3' := r3
    rw [Rep] at r3
    obtain ⟨c, us, rfl, ec, rc⟩ := r3
    refine .inl ⟨c, us, rfl, ec.sq w3.fh, fun z => ?_, fun _ d o hd ho => ?_⟩
    · have ez : cutP ds l u = ds := by
        unfold cutP
        rw [← rc.len, z.1, z.2, List.drop_zero, Nat.sub_zero, List.take_of_length_le (by rw [rc.len]; exact Nat.le_refl _)]
      rw [ez] at p3
      exact q _ _ F3 H3 p3 e13 r3'
    · have ex : Ext B F3 H3 (upd F3 d (.frz o (.tup (cutV us l u)))) (upd H3 d (.frz o (.tup (cutV us l u)))) := .laid w3.fh (fun a h => (w3.bx a h).2) hd
      exact q _ _ _ _ p3 (e13.trans ex) (by rw [Rep]; exact ⟨d, _, rfl, .new ho, (rc.cut l u).mono ex.ff⟩)
  · rename_i ds
    rw [Rep] at r3
    obtain ⟨c, us, rfl, ec, rc⟩ := r3
    refine .inr ⟨c, us, rfl, .inl (.inl (w3.fh _ _ ec)), fun d hd => ?_⟩
    have ex : Ext B F3 H3 (upd F3 d (.lst (cutV us l u))) (upd H3 d (.lst (cutV us l u))) := .laid w3.fh (fun a h => (w3.bx a h).2) hd
    exact q _ _ _ _ p3 (e13.trans ex) (by rw [Rep]; exact ⟨d, _, rfl, upd_same, (rc.cut l u).mono ex.ff⟩)
  · exact p3.elim
/-! x *= y -/
theorem ip_mul : PIp X .Mult (fun x y H Q => ∃ i j, x = .int i ∧ y = .int j ∧ CM i j ∧ Q (.int (i * j)) H) := by
  intro pins s σ H x y v u Q I r1 r2 h
  obtain ⟨i, j, e1, e2, hc, q⟩ := h
  subst e1; subst e2
  obtain ⟨t, rfl⟩ := r1
  obtain ⟨t', rfl⟩ := r2
  exact imul_int ⟨.int _, H, I.tok _, ⟨_, rfl⟩, q⟩ (hc.elim (fun z => z.ok) fun z => z.ok)
theorem ti_add (x y : V) (H : Hp) (Q : VK) (h : oIp (fun _ _ => True) (fun i j => i + j) x y H Q) : ipI (fun i j => i + j) x y H Q := by
  obtain ⟨i, j, e1, e2, _, q⟩ := h; exact ⟨i, j, e1, e2, q⟩
theorem ti_sub (x y : V) (H : Hp) (Q : VK) (h : oIp (fun _ _ => True) (fun i j => i - j) x y H Q) : ipI (fun i j => i - j) x y H Q := by
  obtain ⟨i, j, e1, e2, _, q⟩ := h; exact ⟨i, j, e1, e2, q⟩
/-! ### calls of defs -/
/-- by how many there are -/
def S1 (p : PV → (PV → Prop) → Prop) : CW := fun vs k => match vs with
  | [a] => p a k
  | _ => False
def S2 (p : PV → PV → (PV → Prop) → Prop) : CW := fun vs k => match vs with
  | [a, b] => p a b k
  | _ => False
def S3 (p : PV → PV → PV → (PV → Prop) → Prop) : CW := fun vs k => match vs with
  | [a, b, c] => p a b c k
  | _ => False
def S4 (p : PV → PV → PV → PV → (PV → Prop) → Prop) : CW := fun vs k => match vs with
  | [a, b, c, d] => p a b c d k
  | _ => False
def S5 (p : PV → PV → PV → PV → PV → (PV → Prop) → Prop) : CW := fun vs k => match vs with
  | [a, b, c, d, e] => p a b c d e k
  | _ => False
def S0 (p : (PV → Prop) → Prop) : CW := fun vs k => match vs with
  | [] => p k
  | _ => False
theorem pp_call {f0 : Addr} {fd : FuncData} {ps : List Str} {k : Nat} {sp : CW} {x : Str} {p : Pos} (F : FnOk X.prog X.w X.K X.mg X.base CX0 k f0 fd ps (spP X.K sp)) (hr : Room k X.A) (hg : Gl X x) (hm : X.mg x = some (.ref f0)) (hk : PySem.W.keepIn X.K (.ref f0) = true) (hb : Binds X.K fd ps [])
    (ha : PPs X (e :: es) fa) (hdb : (x == ("__debug__" : Str)) = false := by decide) (he : starEach (e :: es) X.env = (false, eval e X.env) :: starEach es X.env := by rfl) (hpl : (backTo pos (starEach es X.env)).any (·.1) = false := by rfl) : PP X (.Call (.Name x p) (e :: es) [] pos) (eCall sp fa) :=
  PE.weak (pe_call F hr hg hm hk hb .nil pass0 ha hdb he hpl) fun σ H Q ⟨B, F, ρ, P, w, p, q⟩ => by
  refine ⟨B, F, ρ, _, w, p, fun vs xs F1 H1 p1 e1 r1 => ?_⟩
  have w1 := w.ext e1
  show spP X.K sp (xs ++ []) H1 Q _
  rw [List.append_nil]
  exact ⟨B, F1, vs, P, w1.fh, w1.bx, r1, p1, fun v x F' H' pv ex rx => q v x F' H' pv (e1.trans ex) rx⟩
theorem pp_callG {f0 : Addr} {fd : FuncData} {ps : List Str} {k : Nat} {sp : CW} {x : Str} {p : Pos} (F : KG.FnG X.prog X.w X.K X.mg X.base k f0 fd ps (spP X.K sp)) (gd : X.A.guards = some []) (hr : Room k X.A) (hg : Gl X x) (hm : X.mg x = some (.ref f0)) (hk : PySem.W.keepIn X.K (.ref f0) = true) (hb : Binds X.K fd ps [])
    (ha : PPs X (e :: es) fa) (hdb : (x == ("__debug__" : Str)) = false := by decide) (he : starEach (e :: es) X.env = (false, eval e X.env) :: starEach es X.env := by rfl) (hpl : (backTo pos (starEach es X.env)).any (·.1) = false := by rfl) : PP X (.Call (.Name x p) (e :: es) [] pos) (eCall sp fa) :=
  PE.weak (KG.pe_callG F gd hr hg hm hk hb .nil ha hdb he hpl) fun σ H Q ⟨B, F, ρ, P, w, p, q⟩ => by
  refine ⟨B, F, ρ, _, w, p, fun vs xs F1 H1 p1 e1 r1 => ?_⟩
  have w1 := w.ext e1
  show spP X.K sp (xs ++ []) H1 Q _
  rw [List.append_nil]
  exact ⟨B, F1, vs, P, w1.fh, w1.bx, r1, p1, fun v x F' H' pv ex rx => q v x F' H' pv (e1.trans ex) rx⟩
/-- the first argument a box in slot i -/
def eCallB (i : Nat) (sp : CW) (fa : AW) : EW := fun ρ k => match ρ[i]? with
  | some (some .box) => fa ρ fun vs => sp vs k
  | _ => False
theorem pp_callBx {i : Nat} {f0 : Addr} {fd : FuncData} {ps : List Str} {k : Nat} {sp : CW} {x y : Str} {p py : Pos} (F : FnOk X.prog X.w X.K X.mg X.base CX0 k f0 fd ps (spB X.K sp)) (hr : Room k X.A) (hg : Gl X x) (hm : X.mg x = some (.ref f0)) (hk : PySem.W.keepIn X.K (.ref f0) = true) (hb : Binds X.K fd ps [])
    (hv : PE X (.Name y py) (tVar i)) (ha : PPs X es fa) (hdb : (x == ("__debug__" : Str)) = false := by decide) (he : starEach (.Name y py :: es) X.env = (false, eval (.Name y py) X.env) :: starEach es X.env := by rfl) (hpl : (backTo pos (starEach es X.env)).any (·.1) = false := by rfl) : PP X (.Call (.Name x p) (.Name y py :: es) [] pos) (eCallB i sp fa) :=
  PE.weak (pe_call F hr hg hm hk hb .nil pass0 (pa_cons hv ha he) hdb he hpl) fun σ H Q ⟨B, F, ρ, P, w, p, q⟩ => by
  unfold eCallB at p
  split at p
  case h_2 => exact p.elim
  rename_i ei
  obtain ⟨z, ez, b, rfl, hB⟩ := w.sl i _ ei
  refine ⟨_, ez, B, F, ρ, _, w, p, fun vs xs F1 H1 p1 e1 r1 => ?_⟩
  have w1 := w.ext e1
  show spB X.K sp ((.ref b :: xs) ++ []) H1 Q _
  rw [List.append_nil]
  exact ⟨B, F1, b, xs, vs, P, rfl, hB, w1.fh, w1.bx, r1, p1, fun v x F' H' pv ex rx => q v x F' H' pv (e1.trans ex) rx⟩
/-- x = box(script, k) -/
def sBox (i : Nat) (fa : AW) : SW := fun ρ N _ => fa (hide ρ) fun vs => (∃ ns k, vs = [.scr ns, .int (k : Nat)]) ∧ N (ρ.set i (some .box))
theorem qs_box {i : Nat} {f0 : Addr} {fd : FuncData} {ps : List Str} {k : Nat} {x : Str} {p : Pos} (F : FnOk X.prog X.w X.K X.mg X.base CX0 k f0 fd ps (spBox X.K)) (hr : Room k X.A) (hg : Gl X x) (hm : X.mg x = some (.ref f0)) (hk : PySem.W.keepIn X.K (.ref f0) = true) (hb : Binds X.K fd ps [])
    (h : ∀ te, PE X (.Call (.Name x p) (e :: es) [] pos) te → PS X st (tAsg te (gName i))) (ha : PPs X (e :: es) fa) (hdb : (x == ("__debug__" : Str)) = false := by decide) (he : starEach (e :: es) X.env = (false, eval e X.env) :: starEach es X.env := by rfl) (hpl : (backTo pos (starEach es X.env)).any (·.1) = false := by rfl) : QS X m st (sBox i fa) :=
  PS.weak (h _ (pe_call F hr hg hm hk hb .nil pass0 ha hdb he hpl)) fun D σ H ⟨B0, F0, H0, F, ρ, N, R, w, p, q, r⟩ => by
  refine ⟨_, F, _, _, w.h, p, fun vs xs F1 H1 ⟨⟨ns, j, ev⟩, pn⟩ e1 r1 => ?_⟩
  subst ev
  obtain ⟨y, z, rfl, ry, rz⟩ := r1.two
  rw [Rep] at ry; rw [Rep] at rz
  obtain ⟨a, rfl, sq⟩ := ry
  subst rz
  have w1 := w.backH e1
  refine ⟨a, ns, j, rfl, sq.elim (fun z => .inl (Rd.mono w1.ext.fh z)) .inr, fun H2 b n s2 hb eb => ?_⟩
  have ex : Ext (Bs B0 σ ρ) F1 H1 F1 H2 := ⟨fun _ _ z => z, w1.ext.fh.trans s2, fun _ n _ => n, fun a o _ e => s2 a o e, fun a ba => by
    obtain ⟨m, e⟩ := ((w1.h).bx a ba).2
    exact ⟨m, s2 _ _ e⟩⟩
  have w2 := w1.backH ex
  exact q _ _ _ _ pn e1.ff (w2.setO i (c := .box) rfl ⟨b, n, rfl, none_of w1.ext.fh hb, .inr (w1.h0 hb), eb⟩ fun j d _ e o => w1.noOwner hb j d e o)
end
/-! ### the law's own beginning -/
theorem sp_law_of {K : PySem.W.Frag} {sp : PV → (PV → Prop) → Prop} (h : ∀ ns : List Int, ns.length ≤ 63 → sp (.scr ns) (fun v => v = .bl true)) (xs : List V) (H : Hp) (Q : VK) (E : XK) (q : sp_law K xs H Q E) : spP K (S1 sp) xs H Q E := by
  obtain ⟨a, ns, rfl, hS, hl, k⟩ := q
  refine ⟨fun _ => False, H, [.scr ns], _, fun _ _ z => z, fun _ z => z.elim, Reps.cons (by rw [Rep]; exact ⟨a, rfl, hS⟩) Reps.nil, h ns hl, fun v x F' H' pv ex rx => ?_⟩
  subst pv; rw [Rep] at rx; subst rx
  exact k H'
end KV
namespace KV
open PySem PySem.Spec PyProof.Rows L2 KGX
section
variable {m : Bool} {X : Cx} {a b : Expr} {pos : Pos} {f g : EW} {K : PySem.W.Frag}
def mAt : OW := fun v w k => match v with
  | .dic kvs => ∃ ks d, keyOf w = some ks ∧ lookD kvs ks = some d ∧ k d
  | v => onI (fun i => onS (fun xs => ∃ d, atI xs i = some d ∧ k d) v) w
theorem mp_at (hu : X.A.units + 64 < cLine) (ha : PP X a f) (hb : PP X b g) (hs : PlainIx b) : PP X (.Subscript a b pos) (eBin mAt f g) :=
  pp_ix (r := rOr (rIxS X.K) rIxM) (IxR.or ix_seq (ix_md hu)) ((opv_or opv_ix opv_ixD).weak fun v w k q => by
    unfold mAt at q
    split at q
    · obtain ⟨ks, d, h1, h2, h3⟩ := q; exact .inr ⟨_, ks, d, rfl, h1, h2, h3⟩
    · obtain ⟨i, rfl, q⟩ := onI_ex q
      obtain ⟨xs, e, d, h1, h2⟩ := onS_ex q
      exact .inl ⟨xs, i, d, e, rfl, h1, h2⟩) ha hb hs
end
section
variable {P : Program} {w : World} {K : PySem.W.Frag} {mg : Str → Option Value} {base : Heap} {CX : CXT} {k : Nat} {f : Addr} {fd : FuncData} {ps : List Str} {sp sp' : Sp}
theorem FnOk.weak (F : FnOk P w K mg base CX k f fd ps sp) (h : ∀ xs H Q E, sp' xs H Q E → sp xs H Q E) : FnOk P w K mg base CX k f fd ps sp' :=
  ⟨fun vs H Q E q => F.len vs H Q E (h _ _ _ _ q), fun A outer s H args us vs Q E hr e hb r q => F.run A outer s H args us vs Q E hr e hb r (h _ _ _ _ q)⟩
theorem FnG.weak (F : KG.FnG P w K mg base k f fd ps sp) (h : ∀ xs H Q E, sp' xs H Q E → sp xs H Q E) : KG.FnG P w K mg base k f fd ps sp' :=
  ⟨fun vs H Q E q => F.len vs H Q E (h _ _ _ _ q), fun A outer s H args us vs Q E hg hr e hb r q => F.run A outer s H args us vs Q E hg hr e hb r (h _ _ _ _ q)⟩
theorem len1 {p : PV → (PV → Prop) → Prop} {xs : List V} {H : Hp} {Q : VK} {E : XK} (h : spP K (S1 p) xs H Q E) : xs.length = 1 := by
  obtain ⟨B, F, vs, P, _, _, r, q, _⟩ := h
  rw [r.len]; unfold S1 at q; split at q <;> first | rfl | exact q.elim
theorem len2 {p : PV → PV → (PV → Prop) → Prop} {xs : List V} {H : Hp} {Q : VK} {E : XK} (h : spP K (S2 p) xs H Q E) : xs.length = 2 := by
  obtain ⟨B, F, vs, P, _, _, r, q, _⟩ := h
  rw [r.len]; unfold S2 at q; split at q <;> first | rfl | exact q.elim
theorem len3 {p : PV → PV → PV → (PV → Prop) → Prop} {xs : List V} {H : Hp} {Q : VK} {E : XK} (h : spP K (S3 p) xs H Q E) : xs.length = 3 := by
  obtain ⟨B, F, vs, P, _, _, r, q, _⟩ := h
  rw [r.len]; unfold S3 at q; split at q <;> first | rfl | exact q.elim
theorem len4 {p : PV → PV → PV → PV → (PV → Prop) → Prop} {xs : List V} {H : Hp} {Q : VK} {E : XK} (h : spP K (S4 p) xs H Q E) : xs.length = 4 := by
  obtain ⟨B, F, vs, P, _, _, r, q, _⟩ := h
  rw [r.len]; unfold S4 at q; split at q <;> first | rfl | exact q.elim
theorem len5 {p : PV → PV → PV → PV → PV → (PV → Prop) → Prop} {xs : List V} {H : Hp} {Q : VK} {E : XK} (h : spP K (S5 p) xs H Q E) : xs.length = 5 := by
  obtain ⟨B, F, vs, P, _, _, r, q, _⟩ := h
  rw [r.len]; unfold S5 at q; split at q <;> first | rfl | exact q.elim
theorem lenB {n : Nat} {sp : CW} (hs : ∀ vs P, sp vs P → vs.length = n) {xs : List V} {H : Hp} {Q : VK} {E : XK} (h : spB K sp xs H Q E) : xs.length = n + 1 := by
  obtain ⟨B, F, b, ys, vs, P, rfl, _, _, _, r, q, _⟩ := h
  rw [List.length_cons, r.len, hs vs P q]
theorem ln0 {p : (PV → Prop) → Prop} (vs : List PV) (P : PV → Prop) (q : S0 p vs P) : vs.length = 0 := by unfold S0 at q; split at q <;> first | rfl | exact q.elim
theorem ln1 {p : PV → (PV → Prop) → Prop} (vs : List PV) (P : PV → Prop) (q : S1 p vs P) : vs.length = 1 := by unfold S1 at q; split at q <;> first | rfl | exact q.elim
theorem ln2 {p : PV → PV → (PV → Prop) → Prop} (vs : List PV) (P : PV → Prop) (q : S2 p vs P) : vs.length = 2 := by unfold S2 at q; split at q <;> first | rfl | exact q.elim
theorem ln3 {p : PV → PV → PV → (PV → Prop) → Prop} (vs : List PV) (P : PV → Prop) (q : S3 p vs P) : vs.length = 3 := by unfold S3 at q; split at q <;> first | rfl | exact q.elim
theorem ln4 {p : PV → PV → PV → PV → (PV → Prop) → Prop} (vs : List PV) (P : PV → Prop) (q : S4 p vs P) : vs.length = 4 := by unfold S4 at q; split at q <;> first | rfl | exact q.elim
/-- the bodies' starts -/
theorem rn1 {n : Nat} {s : SW} {p : PV → (PV → Prop) → Prop} {c : List Cell} (h : ∀ a k, p a k → run n s (c ++ [.fr a]) k) (vs : List PV) (P : PV → Prop) (q : S1 p vs P) : run n s (c ++ vs.map .fr) P := by unfold S1 at q; split at q <;> first | exact h _ _ q | exact q.elim
theorem rn2 {n : Nat} {s : SW} {p : PV → PV → (PV → Prop) → Prop} {c : List Cell} (h : ∀ a b k, p a b k → run n s (c ++ [.fr a, .fr b]) k) (vs : List PV) (P : PV → Prop) (q : S2 p vs P) : run n s (c ++ vs.map .fr) P := by unfold S2 at q; split at q <;> first | exact h _ _ _ q | exact q.elim
theorem rn3 {n : Nat} {s : SW} {p : PV → PV → PV → (PV → Prop) → Prop} {c : List Cell} (h : ∀ a b d k, p a b d k → run n s (c ++ [.fr a, .fr b, .fr d]) k) (vs : List PV) (P : PV → Prop) (q : S3 p vs P) : run n s (c ++ vs.map .fr) P := by unfold S3 at q; split at q <;> first | exact h _ _ _ _ q | exact q.elim
theorem rn4 {n : Nat} {s : SW} {p : PV → PV → PV → PV → (PV → Prop) → Prop} {c : List Cell} (h : ∀ a b d e k, p a b d e k → run n s (c ++ [.fr a, .fr b, .fr d, .fr e]) k) (vs : List PV) (P : PV → Prop) (q : S4 p vs P) : run n s (c ++ vs.map .fr) P := by unfold S4 at q; split at q <;> first | exact h _ _ _ _ _ q | exact q.elim
theorem rn5 {n : Nat} {s : SW} {p : PV → PV → PV → PV → PV → (PV → Prop) → Prop} {c : List Cell} (h : ∀ a b d e g k, p a b d e g k → run n s (c ++ [.fr a, .fr b, .fr d, .fr e, .fr g]) k) (vs : List PV) (P : PV → Prop) (q : S5 p vs P) : run n s (c ++ vs.map .fr) P := by unfold S5 at q; split at q <;> first | exact h _ _ _ _ _ _ q | exact q.elim
theorem rn0 {n : Nat} {s : SW} {p : (PV → Prop) → Prop} {c : List Cell} (h : ∀ k, p k → run n s c k) (vs : List PV) (P : PV → Prop) (q : S0 p vs P) : run n s (c ++ vs.map .fr) P := by
  unfold S0 at q
  split at q
  · rw [List.map_nil, List.append_nil]; exact h _ q
  · exact q.elim
/-! a digit of the box -/
@[irreducible] def pTake (m : PV) (k : PV → Prop) : Prop := onI (fun m => (0 < m ∧ m.natAbs.log2 < 9000) ∧ ∀ d, 0 ≤ d → d < m → k (.int d)) m
theorem take_of (xs : List V) (H : Hp) (Q : VK) (E : XK) (h : spB K (S1 pTake) xs H Q E) : spTake xs H Q E := by
  obtain ⟨B, F, b, ys, vs, P, rfl, hB, sm, bx, r, q, k⟩ := h
  unfold S1 at q
  split at q
  case h_2 => exact q.elim
  unfold pTake at q
  obtain ⟨m, rfl, ⟨h0, hl⟩, q⟩ := onI_ex q
  obtain ⟨y, rfl, ry⟩ := r.one
  rw [Rep] at ry; subst ry
  obtain ⟨fb, n, hb⟩ := bx b hB
  refine ⟨b, n, m, rfl, hb, h0, hl, fun H' n' d kp hb' d0 d1 => ?_⟩
  have nb : ∀ a o, F a = some o → a ≠ b := fun a o e z => by rw [z, fb] at e; exact nomatch e
  refine k _ _ F H' (q d d0 d1) ⟨fun _ _ z => z, fun a o e => kp a o (nb a o e) (sm a o e), fun _ n _ => n, fun a o na e => kp a o (fun z => na (by rw [z]; exact hB)) e, fun a ha => ?_⟩ (by rw [Rep])
  by_cases z : a = b
  · rw [z]; exact ⟨n', hb'⟩
  · obtain ⟨n2, e⟩ := (bx a ha).2
    exact ⟨n2, kp a _ z e⟩
/-! the greatest that divides both -/
@[irreducible] def pGcd (a b : PV) (k : PV → Prop) : Prop := onI (fun a => onI (fun b => 0 ≤ b ∧ k (.int (Int.gcd a b : Int))) b) a
theorem gcd_of (xs : List V) (H : Hp) (Q : VK) (E : XK) (h : spP K (S2 pGcd) xs H Q E) : sp_greatest_divisor xs H Q E := by
  obtain ⟨B, F, vs, P, sm, bx, r, q, k⟩ := h
  unfold S2 at q
  split at q
  case h_2 => exact q.elim
  unfold pGcd at q
  obtain ⟨a, rfl, q2⟩ := onI_ex q
  obtain ⟨b, rfl, hb, q3⟩ := onI_ex q2
  obtain ⟨x, y, rfl, rx, ry⟩ := r.two
  rw [Rep] at rx ry; subst rx ry
  exact ⟨a, b, rfl, hb, k _ _ F H q3 (.refl sm fun a h => (bx a h).2) (by rw [Rep])⟩
@[irreducible] def pGcd2 (a b : PV) (k : PV → Prop) : Prop := onI (fun a => onI (fun b => (0 ≤ a ∧ 0 ≤ b) ∧ k (.int (Int.gcd a b : Int))) b) a
theorem gcd2_of (xs : List V) (H : Hp) (Q : VK) (E : XK) (h : spP K (S2 pGcd2) xs H Q E) : spGcd xs H Q E := by
  obtain ⟨B, F, vs, P, sm, bx, r, q, k⟩ := h
  unfold S2 at q
  split at q
  case h_2 => exact q.elim
  unfold pGcd2 at q
  obtain ⟨a, rfl, q2⟩ := onI_ex q
  obtain ⟨b, rfl, hb, q3⟩ := onI_ex q2
  obtain ⟨x, y, rfl, rx, ry⟩ := r.two
  rw [Rep] at rx ry; subst rx ry
  exact ⟨a, b, rfl, hb.1, hb.2, k _ _ F H q3 (.refl sm fun a h => (bx a h).2) (by rw [Rep])⟩
end
theorem v_take {m : Int} {k : PV → Prop} (h0 : 0 < m) (h1 : m ≤ 100000) (q : ∀ d, 0 ≤ d → d < m → k (.int d)) : pTake (.int m) k := by unfold pTake; exact ⟨⟨h0, small_log' (by omega) h1⟩, q⟩
theorem v_gcd {a b : Int} {k : PV → Prop} (h : 0 ≤ b) (q : k (.int (Int.gcd a b : Int))) : pGcd (.int a) (.int b) k := by unfold pGcd; exact ⟨h, q⟩
theorem v_gcd2 {a b : Int} {k : PV → Prop} (h0 : 0 ≤ a) (h : 0 ≤ b) (q : k (.int (Int.gcd a b : Int))) : pGcd2 (.int a) (.int b) k := by unfold pGcd2; exact ⟨⟨h0, h⟩, q⟩
end KV

namespace KV
open PySem PySem.Spec PyProof.Rows L2 KGX
section
variable {K : PySem.W.Frag} {B0 : Addr → Prop} {F0 H0 F H : Hp} {σ : L2.St} {ρ : Rho}
/-- what is owned is known from now on -/
theorem Ws.freeze (w : Ws K B0 F0 H0 F H σ ρ) {j : Nat} {v : PV} (e : ρ[j]? = some (some (.ow v))) : ∃ a F', σ[j]? = some (some (.ref a)) ∧ Same F F' ∧ Ws K B0 F0 H0 F' H σ (ρ.set j (some (.fr v))) ∧ Rep K F' (.ref a) v := by
  obtain ⟨x, e1, a, o, rfl, h1, h2, h3, h4⟩ := w.sl j _ e
  have sF : Same F (upd F a o) := same_new h1
  have rA : Rep K (upd F a o) (.ref a) v := h4.rep h1
  have hl : j < ρ.length := (List.getElem?_eq_some_iff.mp e).1
  refine ⟨a, upd F a o, e1, sF, ⟨⟨w.ext.ff.trans sF, fun b u q => ?_, fun b n hb => ?_, w.ext.keep, w.ext.box⟩, w.b0, fun i c q => ?_, by rw [List.length_set]; exact w.len, fun i k c d b hik q1 q2 o1 o2 s1 s2 => ?_⟩, rA⟩
  · by_cases z : b = a
    · subst z; rw [upd_same] at q; rw [h3]; exact q
    · rw [upd_ne z] at q; exact w.ext.fh b u q
  · rw [upd_ne (fun z => hb.1 (by rw [z]; exact h2))]; exact w.ext.new b n hb
  · by_cases z : j = i
    · subst z
      rw [List.getElem?_set_self hl] at q; cases q
      exact ⟨_, e1, rA⟩
    · rw [List.getElem?_set_ne z] at q
      obtain ⟨x, e5, r⟩ := w.sl i c q
      refine ⟨x, e5, ?_⟩
      cases c with
      | fr u => exact Rep.mono sF u r
      | ow u =>
        obtain ⟨b, u', rfl, g1, g2, g3, g4⟩ := r
        have nz : b ≠ a := fun y => by subst y; exact w.dist j i _ _ b z e q rfl rfl e1 e5
        exact ⟨b, u', rfl, by rw [upd_ne nz]; exact g1, g2, g3, g4.mono sF⟩
      | box =>
        obtain ⟨b, n, rfl, g1, g2, g3⟩ := r
        have nz : b ≠ a := fun y => by subst y; exact w.dist j i _ _ b z e q rfl rfl e1 e5
        exact ⟨b, n, rfl, by rw [upd_ne nz]; exact g1, g2, g3⟩
  · have back : ∀ {m : Nat} {u : Cell}, (ρ.set j (some (.fr v)))[m]? = some (some u) → owner u = true → ρ[m]? = some (some u) := fun {m u} q o => by
      by_cases z : j = m
      · subst z; rw [List.getElem?_set_self hl] at q; cases q; exact nomatch o
      · rw [List.getElem?_set_ne z] at q; exact q
    exact w.dist i k c d b hik (back q1 o1) (back q2 o2) o1 o2 s1 s2
end
section
variable {m : Bool} {X : Cx} {e a b : Expr} {st : Stmt} {pos : Pos} {f g : EW} {fa : AW} {K : PySem.W.Frag}
/-- x = y, y owned: both know it from now on -/
def sMove (i j : Nat) : SW := fun ρ N _ => match ρ[j]? with
  | some (some (.ow v)) => N ((ρ.set j (some (.fr v))).set i (some (.fr v)))
  | _ => False
theorem qs_move {i j : Nat} (h : PS X st (tAsg (tVar j) (gName i))) : QS X m st (sMove i j) := PS.weak h fun D σ H ⟨B0, F0, H0, F, ρ, N, R, w, p, q, r⟩ => by
  unfold sMove at p
  split at p
  case h_2 => exact p.elim
  rename_i v e
  obtain ⟨a, F', e1, sF, w', rA⟩ := w.freeze e
  exact ⟨_, e1, q _ _ _ _ p sF (w'.set i rA)⟩
/-- x, y = e, f -/
def sPar (i j : Nat) (fa : AW) : SW := fun ρ N _ => fa (hide ρ) fun vs => match vs with
  | [v, w] => N ((ρ.set i (some (.fr v))).set j (some (.fr w)))
  | _ => False
theorem qs_par {es : List Expr} {i j : Nat} (h : PA X es (tAs X.K fa) → PS X st (tPar i j (tAs X.K fa))) (ha : PPs X es fa) : QS X m st (sPar i j fa) := PS.weak (h ha) fun D σ H ⟨B0, F0, H0, F, ρ, N, R, w, p, q, r⟩ =>
  ⟨_, F, _, _, w.h, p, fun vs xs F' H' pv ex rx => by
    split at pv
    case h_2 => exact pv.elim
    obtain ⟨x, y, rfl, r1, r2⟩ := rx.two
    exact ⟨x, y, rfl, q _ _ _ _ pv ex.ff (((w.backH ex).set i r1).set j r2)⟩⟩
end
/-! ### a def's function, shut: the kernel does not look into it -/
theorem shut_ex {α : Type} (x : α) : ∃ y : α, y = x := ⟨x, rfl⟩
noncomputable def shut {α : Type} (x : α) : α := Classical.choose (shut_ex x)
theorem shut_eq {α : Type} (x : α) : shut x = x := Classical.choose_spec (shut_ex x)
/-! ### pure: loops -/
theorem for_inv {gw : GW} {sb : SW} {N : Rho → Prop} {R : PV → Prop} (I : Nat → Rho → Prop) : ∀ {ds : List PV} {ρ : Rho} (h0 : I 0 ρ)
    (step : ∀ i d ρ' M, ds[i]? = some d → I i ρ' → (∀ ρ2, I (i + 1) ρ2 → M ρ2) → gw d ρ' fun ρ1 => sb ρ1 M R) (fin : ∀ ρ', I ds.length ρ' → N ρ'), forW gw sb ds ρ N R := by
  intro ds
  induction ds generalizing I with
  | nil => intro ρ h0 _ fin; exact fin ρ h0
  | cons d ds ih =>
    intro ρ h0 step fin
    refine step 0 d ρ _ rfl h0 fun ρ2 h2 => ?_
    refine ih (fun i => I (i + 1)) h2 (fun i d' ρ' M e h k => ?_) fun ρ' h => fin ρ' (by rw [List.length_cons]; exact h)
    exact step (i + 1) d' ρ' M (by rw [List.getElem?_cons_succ]; exact e) h k
theorem for_rng {gw : GW} {sb : SW} {N : Rho → Prop} {R : PV → Prop} {lo : Int} {n : Nat} {ρ : Rho} (I : Nat → Rho → Prop) (h0 : I 0 ρ)
    (step : ∀ i ρ' M, i < n → I i ρ' → (∀ ρ2, I (i + 1) ρ2 → M ρ2) → gw (.int (lo + i)) ρ' fun ρ1 => sb ρ1 M R) (fin : ∀ ρ', I n ρ' → N ρ') : forW gw sb ((rgI lo n).map .int) ρ N R := by
  refine for_inv I h0 (fun i d ρ' M e h k => ?_) fun ρ' h => fin ρ' (by rw [List.length_map, rgI_len] at h; exact h)
  have hi : i < n := by
    have := (List.getElem?_eq_some_iff.mp e).1
    rw [List.length_map, rgI_len] at this; exact this
  rw [List.getElem?_map, rgI_at hi] at e
  cases e
  exact step i ρ' M hi h k
/-- a comprehension without a test -/
theorem lc_map {gw : GW} {f : EW} {ρ : Rho} {k : PV → Prop} (g : PV → PV) : ∀ {ds acc : List PV} (h : ∀ d ∈ ds, ∀ M : PV → Prop, M (g d) → gw d ρ fun ρ1 => f ρ1 M) (hl : acc.length + ds.length ≤ 1000000) (hk : k (.lst (acc ++ ds.map g))), lcW gw tYesW f ρ k ds acc
  | [], acc, _, _, hk => by rw [List.map_nil, List.append_nil] at hk; exact hk
  | d :: ds, acc, h, hl, hk => by
    rw [List.length_cons] at hl
    refine h d List.mem_cons_self _ ⟨by omega, lc_map g (fun d' hd => h d' (List.mem_cons_of_mem _ hd)) ?_ ?_⟩
    · rw [List.length_append]; show acc.length + 1 + ds.length ≤ 1000000; omega
    · rw [List.append_assoc]; exact hk
/-- .. with one -/
theorem lc_filter {gw : GW} {t : TW} {f : EW} {ρ : Rho} {k : PV → Prop} (p : PV → Bool) (g : PV → PV) : ∀ {ds acc : List PV} (h : ∀ d ∈ ds, ∀ A B : Prop, ∀ M : PV → Prop, (p d = true → M (g d)) → (p d = false → B) → gw d ρ fun ρ1 => t ρ1 fun b => if b = true then f ρ1 M else B) (hl : acc.length + ds.length ≤ 1000000) (hk : k (.lst (acc ++ (ds.filter p).map g))), lcW gw t f ρ k ds acc
  | [], acc, _, _, hk => by rw [List.filter_nil, List.map_nil, List.append_nil] at hk; exact hk
  | d :: ds, acc, h, hl, hk => by
    rw [List.length_cons] at hl
    refine h d List.mem_cons_self True _ _ (fun hp => ⟨by omega, lc_filter p g (fun d' hd => h d' (List.mem_cons_of_mem _ hd)) ?_ ?_⟩) (fun hp => lc_filter p g (fun d' hd => h d' (List.mem_cons_of_mem _ hd)) (by omega) ?_)
    · rw [List.length_append]; show acc.length + 1 + ds.length ≤ 1000000; omega
    · rw [List.filter_cons_of_pos hp, List.map_cons] at hk
      rw [List.append_assoc]; exact hk
    · rw [List.filter_cons_of_neg (by rw [hp]; decide)] at hk; exact hk
theorem ifT {p : Prop} [Decidable p] {A B : Prop} (h : p) (a : A) : if decide p = true then A else B := by rw [if_pos (decide_eq_true h)]; exact a
theorem ifF {p : Prop} [Decidable p] {A B : Prop} (h : ¬ p) (b : B) : if decide p = true then A else B := by rw [if_neg (fun z => h (of_decide_eq_true z))]; exact b
theorem ifNT {p : Prop} [Decidable p] {A B : Prop} (h : ¬ p) (a : A) : if (!decide p) = true then A else B := by rw [decide_eq_false h]; exact a
theorem ifNF {p : Prop} [Decidable p] {A B : Prop} (h : p) (b : B) : if (!decide p) = true then A else B := by rw [decide_eq_true h]; exact b
theorem ifD {p : Prop} [Decidable p] {A B : Prop} (ha : p → A) (hb : ¬ p → B) : if decide p = true then A else B := by
  by_cases h : p
  · exact ifT h (ha h)
  · exact ifF h (hb h)
theorem sm62 {j : Int} (h : -1000000 ≤ j) (h2 : j ≤ 1000000) : small62 j := ⟨by omega, by omega⟩
theorem cm_r {i j : Int} (h : j.natAbs < 2 ^ 60) : CM i j := .inl (.inr ⟨by omega, by omega⟩)
theorem cm_l {i j : Int} (h : i.natAbs < 2 ^ 60) : CM i j := .inl (.inl ⟨by omega, by omega⟩)
theorem cdiv {i j : Int} (h : 0 < j) (h2 : j ≤ 1000000) : CDivW i j := ⟨h, small_log (by omega)⟩
end KV

namespace KV
open PySem PySem.Spec PyProof.Rows L2 KGX
section
variable {m : Bool} {X : Cx} {e a b : Expr} {es : List Expr} {st : Stmt} {pos : Pos} {f g : EW} {fa : AW} {K : PySem.W.Frag}
/-- a written tuple of ints -/
def WTup (K : PySem.W.Frag) (a : Addr) (ns : List Int) : Prop := ∃ (o : Obj) (its : Array Value) (n : Nat), K.lookup a = some o ∧ o.cls = .type "tuple" ∧ o.data = .seq its n ∧ its.size ≤ sizeLine ∧ Vals (ns.map V.int) its.toList
theorem pp_globW {x : Str} {a : Addr} {ns : List Int} (hg : Gl X x) (hm : X.mg x = some (.ref a)) (hk : WTup X.K a ns) (hdb : (x == ("__debug__" : Str)) = false := by decide) : PP X (.Name x pos) (eC (.cst (ns.map .int))) := by
  obtain ⟨o, its, n, h1, h2, h3, h4, h5⟩ := hk
  exact pp_globT hg hm h1 h2 h3 h4 h5 hdb
/-- a def that tells a new list or dict -/
theorem pf_call {f0 : Addr} {fd : FuncData} {ps : List Str} {k : Nat} {sp : CW} {x : Str} {p : Pos} (F : FnOk X.prog X.w X.K X.mg X.base CX0 k f0 fd ps (spO X.K sp)) (hr : Room k X.A) (hg : Gl X x) (hm : X.mg x = some (.ref f0)) (hk : PySem.W.keepIn X.K (.ref f0) = true) (hb : Binds X.K fd ps [])
    (ha : PPs X (e :: es) fa) (hdb : (x == ("__debug__" : Str)) = false := by decide) (he : starEach (e :: es) X.env = (false, eval e X.env) :: starEach es X.env := by rfl) (hpl : (backTo pos (starEach es X.env)).any (·.1) = false := by rfl) : PF X (.Call (.Name x p) (e :: es) [] pos) (eCall sp fa) :=
  PE.weak (pe_call F hr hg hm hk hb .nil pass0 ha hdb he hpl) fun σ H Q ⟨B, F, ρ, P, w, p, q⟩ => by
  refine ⟨B, F, ρ, _, w, p, fun vs xs F1 H1 p1 e1 r1 => ?_⟩
  have w1 := w.ext e1
  show spO X.K sp (xs ++ []) H1 Q _
  rw [List.append_nil]
  exact ⟨B, F1, vs, P, w1.fh, w1.bx, r1, p1, fun v c o F' H' pv ex fc hc ho ow => q v c o F' H' pv (e1.trans ex) fc (e1.none hc) ho ow⟩
/-- f(box(script, k), ..) -/
def eCallBB (sp : CW) (fb fa : AW) : EW := fun ρ k => fb ρ fun us => (∃ ns j, us = [.scr ns, .int (j : Nat)]) ∧ fa ρ fun vs => sp vs k
theorem pp_callBB {f0 f1 : Addr} {fd fd1 : FuncData} {ps ps1 : List Str} {k k1 : Nat} {sp : CW} {x y : Str} {p py pos2 : Pos} {d : Expr} {ds : List Expr} {fb : AW} (F : FnOk X.prog X.w X.K X.mg X.base CX0 k f0 fd ps (spB X.K sp)) (hr : Room k X.A) (hg : Gl X x) (hm : X.mg x = some (.ref f0)) (hk : PySem.W.keepIn X.K (.ref f0) = true) (hb : Binds X.K fd ps [])
    (F1 : FnOk X.prog X.w X.K X.mg X.base CX0 k1 f1 fd1 ps1 (spBox X.K)) (hr1 : Room k1 X.A) (hg1 : Gl X y) (hm1 : X.mg y = some (.ref f1)) (hk1 : PySem.W.keepIn X.K (.ref f1) = true) (hb1 : Binds X.K fd1 ps1 [])
    (hd : PPs X (d :: ds) fb) (ha : PPs X es fa) (hdb : (x == ("__debug__" : Str)) = false := by decide) (hdb1 : (y == ("__debug__" : Str)) = false := by decide) (he1 : starEach (d :: ds) X.env = (false, eval d X.env) :: starEach ds X.env := by rfl) (hpl1 : (backTo pos2 (starEach ds X.env)).any (·.1) = false := by rfl)
    (he : starEach (Expr.Call (.Name y py) (d :: ds) [] pos2 :: es) X.env = (false, eval (.Call (.Name y py) (d :: ds) [] pos2) X.env) :: starEach es X.env := by rfl) (hpl : (backTo pos (starEach es X.env)).any (·.1) = false := by rfl) :
    PP X (.Call (.Name x p) (.Call (.Name y py) (d :: ds) [] pos2 :: es) [] pos) (eCallBB sp fb fa) :=
  PE.weak (pe_call F hr hg hm hk hb .nil pass0 (pa_cons (pe_call F1 hr1 hg1 hm1 hk1 hb1 .nil pass0 hd hdb1 he1 hpl1) ha he) hdb he hpl) fun σ H Q ⟨B, F, ρ, P, w, p, q⟩ => by
  refine ⟨B, F, ρ, _, w, p, fun us xs F1 H1 ⟨⟨ns, j, ev⟩, pa⟩ e1 r1 => ?_⟩
  subst ev
  have w1 := w.ext e1
  obtain ⟨y, z, rfl, ry, rz⟩ := r1.two
  rw [Rep] at ry; rw [Rep] at rz
  obtain ⟨c, rfl, sq⟩ := ry
  subst rz
  refine ⟨c, ns, j, rfl, sq.elim (fun z => .inl (Rd.mono w1.fh z)) .inr, fun H2 b n s2 hb eb => ?_⟩
  have fb : F1 b = none := none_of w1.fh hb
  have nB : ¬ B b := fun z => by
    obtain ⟨n, e⟩ := (w1.bx b z).2
    rw [hb] at e; exact nomatch e
  have w2 : Wx X.K (fun a => B a ∨ a = b) F1 H2 σ ρ := by
    refine ⟨w1.fh.trans s2, fun a ha => ?_, fun i c q => ?_, w1.len⟩
    · rcases ha with ha | rfl
      · obtain ⟨h1, n, e⟩ := w1.bx a ha
        exact ⟨h1, n, s2 _ _ e⟩
      · exact ⟨fb, n, eb⟩
    · obtain ⟨x, e1, r⟩ := w1.sl i c q
      refine ⟨x, e1, ?_⟩
      cases c with
      | fr v => exact r
      | ow v => exact r
      | box => obtain ⟨d, rfl, hd⟩ := r; exact ⟨d, rfl, .inl hd⟩
  have hb0 : H b = none := e1.none hb
  refine ⟨_, F1, ρ, _, w2, pa, fun vs xs F3 H3 p3 e3 r3 => ?_⟩
  have w3 := w2.ext e3
  show spB X.K sp ((.ref b :: xs) ++ []) H3 Q _
  rw [List.append_nil]
  refine ⟨_, F3, b, xs, vs, P, rfl, .inr rfl, w3.fh, w3.bx, r3, p3, fun v x F' H' pv ex rx => q v x F' H' pv ?_ rx⟩
  have e4 := e3.trans ex
  refine ⟨e1.ff.trans e4.ff, e4.fh, fun a h1 h2 => e4.new a (e1.new a h1 h2) ?_, fun a o h1 h2 => e4.keep a o (fun z => z.elim h1 fun z => by rw [z, hb0] at h2; exact nomatch h2) (s2 _ _ (e1.keep a o h1 h2)), fun a ha => e4.box a (.inl ha)⟩
  have h3 := e1.thereN h2
  cases h4 : H1 a with
  | none => exact (h3.1 h4).elim
  | some o => rw [s2 a o h4, ← h4]; exact h3
/-- {k: v}, k a tuple -/
def eDisp1 (f g : EW) : EW := fun ρ k => f ρ fun v => g ρ fun w => (∃ ks, keyOf v = some ks) ∧ k (.dic [(v, w)])
theorem ext_over {B : Addr → Prop} {F H F2 H2 : Hp} {d : Addr} {o : HO} (e : Ext B F H F2 H2) (fd : F2 d = none) (hd : H d = none) (nB : ¬ B d) : Ext B F H F2 (upd H2 d o) :=
  ⟨e.ff, fun a u q => by rw [upd_ne (fun z => by rw [z, fd] at q; exact nomatch q)]; exact e.fh a u q, e.new, fun a u h1 h2 => by rw [upd_ne (fun z => by rw [z, hd] at h2; exact nomatch h2)]; exact e.keep a u h1 h2,
    fun a ha => by rw [upd_ne (fun z => nB (by rw [← z]; exact ha))]; exact e.box a ha⟩
theorem pf_disp1 (hu : X.A.units + 64 < cLine) (hk : PP X a f) (hv : PP X b g) : PF X (.Dict [some a] [b] pos) (eDisp1 f g) := PE.weak (pe_dispM hu hk hv) fun σ H Q ⟨B, F, ρ, P, w, p, q⟩ => fun d hd hsy => by
  have fd : F d = none := none_of w.fh hd
  have nB : ¬ B d := fun z => by
    obtain ⟨n, e⟩ := (w.bx d z).2
    rw [hd] at e; exact nomatch e
  have e0 : Ext B F H F (upd H d (.ext (RawD d [] 0))) := .own w.fh (fun a h => (w.bx a h).2) hd
  have w0 := w.ext e0
  refine ⟨B, F, ρ, _, w0, p, fun v x F1 H1 p1 e1 r1 => ⟨B, F1, ρ, _, w0.ext e1, p1, fun u y F2 H2 ⟨⟨ks, hks⟩, p2⟩ e2 r2 => ?_⟩⟩
  have hd1 : H1 d = some (.ext (RawD d [] 0)) := e1.keep d _ nB upd_same
  have hd2 : H2 d = some (.ext (RawD d [] 0)) := e2.keep d _ nB hd1
  have fd1 : F1 d = none := e1.new d fd (by rw [upd_same]; exact ⟨(fun z => nomatch z), fun xs z => nomatch z⟩)
  have fd2 : F2 d = none := e2.new d fd1 (by rw [hd1]; exact ⟨(fun z => nomatch z), fun xs z => nomatch z⟩)
  have w2 := (w0.ext e1).ext e2
  have r1' := Rep.mono e2.ff v r1
  obtain ⟨c, rfl, ka⟩ := r1'.key w2.fh hks
  refine ⟨hd2, ks, c, rfl, ka, fun u' ep ru => ?_⟩
  refine q _ d _ F2 _ p2 (ext_over (e0.trans (e1.trans e2)) fd2 hd nB) fd2 hd upd_same ⟨_, ep, rfl, ⟨hsy, by show 1 ≤ 1000000; decide, by simp⟩, ?_⟩
  rw [RepX]; exact ⟨⟨hks, r1', y, ru, r2⟩, by simp [RepX]⟩
end
section
variable {m : Bool} {X : Cx} {K : PySem.W.Frag} {fi fi1 : AW} {g g1 : TG} {gw gw1 : GW} {t t1 : TW} {f : EW} {is is1 : List Nat}
/-! ### comprehensions of two -/
def lcW1 (gw1 : GW) (t1 : TW) (f : EW) (ρ : Rho) (nx : List PV → Prop) : List PV → List PV → Prop
  | [], acc => nx acc
  | d :: ds, acc => gw1 d ρ fun ρ1 => t1 ρ1 fun b => if b = true then f ρ1 fun v => acc.length < 1000000 ∧ lcW1 gw1 t1 f ρ nx ds (acc ++ [v]) else lcW1 gw1 t1 f ρ nx ds acc
def lcW2 (gw : GW) (t : TW) (fi1 : AW) (gw1 : GW) (t1 : TW) (f : EW) (vs1 : List Nat) (ρ : Rho) (k : PV → Prop) : List PV → List PV → Prop
  | [], acc => k (.lst acc)
  | d :: ds, acc => gw d ρ fun ρ1 => t ρ1 fun b => if b = true then fi1 ρ1 fun es => lcW1 gw1 t1 f (wipeR ρ1 vs1) (fun acc' => lcW2 gw t fi1 gw1 t1 f vs1 ρ k ds acc') es acc else lcW2 gw t fi1 gw1 t1 f vs1 ρ k ds acc
def eLc2 (fi : AW) (gw : GW) (t : TW) (fi1 : AW) (gw1 : GW) (t1 : TW) (f : EW) (vs vs1 : List Nat) : EW := fun ρ k => fi ρ fun ds => lcW2 gw t fi1 gw1 t1 f vs1 (wipeR ρ vs) k ds []
end
theorem len1o {K : PySem.W.Frag} {p : PV → (PV → Prop) → Prop} {xs : List V} {H : Hp} {Q : VK} {E : XK} (h : spO K (S1 p) xs H Q E) : xs.length = 1 := by
  obtain ⟨B, F, vs, P, _, _, r, q, _⟩ := h
  rw [r.len]; exact ln1 vs P q
theorem ro1 {n : Nat} {s : SW} {p : PV → (PV → Prop) → Prop} (h : ∀ a k, p a k → s (stR n [.fr a]) (fun _ => False) k) (vs : List PV) (P : PV → Prop) (q : S1 p vs P) : s (stR n (vs.map .fr)) (fun _ => False) P := by unfold S1 at q; split at q <;> first | exact h _ _ q | exact q.elim
theorem len2o {K : PySem.W.Frag} {p : PV → PV → (PV → Prop) → Prop} {xs : List V} {H : Hp} {Q : VK} {E : XK} (h : spO K (S2 p) xs H Q E) : xs.length = 2 := by
  obtain ⟨B, F, vs, P, _, _, r, q, _⟩ := h
  rw [r.len]; exact ln2 vs P q
theorem ro2 {n : Nat} {s : SW} {p : PV → PV → (PV → Prop) → Prop} (h : ∀ a b k, p a b k → s (stR n [.fr a, .fr b]) (fun _ => False) k) (vs : List PV) (P : PV → Prop) (q : S2 p vs P) : s (stR n (vs.map .fr)) (fun _ => False) P := by unfold S2 at q; split at q <;> first | exact h _ _ _ q | exact q.elim
theorem len3o {K : PySem.W.Frag} {p : PV → PV → PV → (PV → Prop) → Prop} {xs : List V} {H : Hp} {Q : VK} {E : XK} (h : spO K (S3 p) xs H Q E) : xs.length = 3 := by
  obtain ⟨B, F, vs, P, _, _, r, q, _⟩ := h
  rw [r.len]; exact ln3 vs P q
theorem ro3 {n : Nat} {s : SW} {p : PV → PV → PV → (PV → Prop) → Prop} (h : ∀ a b d k, p a b d k → s (stR n [.fr a, .fr b, .fr d]) (fun _ => False) k) (vs : List PV) (P : PV → Prop) (q : S3 p vs P) : s (stR n (vs.map .fr)) (fun _ => False) P := by unfold S3 at q; split at q <;> first | exact h _ _ _ _ q | exact q.elim
theorem len4o {K : PySem.W.Frag} {p : PV → PV → PV → PV → (PV → Prop) → Prop} {xs : List V} {H : Hp} {Q : VK} {E : XK} (h : spO K (S4 p) xs H Q E) : xs.length = 4 := by
  obtain ⟨B, F, vs, P, _, _, r, q, _⟩ := h
  rw [r.len]; exact ln4 vs P q
theorem ro4 {n : Nat} {s : SW} {p : PV → PV → PV → PV → (PV → Prop) → Prop} (h : ∀ a b d e k, p a b d e k → s (stR n [.fr a, .fr b, .fr d, .fr e]) (fun _ => False) k) (vs : List PV) (P : PV → Prop) (q : S4 p vs P) : s (stR n (vs.map .fr)) (fun _ => False) P := by unfold S4 at q; split at q <;> first | exact h _ _ _ _ _ q | exact q.elim
section
variable {m : Bool} {X : Cx} {e e2 : Expr} {f g : EW} {K : PySem.W.Frag} {F : Hp}
/-! ### zip of two tuples -/
def zipP (xs ys : List PV) : List PV := List.zipWith (fun x y => .cst [x, y]) xs ys
theorem zipP_len (xs ys : List PV) : (zipP xs ys).length = min xs.length ys.length := by unfold zipP; rw [List.length_zipWith]
def wZip (f g : EW) : AW := fun ρ k => f ρ fun v => g ρ fun w => match v, w with
  | .tup xs, .tup ys => k (zipP xs ys)
  | _, _ => False
theorem itv_zipT {a b : Addr} {us ws : List V} {xs ys : List PV} (h1 : STup F a us) (h2 : STup F b ws) (r1 : Reps K F us xs) (r2 : Reps K F ws ys) : ItV K (RZ.ItzT K a b) F (zipP xs ys) := by
  have l1 := r1.len
  have l2 := r2.len
  have sa : ∀ H, Same F H → SqT K H a us := fun H s => h1.sq s
  have sb : ∀ H, Same F H → SqT K H b ws := fun H s => h2.sq s
  refine ⟨fun i H s hi => ?_, fun H s => ?_, fun i H x H' s hi y => ?_⟩
  · rw [zipP_len] at hi
    exact ⟨us, ws, us[i]'(by omega), ws[i]'(by omega), sa H s, sb H s, List.getElem?_eq_getElem _, List.getElem?_eq_getElem _⟩
  · rw [zipP_len]
    exact ⟨us, ws, sa H s, sb H s, by omega⟩
  · obtain ⟨T, u, w, rfl, hT, rfl, g1, g2⟩ := y
    have e1 := g1 us (sa H s)
    have e2 := g2 ws (sb H s)
    obtain ⟨d1, f1, q1⟩ := r1.to e1
    obtain ⟨d2, f2, q2⟩ := r2.to e2
    refine ⟨.cst [d1, d2], ?_, .inr ⟨T, [u, w], [d1, d2], rfl, hT, rfl, rfl, Reps.cons q1 (Reps.cons q2 Reps.nil)⟩⟩
    unfold zipP
    rw [List.getElem?_zipWith, f1, f2]
theorem qi_zip {p pos tpos : Pos} {elts : List Expr} {kk : Nat} (hg : Gl X "zip") (hm : X.mg "zip" = none) (ha : PP X e f) (hb : PP X e2 g) (hs : starEach [e, e2] X.env = (false, eval e X.env) :: starEach [e2] X.env := by rfl) (hs2 : starEach [e2] X.env = (false, eval e2 X.env) :: starEach [] X.env := by rfl) (hpl : (backTo pos (starEach [e2] X.env)).any (·.1) = false := by rfl) :
    QI X (.Tuple elts kk tpos) (.Call (.Name "zip" p) [e, e2] [] pos) (wZip f g) := PI.weak (RZ.pi_zipA hg hm (pa_cons ha (pa_cons hb pa_nil hs2) hs) hs hpl) fun σ H R ⟨B, F, ρ, P, w, p, q⟩ =>
  ⟨B, F, ρ, _, w, p, fun v x F1 H1 p1 ex rx => ⟨B, F1, ρ, _, w.ext ex, p1, fun u y F2 H2 p2 ex2 ry => by
    have rx2 := Rep.mono ex2.ff v rx
    split at p2
    case h_2 => exact p2.elim
    rw [Rep] at rx2 ry
    obtain ⟨a, us, rfl, ea, ra⟩ := rx2
    obtain ⟨b, ws, rfl, eb, rb⟩ := ry
    exact ⟨a, b, us, ws, rfl, .inr ⟨ea.sq ex2.fh, eb.sq ex2.fh, q _ _ F2 H2 p2 (ex.trans ex2) (itv_zipT ea eb ra rb)⟩⟩⟩⟩
end
section
variable {K : PySem.W.Frag}
/-- is, is not, of truths -/
def mIs : OW := fun v w k => match v, w with
  | .bl a, .bl b => k (.bl (decide (a = b)))
  | _, _ => False
def mIsNot : OW := fun v w k => match v, w with
  | .bl a, .bl b => k (.bl (!decide (a = b)))
  | _, _ => False
theorem opv_is : OpV K rIsB mIs := by
  intro x y v w B F H P Q s bx r1 r2 p q
  unfold mIs at p
  split at p
  case h_2 => exact p.elim
  rw [Rep] at r1 r2
  exact ⟨_, _, r1, r2, q _ _ F H p (.refl s fun a h => (bx a h).2) (by rw [Rep])⟩
theorem opv_isNot : OpV K rNotB mIsNot := by
  intro x y v w B F H P Q s bx r1 r2 p q
  unfold mIsNot at p
  split at p
  case h_2 => exact p.elim
  rw [Rep] at r1 r2
  exact ⟨_, _, r1, r2, q _ _ F H p (.refl s fun a h => (bx a h).2) (by rw [Rep])⟩
end
end KV

namespace KV
open PySem PySem.Spec PyProof.Rows L2 KGX
/-! ### fractions by values -/
def frP (x : Rat) : PV := .tup [.int x.num, .int (x.den : Int)]
def IsFr (v : PV) (x : Rat) : Prop := v = frP x ∨ v = .cst [.int x.num, .int (x.den : Int)]
theorem IsFr.of {x : Rat} : IsFr (frP x) x := .inl rfl
theorem fr_low {t b : Int} (h : 0 < b) : PV.tup [.int (t / (Int.gcd t b : Int)), .int (b / (Int.gcd t b : Int))] = frP ((t : Rat) / (b : Rat)) := by
  unfold frP; rw [rat_num h, rat_den h]
theorem cm_w {i j : Int} (hi : i.natAbs < 2 ^ 4000) (hj : j.natAbs < 2 ^ 4000) : CM i j := .inr (mulW hi hj)
theorem IsFr.at0 {v : PV} {x : Rat} (h : IsFr v x) {k : PV → Prop} (q : k (.int x.num)) : mAt v (.int 0) k := by
  rcases h with rfl | rfl
  · exact ⟨_, rfl, q⟩
  · exact ⟨_, rfl, q⟩
theorem IsFr.at1 {v : PV} {x : Rat} (h : IsFr v x) {k : PV → Prop} (q : k (.int x.den)) : mAt v (.int 1) k := by
  rcases h with rfl | rfl
  · exact ⟨_, rfl, q⟩
  · exact ⟨_, rfl, q⟩
theorem den_sz {x : Rat} {n : Nat} (h : Sz n x) : ((x.den : Int)).natAbs < 2 ^ n := by rw [Int.natAbs_natCast]; exact h.2
theorem IsFr.flat {v : PV} {x : Rat} (h : IsFr v x) : flat v = true := by rcases h with rfl | rfl <;> rfl
theorem zero_fr : IsFr (.cst (([0, 1] : List Int).map .int)) 0 := .inr rfl
theorem zero_frP : frP 0 = .tup [.int 0, .int 1] := rfl
theorem int_fr (c : Int) : frP (c : Rat) = .tup [.int c, .int 1] := by unfold frP; rw [Rat.num_intCast, Rat.den_intCast]; rfl
theorem dat_fr {v : PV} {x : Rat} (h : IsFr v x) : dat v = some (.tuple [.int x.num, .int (x.den : Int)]) := by rcases h with rfl | rfl <;> rfl
/-- a way: its cases, and a fraction -/
def IsWay (d : PV) (w : Int × Rat) : Prop := ∃ v, d = .tup [.int w.1, v] ∧ IsFr v w.2
def waySum : List (Int × Rat) → Rat
  | [] => 0
  | w :: ws => (w.1 : Rat) * w.2 + waySum ws
def wayMany (ws : List (Int × Rat)) : Int := (ws.map (·.1)).sum
theorem waySum_app : ∀ (a b : List (Int × Rat)), waySum (a ++ b) = waySum a + waySum b
  | [], b => by rw [List.nil_append, waySum, Rat.zero_add]
  | w :: a, b => by rw [List.cons_append, waySum, waySum, waySum_app a b, Rat.add_assoc]
theorem paired_ix {α β : Type} {R : α → β → Prop} : ∀ {xs : List α} {ys : List β} {i : Nat} {x : α}, Paired R xs ys → xs[i]? = some x → ∃ y, ys[i]? = some y ∧ R x y
  | _, _, _, _, .nil, e => by simp at e
  | _, _, 0, _, .cons r _, e => by simp at e; subst e; exact ⟨_, rfl, r⟩
  | _, _, i + 1, x, .cons _ t, e => by
    obtain ⟨y, h1, h2⟩ := paired_ix (i := i) (x := x) t (by simpa using e)
    exact ⟨y, by simpa using h1, h2⟩
theorem paired_mem {α β : Type} {R : α → β → Prop} {xs : List α} {ys : List β} {x : α} (h : Paired R xs ys) (hx : x ∈ xs) : ∃ y, y ∈ ys ∧ R x y := by
  obtain ⟨i, e⟩ := List.getElem?_of_mem hx
  obtain ⟨y, e1, r⟩ := paired_ix h e
  exact ⟨y, List.mem_of_getElem? e1, r⟩
theorem paired_map {α β γ : Type} {R : α → β → Prop} (f : α → γ) (g : β → γ) (h : ∀ a b, R a b → f a = g b) : ∀ {xs : List α} {ys : List β}, Paired R xs ys → xs.map f = ys.map g
  | _, _, .nil => rfl
  | _, _, .cons r t => by rw [List.map_cons, List.map_cons, h _ _ r, paired_map f g h t]
theorem m1 : 1 ≤ 1000000 := by decide
theorem m2 : 2 ≤ 1000000 := by decide
theorem m3 : 3 ≤ 1000000 := by decide
theorem m4 : 4 ≤ 1000000 := by decide
theorem m5 : 5 ≤ 1000000 := by decide
/-! ### what is shown -/
def Sh (L dep : Nat) (d : PyData) : Prop := d.showable = true ∧ d.hasDict = false ∧ d.depth ≤ dep ∧ d.shown.length ≤ L
theorem Sh.ok {L dep : Nat} {d : PyData} (h : Sh L dep d) (h1 : dep ≤ 20) (h2 : L ≤ 16000000) : KG.ShowOk d := ⟨h.1, h.2.1, Nat.le_trans h.2.2.1 h1, Nat.le_trans h.2.2.2 (Nat.le_trans h2 (by decide))⟩
theorem Sh.mono {L L' dep dep' : Nat} {d : PyData} (h : Sh L dep d) (h1 : L ≤ L') (h2 : dep ≤ dep') : Sh L' dep' d := ⟨h.1, h.2.1, Nat.le_trans h.2.2.1 h2, Nat.le_trans h.2.2.2 h1⟩
theorem shI {i : Int} (h : i.natAbs.log2 < 1920) : Sh 1921 0 (.int i) := ⟨decide_eq_true h, rfl, Nat.le_refl _, shown_int h⟩
theorem shAll {L dep : Nat} : ∀ {ds : List PyData}, (∀ d ∈ ds, Sh L dep d) → PyData.showableAll ds = true ∧ PyData.hasDictAll ds = false ∧ PyData.depthAll ds ≤ dep ∧ ((PyData.shownAll ds).map (·.length)).sum ≤ ds.length * L
  | [], _ => ⟨rfl, rfl, Nat.zero_le _, Nat.zero_le _⟩
  | d :: ds, h => by
    obtain ⟨h1, h2, h3, h4⟩ := shAll (ds := ds) fun d' hd => h d' (List.mem_cons_of_mem _ hd)
    obtain ⟨g1, g2, g3, g4⟩ := h d List.mem_cons_self
    refine ⟨?_, ?_, ?_, ?_⟩
    · show (d.showable && PyData.showableAll ds) = true
      rw [g1, h1]; rfl
    · show (d.hasDict || PyData.hasDictAll ds) = false
      rw [g2, h2]; rfl
    · show max d.depth (PyData.depthAll ds) ≤ dep
      omega
    · rw [PyData.shownAll_cons, List.map_cons, List.sum_cons, List.length_cons, Nat.add_mul]
      omega
theorem shL {L dep : Nat} {ds : List PyData} (h : ∀ d ∈ ds, Sh L dep d) : Sh (ds.length * (L + 2) + 3) (dep + 1) (.list ds) := by
  obtain ⟨h1, h2, h3, h4⟩ := shAll h
  refine ⟨h1, h2, Nat.succ_le_succ h3, ?_⟩
  have e := listText_len_le (PyData.shownAll ds)
  rw [PyData.shownAll_length] at e
  show (listText (PyData.shownAll ds)).length ≤ _
  rw [Nat.mul_add]; omega
theorem shT {L dep : Nat} {ds : List PyData} (h : ∀ d ∈ ds, Sh L dep d) : Sh (ds.length * (L + 2) + 3) (dep + 1) (.tuple ds) := by
  obtain ⟨h1, h2, h3, h4⟩ := shAll h
  refine ⟨h1, h2, Nat.succ_le_succ h3, ?_⟩
  have e := tupleText_len_le (PyData.shownAll ds)
  rw [PyData.shownAll_length] at e
  show (tupleText (PyData.shownAll ds)).length ≤ _
  rw [Nat.mul_add]; omega
def frD (x : Rat) : PyData := .tuple [.int x.num, .int (x.den : Int)]
theorem shF {x : Rat} (h : Sz 1900 x) : Sh 4000 1 (frD x) := by
  refine (shT (L := 1921) (dep := 0) fun d hd => ?_).mono (by show 2 * 1923 + 3 ≤ 4000; decide) (Nat.le_refl _)
  rcases List.mem_cons.mp hd with rfl | hd
  · exact shI (log_of h.1 (by decide) (by decide))
  · rw [List.mem_singleton] at hd; subst hd
    exact shI (log_of (den_sz h) (by decide) (by decide))
theorem shFs {xs : List Rat} (h : ∀ x ∈ xs, Sz 1900 x) : ∀ d ∈ xs.map frD, Sh 4000 1 d := fun d hd => by
  obtain ⟨x, hx, rfl⟩ := List.mem_map.mp hd
  exact shF (h x hx)
theorem okFr {x : Rat} (h : Sz 1900 x) : KG.ShowOk (frD x) := (shF h).ok (by decide) (by decide)
theorem okFrs {xs : List Rat} (h : ∀ x ∈ xs, Sz 1900 x) (hl : xs.length ≤ 1000) : KG.ShowOk (.list (xs.map frD)) := (shL (shFs h)).ok (by decide) (by rw [List.length_map]; omega)
theorem okFrT {xs : List Rat} (h : ∀ x ∈ xs, Sz 1900 x) (hl : xs.length ≤ 1000) : KG.ShowOk (.tuple (xs.map frD)) := (shT (shFs h)).ok (by decide) (by rw [List.length_map]; omega)
theorem datFr {v : PV} {x : Rat} (h : IsFr v x) : dat v = some (frD x) := dat_fr h
theorem datsFr : ∀ {ds : List PV} {xs : List Rat}, Paired IsFr ds xs → dats ds = some (xs.map frD)
  | _, _, .nil => rfl
  | _, _, .cons r t => by rw [dats, datFr r, datsFr t]; rfl
/-! ### fractions as pairs, to be reckoned with -/
abbrev Pr := Int × Int
def prV (p : Pr) : Rat := (p.1 : Rat) / (p.2 : Rat)
def prAdd (p q : Pr) : Pr := (p.1 * q.2 + q.1 * p.2, p.2 * q.2)
def prTimes (a : Int) (p : Pr) : Pr := (a * p.1, p.2)
theorem val_add {p q : Pr} (hp : 0 < p.2) (hq : 0 < q.2) : prV (prAdd p q) = prV p + prV q := by
  have h1 : (p.2 : Rat) ≠ 0 := cast_ne hp
  have h2 : (q.2 : Rat) ≠ 0 := cast_ne hq
  unfold prV prAdd
  simp only [Rat.intCast_add, Rat.intCast_mul]
  grind
theorem val_times {a : Int} {p : Pr} (hp : 0 < p.2) : prV (prTimes a p) = (a : Rat) * prV p := by
  have h1 : (p.2 : Rat) ≠ 0 := cast_ne hp
  unfold prV prTimes
  simp only [Rat.intCast_mul]
  grind
def accPr : List (Int × Pr) → Pr
  | [] => (0, 1)
  | w :: ws => prAdd (prTimes w.1 w.2) (accPr ws)
theorem acc_pos : ∀ {ws : List (Int × Pr)}, (∀ w ∈ ws, 0 < w.2.2) → 0 < (accPr ws).2
  | [], _ => by decide
  | w :: ws, h => Int.mul_pos (h w List.mem_cons_self) (acc_pos fun w' hw => h w' (List.mem_cons_of_mem _ hw))
theorem val_acc : ∀ {ws : List (Int × Pr)}, (∀ w ∈ ws, 0 < w.2.2) → waySum (ws.map fun w => (w.1, prV w.2)) = prV (accPr ws)
  | [], _ => by show (0 : Rat) = (0 : Int) / (1 : Int); grind
  | w :: ws, h => by
    have hw := h w List.mem_cons_self
    rw [List.map_cons, waySum, val_acc fun w' hw => h w' (List.mem_cons_of_mem _ hw), accPr, val_add (show 0 < (prTimes w.1 w.2).2 from hw) (acc_pos fun w' hw => h w' (List.mem_cons_of_mem _ hw)), val_times hw]
/-- brought to lowest terms -/
def prLow (p : Pr) : Pr := (p.1 / (Int.gcd p.1 p.2 : Int), p.2 / (Int.gcd p.1 p.2 : Int))
theorem val_low {p : Pr} (hp : 0 < p.2) : prV (prLow p) = prV p := by
  unfold prV prLow
  rw [← rat_num hp, ← rat_den hp]
  exact (rat_self _).symm
theorem low_pos {p : Pr} (hp : 0 < p.2) : 0 < (prLow p).2 := by
  show 0 < p.2 / (Int.gcd p.1 p.2 : Int)
  rw [← rat_den hp]; exact den_pos _
theorem val_eq {p q : Pr} (hp : 0 < p.2) (hq : 0 < q.2) (h : p.1 * q.2 = q.1 * p.2) : prV p = prV q := by
  have h1 : (p.2 : Rat) ≠ 0 := cast_ne hp
  have h2 : (q.2 : Rat) ≠ 0 := cast_ne hq
  have h3 : (p.1 : Rat) * (q.2 : Rat) = (q.1 : Rat) * (p.2 : Rat) := by rw [← Rat.intCast_mul, ← Rat.intCast_mul, h]
  unfold prV
  grind
theorem val_sz {p : Pr} {n : Nat} (hp : 0 < p.2) (h1 : p.1.natAbs < 2 ^ n) (h2 : p.2.natAbs < 2 ^ n) : Sz n (prV p) := sz_div hp h1 h2
theorem val_led {c a : Int} {p : Pr} (hp : 0 < p.2) (ha : 0 < a) : ((c : Rat) + prV p) * ((1 : Int) / (a : Rat)) = prV (c * p.2 + p.1, p.2 * a) := by
  have h1 : (p.2 : Rat) ≠ 0 := cast_ne hp
  have h2 : (a : Rat) ≠ 0 := cast_ne ha
  unfold prV
  simp only [Rat.intCast_add, Rat.intCast_mul]
  have : ((1 : Int) : Rat) = 1 := rfl
  rw [this]
  grind
theorem val_lt {p q : Pr} (hp : 0 < p.2) (hq : 0 < q.2) : prV p < prV q ↔ p.1 * q.2 < q.1 * p.2 := by
  have h1 : (0 : Rat) < (p.2 : Rat) := by exact_mod_cast hp
  have h2 : (0 : Rat) < (q.2 : Rat) := by exact_mod_cast hq
  unfold prV
  have e : (q.1 : Rat) / (q.2 : Rat) * (p.2 : Rat) = ((q.1 : Rat) * (p.2 : Rat)) / (q.2 : Rat) := by grind
  rw [Rat.div_lt_iff h1, e, Rat.lt_div_iff h2, ← Rat.intCast_mul, ← Rat.intCast_mul]
  exact Rat.intCast_lt_intCast
theorem sum_val : ∀ {ps : List Pr}, (∀ p ∈ ps, 0 < p.2) → (ps.map prV).sum = prV (ps.foldr prAdd (0, 1)) ∧ 0 < (ps.foldr prAdd ((0, 1) : Pr)).2
  | [], _ => ⟨by show (0 : Rat) = (0 : Int) / (1 : Int); grind, by decide⟩
  | p :: ps, h => by
    obtain ⟨h1, h2⟩ := sum_val (ps := ps) fun p' hp => h p' (List.mem_cons_of_mem _ hp)
    have hp := h p List.mem_cons_self
    refine ⟨?_, Int.mul_pos hp h2⟩
    show prV p + (ps.map prV).sum = prV (prAdd p (ps.foldr prAdd (0, 1)))
    rw [val_add hp h2, h1]
end KV

namespace KV
open PySem PySem.Spec PyProof.Rows L2 KGX
section
variable {K : PySem.W.Frag} {fi fi1 : AW} {g g1 : TG} {gw gw1 : GW} {tt tt1 : TT} {t t1 : TW} {f : EW} {is is1 vs vs1 : List Nat}
theorem lc2_le (hg : GX K is g gw) (hg1 : GX K is1 g1 gw1) (hv : ∀ i ∈ is, i ∈ vs) (hv1 : ∀ i ∈ is1, i ∈ vs1) (ht : ∀ σ H Q, tT K t σ H Q → tt σ H Q) (ht1 : ∀ σ H Q, tT K t1 σ H Q → tt1 σ H Q) (σ : L2.St) (H : Hp) (Q : VK) (h : tF K (eLc2 fi gw t fi1 gw1 t1 f vs vs1) σ H Q) :
    tLc2 (tI K fi) g tt (tI K fi1) g1 tt1 (tE K f) vs vs1 σ H Q := by
  obtain ⟨B, F, ρ, P, w, p, q⟩ := h
  refine ⟨B, F, ρ, _, w, p, fun ds J F1 H1 pd ex iv D hD => ?_⟩
  have w1 := w.ext ex
  have fD : F1 D = none := none_of w1.fh hD
  have hD0 : H D = none := ex.none hD
  have nB : ¬ B D := fun z => by
    obtain ⟨n, e⟩ := (w1.bx D z).2
    rw [hD] at e; exact nomatch e
  refine ⟨fun i m H' => m = ds.length - i ∧ i ≤ ds.length ∧ ∃ F2 acc us, Ext B F1 H1 F2 H' ∧ F2 D = none ∧ H' D = some (.lst us) ∧ Reps K F2 us acc ∧ lcW2 gw t fi1 gw1 t1 f vs1 (wipeR ρ vs) P (ds.drop i) acc,
    ⟨_, rfl, Nat.zero_le _, F1, [], [], .own w1.fh (fun a h => (w1.bx a h).2) hD, fD, upd_same, Reps.nil, pd⟩, ?_⟩
  rintro i m H' ⟨em, hi, F2, acc, us, e2, f2, hu, ru, pl⟩
  have s12 : Same F1 H' := e2.ff.trans e2.fh
  by_cases hl : i = ds.length
  · subst hl
    rw [List.drop_length] at pl
    exact .inl ⟨iv.stops H' s12, q _ D (.lst us) F2 H' pl (ex.trans e2) f2 hD0 hu ru⟩
  · have hlt : i < ds.length := by omega
    refine .inr ⟨iv.goes i H' s12 hlt, fun H3 => ∃ F3 acc us, Ext B F1 H1 F3 H3 ∧ F3 D = none ∧ H3 D = some (.lst us) ∧ Reps K F3 us acc ∧ lcW2 gw t fi1 gw1 t1 f vs1 (wipeR ρ vs) P (ds.drop (i + 1)) acc, ?_, ?_⟩
    · rintro H3 ⟨F3, acc, us, h⟩
      exact ⟨_, by omega, rfl, hlt, F3, acc, us, h⟩
    · intro x H3 y
      obtain ⟨d, ed, yv⟩ := iv.yields i H' x H3 s12 hlt y
      have w2 := (w1.wipe vs).ext e2
      obtain ⟨F3, e3, w3, rx⟩ := w2.yv e2.ff yv
      have edrop : ds.drop i = d :: ds.drop (i + 1) := by
        rw [List.drop_eq_getElem_cons hlt]
        rw [List.getElem?_eq_getElem hlt] at ed
        rw [Option.some.inj ed]
      rw [edrop] at pl
      have d3 : H3 D = some (.lst us) := e3.keep D _ nB hu
      have fd3 : F3 D = none := e3.new D f2 (by rw [hu]; exact ⟨(fun z => nomatch z), fun xs z => nomatch z⟩)
      refine hg x d B F3 H3 _ _ _ _ w3 rx pl fun ρ4 σ4 p4 w4 ew => ⟨?_, ht σ4 H3 _ ⟨B, F3, ρ4, _, w4, p4, fun b F5 H5 p5 e5 => ?_⟩⟩
      · rw [ew vs hv, wipe_wipe σ fun _ z => z]
      · have d5 : H5 D = some (.lst us) := e5.keep D _ nB d3
        have fd5 : F5 D = none := e5.new D fd3 (by rw [d3]; exact ⟨(fun z => nomatch z), fun xs z => nomatch z⟩)
        have e25 := e2.trans (e3.trans e5)
        have ru5 := ru.mono (e3.ff.trans e5.ff)
        have w5 := w4.ext e5
        cases b with
        | false => exact ⟨F5, acc, us, e25, fd5, d5, ru5, p5⟩
        | true =>
          refine ⟨B, F5, ρ4, _, w5, p5, fun es J1 F6 H6 p6 e6 iv1 => ?_⟩
          have d6 : H6 D = some (.lst us) := e6.keep D _ nB d5
          have fd6 : F6 D = none := e6.new D fd5 (by rw [d5]; exact ⟨(fun z => nomatch z), fun xs z => nomatch z⟩)
          have w6 := w5.ext e6
          have e26 := e25.trans e6
          refine ⟨fun j n H7 => n = es.length - j ∧ j ≤ es.length ∧ ∃ F7 acc us, Ext B F1 H1 F7 H7 ∧ Same F6 F7 ∧ Wx K B F7 H7 σ4 ρ4 ∧ F7 D = none ∧ H7 D = some (.lst us) ∧ Reps K F7 us acc ∧ lcW1 gw1 t1 f (wipeR ρ4 vs1) (fun acc' => lcW2 gw t fi1 gw1 t1 f vs1 (wipeR ρ vs) P (ds.drop (i + 1)) acc') (es.drop j) acc,
            ⟨_, rfl, Nat.zero_le _, F6, acc, us, e26, fun _ _ z => z, w6, fd6, d6, ru5.mono e6.ff, p6⟩, ?_⟩
          rintro j n H7 ⟨en, hj, F7, acc7, us7, e7, s67, w7, fd7, d7, ru7, pl7⟩
          have s6 : Same F6 H7 := s67.trans w7.fh
          by_cases hl2 : j = es.length
          · subst hl2
            rw [List.drop_length] at pl7
            exact .inl ⟨iv1.stops H7 s6, F7, acc7, us7, e7, fd7, d7, ru7, pl7⟩
          · have hlt2 : j < es.length := by omega
            refine .inr ⟨iv1.goes j H7 s6 hlt2, fun H8 => ∃ F8 acc us, Ext B F1 H1 F8 H8 ∧ Same F6 F8 ∧ Wx K B F8 H8 σ4 ρ4 ∧ F8 D = none ∧ H8 D = some (.lst us) ∧ Reps K F8 us acc ∧ lcW1 gw1 t1 f (wipeR ρ4 vs1) (fun acc' => lcW2 gw t fi1 gw1 t1 f vs1 (wipeR ρ vs) P (ds.drop (i + 1)) acc') (es.drop (j + 1)) acc, ?_, ?_⟩
            · rintro H8 ⟨F8, acc, us, h⟩
              exact ⟨_, by omega, rfl, hlt2, F8, acc, us, h⟩
            · intro x1 H8 y1
              obtain ⟨d1, ed1, yv1⟩ := iv1.yields j H7 x1 H8 s6 hlt2 y1
              obtain ⟨F8, e8, w8, rx1⟩ := (w7.wipe vs1).yv s67 yv1
              have edrop1 : es.drop j = d1 :: es.drop (j + 1) := by
                rw [List.drop_eq_getElem_cons hlt2]
                rw [List.getElem?_eq_getElem hlt2] at ed1
                rw [Option.some.inj ed1]
              rw [edrop1] at pl7
              have d8 : H8 D = some (.lst us7) := e8.keep D _ nB d7
              have fd8 : F8 D = none := e8.new D fd7 (by rw [d7]; exact ⟨(fun z => nomatch z), fun xs z => nomatch z⟩)
              have w8' := w7.ext e8
              refine hg1 x1 d1 B F8 H8 _ _ _ _ w8 rx1 pl7 fun ρ9 σ9 p9 w9 ew9 => ⟨?_, ht1 σ9 H8 _ ⟨B, F8, ρ9, _, w9, p9, fun b F9 H9 p10 e9 => ?_⟩⟩
              · rw [ew9 vs1 hv1, wipe_wipe σ4 fun _ z => z]
              · have d9 : H9 D = some (.lst us7) := e9.keep D _ nB d8
                have fd9 : F9 D = none := e9.new D fd8 (by rw [d8]; exact ⟨(fun z => nomatch z), fun xs z => nomatch z⟩)
                have ru9 := ru7.mono (e8.ff.trans e9.ff)
                have e79 := e7.trans (e8.trans e9)
                have w9' := w8'.ext e9
                cases b with
                | false => exact ⟨F9, acc7, us7, e79, (s67.trans e8.ff).trans e9.ff, w9', fd9, d9, ru9, p10⟩
                | true =>
                  refine ⟨B, F9, ρ9, _, w9.ext e9, p10, fun v z F10 H10 ⟨hlen, p11⟩ e10 rz => ?_⟩
                  have d10 : H10 D = some (.lst us7) := e10.keep D _ nB d9
                  have fd10 : F10 D = none := e10.new D fd9 (by rw [d9]; exact ⟨(fun z => nomatch z), fun xs z => nomatch z⟩)
                  have ru10 := ru9.mono e10.ff
                  have e710 := e79.trans e10
                  have w10 := w9'.ext e10
                  have nf : ∀ a o, F10 a = some o → a ≠ D := fun a o e z => by rw [z, fd10] at e; exact nomatch e
                  refine ⟨us7, d10, line_lt (by rw [ru10.len]; exact hlen), F10, acc7 ++ [v], us7 ++ [z], ?_, ((s67.trans e8.ff).trans e9.ff).trans e10.ff, ?_, fd10, upd_same, ru10.snoc rz, p11⟩
                  · refine ⟨e710.ff, fun a o e => ?_, e710.new, fun a o nb e => ?_, fun a b => ?_⟩
                    · rw [upd_ne (nf a o e)]; exact e710.fh a o e
                    · rw [upd_ne (fun z => by rw [z, hD] at e; exact nomatch e)]; exact e710.keep a o nb e
                    · rw [upd_ne (fun z => nB (by rw [← z]; exact b))]; exact e710.box a b
                  · refine ⟨fun a o e => by rw [upd_ne (nf a o e)]; exact w10.fh a o e, fun a b => ⟨(w10.bx a b).1, ?_⟩, w10.sl, w10.len⟩
                    obtain ⟨n, e⟩ := (w10.bx a b).2
                    exact ⟨n, by rw [upd_ne (fun z => nB (by rw [← z]; exact b))]; exact e⟩
theorem pf_lc2 {X : Cx} {elt tg iter tg1 iter1 : Expr} {ifs ifs1 : List Expr} {scope : Scope} {own : List (Str × Nat)} {vs1 : List Nat} {pos : Pos} (hc : X.calm = true) (hN : X.N.Nodup) (hi : QI X tg iter fi) (ok : BlkOk X.N X.env.scope scope own) (gx : GX X.K is g gw) (gx1 : GX X.K is1 g1 gw1) (hv : ∀ i ∈ is, i ∈ own.map (·.2)) (hv1 : ∀ i ∈ is1, i ∈ vs1) (hvs : ∀ i ∈ vs1, i ∈ own.map (·.2))
    (hg : ∀ (s : Shared) (H : Hp) (C : Addr) (cl : List (Str × Addr)) (fp : List Addr), PG (X.blk s H scope (compEnvC scope cl C X.env) fp) tg g) (ht : ∀ (s : Shared) (H : Hp) (C : Addr) (cl : List (Str × Addr)) (fp : List Addr), PBs (X.blk s H scope (compEnvC scope cl C X.env) fp) ifs t)
    (hi1 : ∀ (s : Shared) (H : Hp) (C : Addr) (cl : List (Str × Addr)) (fp : List Addr), QI (X.blk s H scope (compEnvC scope cl C X.env) fp) tg1 iter1 fi1)
    (hg1 : ∀ (s : Shared) (H : Hp) (C : Addr) (cl : List (Str × Addr)) (fp : List Addr), PG (X.blk s H scope (compEnvC scope cl C X.env) fp) tg1 g1) (ht1 : ∀ (s : Shared) (H : Hp) (C : Addr) (cl : List (Str × Addr)) (fp : List Addr), PBs (X.blk s H scope (compEnvC scope cl C X.env) fp) ifs1 t1)
    (he : ∀ (s : Shared) (H : Hp) (C : Addr) (cl : List (Str × Addr)) (fp : List Addr), PP (X.blk s H scope (compEnvC scope cl C X.env) fp) elt f) (hs : ∀ x, foldedSetIterable iter X.env x = pure x := by intro _; rfl) (hs1 : ∀ env x, foldedSetIterable iter1 env x = pure x := by intro _ _; rfl) :
    PF X (.ListComp elt [⟨tg, iter, ifs, 0⟩, ⟨tg1, iter1, ifs1, 0⟩] scope pos) (eLc2 fi gw t fi1 gw1 t1 f (own.map (·.2)) vs1) :=
  PE.weak (pe_lc2 (tt := tT X.K t) (tt1 := tT X.K t1) (te := tE X.K f) (wi1 := tI X.K fi1) hc hN hi ok hvs hg ht hi1 hg1 ht1 he hs hs1) (lc2_le gx gx1 hv hv1 (fun _ _ _ z => z) fun _ _ _ z => z)
end
end KV

namespace KV
open PySem PySem.Spec PyProof.Rows L2 KGX
section
variable {m : Bool} {X : Cx} {o e d a : Expr} {st : Stmt} {pos apos cpos : Pos} {f g h : EW} {fa : AW} {K : PySem.W.Frag}
/-- t.count(k), t a tuple of ints -/
def rCntT (K : PySem.W.Frag) : V → List V → Hp → VK → Prop := fun x xs H Q => ∃ (p : Addr) (ns : List Int) (k : Int), x = .ref p ∧ xs = [.int k] ∧ SqT K H p (ns.map V.int) ∧ Q (.int (ns.count k : Nat)) H
theorem mt_tcount : MtR X "tuple.count" (rCntT X.K) := by
  intro pins s σ H x xs v us Q I rx rxs h
  obtain ⟨p, ns, k, rfl, rfl, hs, q⟩ := h
  cases rx
  obtain ⟨u, rfl, t, rfl⟩ := rxs.one
  obtain ⟨its, rv, ⟨⟨cls, dd, data, sl⟩, ho, hc, n, hd⟩, _⟩ := I.tuple hs
  simp only at hc hd; subst hc hd
  have hi := ints_of_vals rv
  have M := SeqAt.tuple_countAt p its.toArray n dd sl (.int k t) (eqk k)
  refine call_meets PySem.F.slot_tuple_count ⟨_, ho, rfl⟩ PySem.F.entry_tuple_count (PySem.F.args_tuple_count_2 _ _) M ⟨ho, fun y hy => ?_, ?_⟩
  · exact (eqk_gives hi y (by simpa using hy)).at _ _
  · refine ⟨.int (ns.count k : Nat), H, I.tok _, ⟨s.toks, ?_⟩, q⟩
    have ec : its.toArray.toList.countP (eqk k) = ns.count k := eqk_count hi
    rw [ec]
/-- d.get(k, x) -/
def eGet (f g h : EW) : EW := fun ρ k => f ρ fun v => match v with
  | .dic kvs => g ρ fun u => h ρ fun z => ∃ ks, keyOf u = some ks ∧ k ((lookD kvs ks).getD z)
  | _ => False
theorem pp_get (hu : X.A.units + 64 < cLine) (ho : PP X o f) (he : PP X e g) (hd : PP X d h) (mm : M2 X o "get" apos e d cpos) : PP X (.Call (.Attribute o "get" apos) [e, d] [] cpos) (eGet f g h) := PE.weak (pe_getM hu ho he hd mm) fun σ H Q ⟨B, F, ρ, P, w, p, q⟩ => by
  refine ⟨B, F, ρ, _, w, p, fun v x F1 H1 p1 e1 r1 => ?_⟩
  split at p1
  case h_2 => exact p1.elim
  rename_i kvs
  have w1 := w.ext e1
  obtain ⟨c, xs, ep, rfl, ec, md, dk, rx⟩ := r1.dic w1.fh
  refine ⟨c, xs, rfl, md, B, F1, ρ, _, w1, p1, fun u y F2 H2 p2 e2 r2 => ⟨B, F2, ρ, _, w1.ext e2, p2, fun z y' F3 H3 ⟨ks, hks, p3⟩ e3 r3 => ?_⟩⟩
  have w3 := (w1.ext e2).ext e3
  obtain ⟨b, rfl, ka⟩ := (Rep.mono e3.ff u r2).key w3.fh hks
  have rx3 := RepX.mono (e2.ff.trans e3.ff) _ rx
  have e13 := e1.trans (e2.trans e3)
  refine ⟨b, ks, rfl, rx3.md w3.fh dk (w3.fh _ _ ((e2.ff.trans e3.ff) _ _ ec)), ka, fun p v hp rv => ?_, fun hn => ?_, fun p hp => ?_⟩
  · cases hl : lookD kvs ks with
    | none => rw [(rx3.look (k := ks)).2 hl] at hp; exact nomatch hp
    | some dd =>
      obtain ⟨p', y, hp', ry, r5⟩ := (rx3.look (k := ks)).1 dd hl
      rw [hp] at hp'; cases hp'
      have := RelV.inj rv ry
      subst this
      rw [hl] at p3
      exact q _ _ F3 H3 p3 e13 r5
  · cases hl : lookD kvs ks with
    | none => rw [hl] at p3; exact q _ _ F3 H3 p3 e13 r3
    | some dd =>
      obtain ⟨p', y, hp', _⟩ := (rx3.look (k := ks)).1 dd hl
      rw [hn] at hp'; exact nomatch hp'
  · cases hl : lookD kvs ks with
    | none => rw [(rx3.look (k := ks)).2 hl] at hp; exact nomatch hp
    | some dd =>
      obtain ⟨p', y, hp', ry, _⟩ := (rx3.look (k := ks)).1 dd hl
      rw [hp] at hp'; cases hp'
      exact ⟨y, ry⟩
/-- t.count(k), t a tuple -/
def tCnt (K : PySem.W.Frag) (to te : TE) : TE := fun σ H Q => to σ H fun x H1 => ∃ (a : Addr) (ns : List Int), x = .ref a ∧ STup H1 a (ns.map V.int) ∧ te σ H1 fun y H2 => ∃ k : Int, y = .int k ∧ STup H2 a (ns.map V.int) ∧ Q (.int (ns.count k : Nat)) H2
theorem pe_cnt {to te : TE} (ho : PE X o to) (he : PE X e te) (m : M1 X o "count" apos e cpos) : PE X (.Call (.Attribute o "count" apos) [e] [] cpos) (tCnt X.K to te) := by
  refine ⟨fun pins s σ H Q I h => wpAny_Call_method m.base m.few m.line PySem.F.plainAttrs_tuple PySem.F.slot_tuple_count PySem.F.type_tuple_count (thn (ho.run pins s σ H _ I h) fun u s1 ⟨x, H1, I1, rx, a, ns, ex, st, q1⟩ => ?_)⟩
  subst ex; cases rx
  obtain ⟨ob, eo, hn⟩ := id st
  obtain ⟨g1, g2⟩ := (show ObjOk X.prog X.w H1 s1.heap a (.frz ob (.tup _)) from I1.hok a _ eo)
  obtain ⟨us, ru, ht, _⟩ := I1.tuple (st.sq (fun _ _ z => z) : SqT X.K H1 a _)
  refine ⟨ht.typeIs, fun b q => by cases q; exact ⟨ob, g1, hn⟩, ?_⟩
  rw [m.trees]
  refine Calls.callWith_builtin rfl (Calls.evalArgs_plain (Calls.spliced_cons (thn (he.run pins s1 σ H1 _ I1 q1) fun iv s2 ⟨y, H2, I2, ry, k, ey, st2, q2⟩ => Calls.spliced_nil ?_)))
  subst ey
  exact mt_tcount pins s2 σ H2 (.ref a) [.int k] (.ref a) [iv] Q I2 rfl (.cons ry .nil) ⟨a, ns, k, rfl, rfl, st2.sq (fun _ _ z => z), q2⟩
def eCnt (f g : EW) : EW := fun ρ k => f ρ fun v => match v with
  | .tup xs => ∃ ns, intsOf xs = some ns ∧ g ρ (onI fun i => k (.int (ns.count i : Nat)))
  | _ => False
theorem pp_cnt (ho : PP X o f) (he : PP X e g) (mm : M1 X o "count" apos e cpos) : PP X (.Call (.Attribute o "count" apos) [e] [] cpos) (eCnt f g) := PE.weak (pe_cnt ho he mm) fun σ H Q ⟨B, F, ρ, P, w, p, q⟩ => by
  refine ⟨B, F, ρ, _, w, p, fun v x F1 H1 p1 e1 r1 => ?_⟩
  split at p1
  case h_2 => exact p1.elim
  obtain ⟨ns, hns, p1⟩ := p1
  have w1 := w.ext e1
  rw [Rep, intsOf_eq hns] at r1
  obtain ⟨a, us, rfl, ⟨ob, ea, hn⟩, ru⟩ := r1
  rw [ru.ints] at ea
  refine ⟨a, ns, rfl, ⟨ob, w1.fh _ _ ea, hn⟩, B, F1, ρ, _, w1, p1, fun u y F2 H2 p2 e2 r2 => ?_⟩
  obtain ⟨i, eu, p3⟩ := onI_ex p2
  subst eu; rw [Rep] at r2
  exact ⟨i, r2, ⟨ob, (w1.ext e2).fh _ _ (e2.ff _ _ ea), hn⟩, q _ _ F2 H2 p3 (e1.trans e2) (by rw [Rep])⟩
end
end KV

namespace KV
open PySem PySem.Spec PyProof.Rows L2 KGX
/-! ### sorted of a tuple of ints -/
section
variable {prog : Program} {w : World} {A : Around} {E : Value → Shared → Prop} {s : Shared}
theorem gather_tup {t : Addr} {o : Obj} {ws : List Value} {n : Nat} {Q : List Value → Shared → Prop} (ho : s.heap.get? t = some o) (hc : o.cls = .type "tuple") (hd : o.data = .seq ws.toArray n) (hz : ws.length ≤ sizeLine)
    (h : ∀ h', (∀ b q, s.heap.get? b = some q → h'.get? b = some q) → Q ws { s with heap := h' }) : wpAny (model prog w) A (collect (.ref t)) Q E s := by
  have hp : (s.heap.push (seqObj "list" #[] 0)).get? t = some o := Heap.get?_push_of_some _ ho
  have hn : (s.heap.push (seqObj "list" #[] 0)).get? s.heap.objs.size = some (seqObj "list" #[] 0) := Heap.get?_push_size _ rfl
  unfold collect
  refine wpAny_bind (wpAny_runValue (codeAny_builtin PyProof.Rows.entry_proto_collect' ?_))
  show wpAny _ _ (do again (.builtin "list.__iadd__" ⟨[← newList [], .ref t], []⟩)) _ _ s
  refine wpAny_bind (wpAny_newList (wpAny_pure ⟨Code.quiet_builtin _ (by decide +kernel), codeAny_builtin PyProof.Rows.entry_list_iadd' ?_⟩))
  show wpAny _ _ (Builtin.List.listExtendWith (.ref s.heap.objs.size) (.ref t) (.ref s.heap.objs.size)) _ _ { s with heap := s.heap.push (seqObj "list" #[] 0) }
  unfold Builtin.List.listExtendWith
  refine wpAny_bind (wpAny_typeOf (T := "tuple") ⟨o, hp, hc⟩ ?_)
  rw [if_pos (by rw [show (Value.type "tuple" == Value.type "tuple") = true by rfl]; simp)]
  refine wpAny_bind (PyProof.Rows.listItems_at hp hd ?_)
  refine wpAny_bind (PyProof.Rows.listItems_at (xs := #[]) (n := 0) hn rfl ?_)
  rw [if_neg (by simp)]
  refine wpAny_bind (PyProof.Rows.listUpdate_at (xs := #[]) (n := 0) hn rfl ?_ (Nat.zero_le _) (by show (#[] ++ ws.toArray).size ≤ sizeLine + 1; simp only [Array.size_append, List.size_toArray, List.length_nil]; omega))
  refine wpAny_pure ?_
  show wpAny (model prog w) A (do let q ← load s.heap.objs.size; match q.data with | .seq xs _ => pure xs.toList | _ => unsupported "internal:collect") Q E { s with heap := (s.heap.push (seqObj "list" #[] 0)).update s.heap.objs.size (Obj.mapSeq (· ++ ws.toArray)) }
  refine wpAny_bind (wpAny_load (PyProof.Rows.get?_update_seq hn _) ?_)
  have e : ((#[] : Array Value) ++ ws.toArray).toList = ws := by simp
  show wpAny _ _ (pure ((#[] : Array Value) ++ ws.toArray).toList) Q E _
  rw [e]
  refine wpAny_pure (h _ fun b q hb => ?_)
  rw [Heap.get?_update_other _ _ (Ne.symm (Nat.ne_of_lt (Heap.lt_size hb)))]
  exact Heap.get?_push_of_some _ hb
/-- sorted(t), t a tuple of fewer than 64 ints -/
def rSortTup (K : PySem.W.Frag) : List V → Hp → VK → Prop := fun vs H Q => ∃ (a : Addr) (ns : List Int), vs = [V.ref a] ∧ SqT K H a (ns.map V.int) ∧ ns.length < 64 ∧
  ∀ (ks : List Int) (p : Addr), ks.Perm ns → ks.Pairwise (· ≤ ·) → H p = none → Q (.ref p) (upd H p (.lst (ks.map V.int)))
theorem cr_sortTup {X : Cx} : CallR X (.builtin "sorted") (rSortTup X.K) := by
  intro pins s σ H vs us Q I r q
  obtain ⟨a, ns, rfl, ha, h64, q⟩ := q
  rw [Vals.ref1 r]
  obtain ⟨its, rv, ⟨o, ho, hc, n, hd⟩, _⟩ := I.tuple ha
  have hI := rv.ints
  have hal : its.length = ns.length := hI.length
  refine Calls.call_function_entry PyProof.Rows.kind_sorted PyProof.Rows.plain_sorted PyProof.Rows.entry_sorted (PyProof.Rows.args_sorted1 _) ?_
  unfold Builtin.«sorted»
  refine wpAny_bind (m := checkCount "sorted" 1 1 _) (wpAny_pure ?_)
  refine wpAny_bind (gather_tup ho hc hd (by rw [hal, sizeLine_eq]; omega) fun h' hk => ?_)
  have I1 : Inv X pins σ H { s with heap := h' } := I.kept (t' := s.toks) hk
  refine wpAny_bind (wpAny_newList ?_ (by rw [hal, sizeLine_eq]; omega))
  have hL : (h'.push (seqObj "list" its.toArray 0)).get? h'.objs.size = some (seqObj "list" its.toArray 0) := Heap.get?_push_size _ rfl
  show wpAny _ _ _ _ _ { s with heap := h'.push (seqObj "list" its.toArray 0) }
  refine wpAny_bind (wpAny_holding (wpAny_call_entry PyProof.Rows.slot_list_sort ⟨_, hL, rfl⟩ PyProof.Rows.entry_list_sort
    (PyProof.Rows.list_sort_tree (s := { s with heap := h'.push (seqObj "list" its.toArray 0) }) hL hI (by rw [hal]; exact h64) fun out ks g1 g2 g3 => ⟨_, rfl, ?_⟩) (PyProof.Rows.args_list_sort _)))
  obtain ⟨e', he'⟩ := PyProof.Rows.sortedHeap_at (vs := its) (out := out) hL
  have hlen : (ks.map V.int).length ≤ sizeLine := by rw [List.length_map, g2.length_eq, sizeLine_eq]; omega
  refine wpAny_pure ⟨_, rfl, .ref h'.objs.size, upd H h'.objs.size (.lst (ks.map V.int)), I1.laid (t' := s.toks) (fun b u e => ?_) (Nat.le_refl _)
    (show ObjOk X.prog X.w _ _ _ (.lst (ks.map V.int)) from ⟨hlen, out.toList, e', vals_of_ints g1, by rw [Array.toArray_toList]; exact he'⟩), rfl, q ks _ g2 g3 (I1.hok.fresh (Nat.le_refl _))⟩
  have hb : b < h'.objs.size := Heap.lt_size e
  rw [PyProof.Rows.sortedHeap_old (Nat.ne_of_lt hb) (by rw [size_push']; exact Nat.lt_succ_of_lt hb)]
  exact Heap.get?_push_of_some _ e
end
section
variable {m : Bool} {X : Cx} {o e d a b c : Expr} {es : List Expr} {st : Stmt} {pos apos cpos : Pos} {f g h : EW} {fa : AW} {K : PySem.W.Frag}
/-! in, not in: of rows, of dicts -/
def mIn (neg : Bool) : OW := fun w v k => match v with
  | .dic kvs => ∃ ks, keyOf w = some ks ∧ k (.bl (if neg = true then !(lookD kvs ks).isSome else (lookD kvs ks).isSome))
  | _ => oIn neg w v k
theorem opv_mIn {neg : Bool} : OpV K (rOr (rIn K neg) (rInM neg)) (mIn neg) := (opv_or opv_in opv_inD).weak fun w v k q => by
  unfold mIn at q
  split at q
  · obtain ⟨ks, h1, h2⟩ := q; exact .inr ⟨_, ks, rfl, h1, h2⟩
  · exact .inl q
theorem opr_in (hu : X.A.units + 64 < cLine) : OpR X (compareOp .In) (rOr (rIn X.K false) (rInM false)) := opR_or op_in_seq (op_inM hu)
theorem opr_notIn (hu : X.A.units + 64 < cLine) : OpR X (compareOp .NotIn) (rOr (rIn X.K true) (rInM true)) := opR_or op_notIn_seq (op_notInM hu)
/-! int(truth) -/
def mInt : CW := fun vs k => match vs with
  | [.int i] => k (.int i)
  | [.bl b] => k (.int (if b = true then 1 else 0))
  | _ => False
theorem cm_int : CallV K (fun xs H Q => (∃ i, xs = [.int i] ∧ Q (.int i) H) ∨ ∃ k, xs = [.bl k] ∧ Q (.int (if k = true then 1 else 0)) H) mInt := by
  intro xs vs B F H P Q s bx r hp q
  unfold mInt at hp
  split at hp
  · obtain ⟨x, rfl, rx⟩ := r.one
    rw [Rep] at rx; subst rx
    exact .inl ⟨_, rfl, q _ _ F H hp (.refl s fun a h => (bx a h).2) (by rw [Rep])⟩
  · obtain ⟨x, rfl, rx⟩ := r.one
    rw [Rep] at rx; subst rx
    exact .inr ⟨_, rfl, q _ _ F H hp (.refl s fun a h => (bx a h).2) (by rw [Rep])⟩
  · exact hp.elim
/-! sorted of a tuple of ints -/
def ins (i : Int) : List Int → List Int
  | [] => [i]
  | j :: js => if i ≤ j then i :: j :: js else j :: ins i js
def srt : List Int → List Int
  | [] => []
  | i :: is => ins i (srt is)
theorem ins_perm (i : Int) : ∀ js, (ins i js).Perm (i :: js)
  | [] => .refl _
  | j :: js => by
    unfold ins
    split
    · exact .refl _
    · exact (List.Perm.cons j (ins_perm i js)).trans (.swap i j js)
theorem srt_perm : ∀ is, (srt is).Perm is
  | [] => .refl _
  | i :: is => (ins_perm i (srt is)).trans (.cons i (srt_perm is))
theorem ins_sorted (i : Int) : ∀ {js : List Int}, js.Pairwise (· ≤ ·) → (ins i js).Pairwise (· ≤ ·)
  | [], _ => by unfold ins; exact List.pairwise_singleton _ _
  | j :: js, h => by
    rw [List.pairwise_cons] at h
    unfold ins
    split
    · rename_i hij
      exact List.pairwise_cons.mpr ⟨fun x hx => by rcases List.mem_cons.mp hx with rfl | hx; exact hij; exact Int.le_trans hij (h.1 x hx), List.pairwise_cons.mpr h⟩
    · rename_i hij
      refine List.pairwise_cons.mpr ⟨fun x hx => ?_, ins_sorted i h.2⟩
      rcases List.mem_cons.mp ((ins_perm i js).mem_iff.mp hx) with rfl | hx
      · omega
      · exact h.1 x hx
theorem srt_sorted : ∀ is, (srt is).Pairwise (· ≤ ·)
  | [] => .nil
  | i :: is => ins_sorted i (srt_sorted is)
theorem sorted_uniq : ∀ {xs ys : List Int}, xs.Perm ys → xs.Pairwise (· ≤ ·) → ys.Pairwise (· ≤ ·) → xs = ys
  | [], ys, p, _, _ => (List.Perm.nil_eq p)
  | x :: xs, [], p, _, _ => (nomatch p.length_eq)
  | x :: xs, y :: ys, p, h1, h2 => by
    have h1' := List.pairwise_cons.mp h1
    have h2' := List.pairwise_cons.mp h2
    have e : x = y := by
      have a1 : x ≤ y := by
        rcases List.mem_cons.mp (p.mem_iff.mpr (List.mem_cons_self (a := y))) with e | e
        · rw [e]; exact Int.le_refl _
        · exact h1'.1 y e
      have a2 : y ≤ x := by
        rcases List.mem_cons.mp (p.mem_iff.mp (List.mem_cons_self (a := x))) with e | e
        · rw [e]; exact Int.le_refl _
        · exact h2'.1 x e
      omega
    subst e
    rw [sorted_uniq (List.Perm.cons_inv p) h1'.2 h2'.2]
def mSorted : CW := fun vs k => match vs with
  | [v] => onS (fun xs => ∃ ns, intsOf xs = some ns ∧ ns.length < 64 ∧ k (.lst ((srt ns).map .int))) v
  | _ => False
def rSortS (K : PySem.W.Frag) : List V → Hp → VK → Prop := fun vs H Q => ∃ (a : Addr) (ns : List Int), vs = [V.ref a] ∧ (SqL K H a (ns.map V.int) ∨ SqT K H a (ns.map V.int)) ∧ ns.length < 64 ∧ ∀ p, H p = none → Q (.ref p) (upd H p (.lst ((srt ns).map V.int)))
theorem cr_sortS : CallR X (.builtin "sorted") (rSortS X.K) := by
  rintro pins s σ H vs us Q I r ⟨a, ns, rfl, h | h, hl, q⟩
  · refine cr_sorted pins s σ H _ us Q I r ⟨a, ns, rfl, h, hl, fun ks p pm st hp => ?_⟩
    rw [sorted_uniq (pm.trans (srt_perm ns).symm) st (srt_sorted ns)]
    exact q p hp
  · refine cr_sortTup pins s σ H _ us Q I r ⟨a, ns, rfl, h, hl, fun ks p pm st hp => ?_⟩
    rw [sorted_uniq (pm.trans (srt_perm ns).symm) st (srt_sorted ns)]
    exact q p hp
theorem pf_sorted {p : Pos} (hg : Gl X "sorted") (hm : X.mg "sorted" = none) (hv : bootBuiltins "sorted" = some (.builtin "sorted")) (ha : PPs X [e] fa) (he : starEach [e] X.env = (false, eval e X.env) :: starEach [] X.env := by rfl) (hpl : (backTo pos (starEach [] X.env)).any (·.1) = false := by rfl) :
    PF X (.Call (.Name "sorted" p) [e] [] pos) (eCall mSorted fa) := PE.weak (pe_callB cr_sortS hg hm hv ha (by decide) (by decide) he hpl) fun σ H Q ⟨B, F, ρ, P, w, p, q⟩ => by
  refine ⟨B, F, ρ, _, w, p, fun vs xs F1 H1 p1 e1 r1 => ?_⟩
  unfold mSorted at p1
  split at p1
  case h_2 => exact p1.elim
  obtain ⟨ds, ed, ns, hns, hl, p2⟩ := onS_ex p1
  obtain ⟨x, rfl, rx⟩ := r1.one
  have w1 := w.ext e1
  obtain ⟨l, us, rfl, sq, ru⟩ := rx.seq w1.fh ed
  rw [intsOf_eq hns] at ru
  rw [ru.ints] at sq
  exact ⟨l, ns, rfl, sq, hl, own_new e1 w1.fh (fun a b => (w1.bx a b).2) p2 (fun _ => Reps.of_ints) q⟩
end
end KV

namespace KV
open PySem PySem.Spec PyProof.Rows L2 KGX
/-! ### pure: dicts whose keys are tuples of ints -/
def tupI (S : List Int) : PV := .tup (S.map .int)
abbrev shP (S : List Int) : PV := tupI S
def nK (S : List Int) : NestedKey := .tup (S.map .num)
theorem nks_ints : ∀ S : List Int, nks (S.map .int) = some (S.map .num)
  | [] => by rw [List.map_nil, nks]; rfl
  | i :: S => by rw [List.map_cons, nks, nk, nks_ints S]; rfl
theorem depth_ints : ∀ S : List Int, NestedKey.depthAll (S.map .num) = 0
  | [] => rfl
  | i :: S => by rw [List.map_cons, NestedKey.depthAll, NestedKey.depth, depth_ints S]; rfl
theorem keyOf_tupI (S : List Int) : keyOf (tupI S) = some (nK S) := by
  unfold tupI nK
  show (nks (S.map .int)).bind _ = _
  rw [nks_ints]
  show (if (NestedKey.tup (S.map .num)).depth ≤ 8 then _ else _) = _
  rw [if_pos]
  rw [NestedKey.depth, depth_ints]; decide
theorem num_inj : ∀ {S T : List Int}, S.map NestedKey.num = T.map NestedKey.num → S = T
  | [], [], _ => rfl
  | i :: S, j :: T, h => by
    rw [List.map_cons, List.map_cons] at h
    injection h with h1 h2
    injection h1 with h1
    rw [h1, num_inj h2]
  | [], _ :: _, h => nomatch h
  | _ :: _, [], h => nomatch h
theorem nK_inj {S T : List Int} (h : nK S = nK T) : S = T := num_inj (NestedKey.tup.inj h)
theorem int_inj : ∀ {S T : List Int}, S.map PV.int = T.map PV.int → S = T
  | [], [], _ => rfl
  | i :: S, j :: T, h => by
    rw [List.map_cons, List.map_cons] at h
    injection h with h1 h2
    injection h1 with h1
    rw [h1, int_inj h2]
  | [], _ :: _, h => nomatch h
  | _ :: _, [], h => nomatch h
theorem tupI_inj {S T : List Int} (h : tupI S = tupI T) : S = T := int_inj (PV.tup.inj h)
theorem lookD_nil {k : NestedKey} : lookD [] k = none := rfl
theorem lookD_cons {kp v : PV} {kvs : List (PV × PV)} {k : NestedKey} : lookD ((kp, v) :: kvs) k = if keyOf kp = some k then some v else lookD kvs k := by
  unfold lookD
  rw [List.find?_cons]
  by_cases h : keyOf kp = some k
  · rw [if_pos h, decide_eq_true h]; rfl
  · rw [if_neg h, decide_eq_false h]
theorem lookD_app {kvs ws : List (PV × PV)} {k : NestedKey} : lookD (kvs ++ ws) k = (lookD kvs k).or (lookD ws k) := by
  induction kvs with
  | nil => rw [List.nil_append, lookD_nil]; rfl
  | cons kv kvs ih =>
    obtain ⟨kp, v⟩ := kv
    rw [List.cons_append, lookD_cons, lookD_cons, ih]
    split <;> rfl
theorem lookD_map_val {k k' : NestedKey} {v : PV} : ∀ {kvs : List (PV × PV)}, lookD (kvs.map fun kv => if keyOf kv.1 = some k then (kv.1, v) else kv) k' = if k = k' then (lookD kvs k).map (fun _ => v) else lookD kvs k'
  | [] => by rw [List.map_nil, lookD_nil, lookD_nil]; split <;> rfl
  | (kp, w) :: kvs => by
    rw [List.map_cons]
    have ih := lookD_map_val (k := k) (k' := k') (v := v) (kvs := kvs)
    by_cases h : keyOf kp = some k
    · simp only [h, if_true]
      rw [lookD_cons, lookD_cons, lookD_cons, ih, h]
      by_cases e : k = k'
      · subst e; simp
      · have e2 : ¬ (some k = some k') := fun z => e (Option.some.inj z)
        simp [e]
    · simp only [h, if_false]
      rw [lookD_cons, lookD_cons, lookD_cons, ih]
      by_cases e : k = k'
      · subst e; simp [h]
      · simp [e, h]
theorem lookD_put {kvs : List (PV × PV)} {kp v : PV} {k k' : NestedKey} (h : keyOf kp = some k) : lookD (putD kvs kp k v) k' = if k = k' then some v else lookD kvs k' := by
  unfold putD
  split
  · rename_i hs
    rw [lookD_map_val]
    obtain ⟨w, hw⟩ := Option.isSome_iff_exists.mp hs
    rw [hw]; rfl
  · rename_i hs
    have hn : lookD kvs k = none := by
      cases e : lookD kvs k with
      | none => rfl
      | some d => rw [e] at hs; exact (hs rfl).elim
    rw [lookD_app, lookD_cons, lookD_nil, h]
    by_cases e : k = k'
    · subst e; rw [hn]; simp
    · have e2 : ¬ (some k = some k') := fun z => e (Option.some.inj z)
      rw [if_neg e, if_neg e2]
      cases lookD kvs k' <;> rfl
theorem lookD_mem {kvs : List (PV × PV)} {k : NestedKey} {v : PV} (h : lookD kvs k = some v) : ∃ kv ∈ kvs, keyOf kv.1 = some k ∧ kv.2 = v := by
  unfold lookD at h
  obtain ⟨kv, h1, h2⟩ := Option.map_eq_some_iff.mp h
  exact ⟨kv, List.mem_of_find?_eq_some h1, of_decide_eq_true (show decide (keyOf kv.1 = some k) = true from List.find?_some (p := fun kv : PV × PV => decide (keyOf kv.1 = some k)) h1), h2⟩
theorem nodup_le {α : Type} [DecidableEq α] : ∀ {l m : List α}, l.Nodup → (∀ x ∈ l, x ∈ m) → l.length ≤ m.length
  | [], m, _, _ => Nat.zero_le _
  | a :: l, m, h, s => by
    rw [List.nodup_cons] at h
    have ha := s a List.mem_cons_self
    have := nodup_le (m := m.erase a) h.2 fun x hx => (List.mem_erase_of_ne (fun z => h.1 (by rw [← z]; exact hx))).mpr (s x (List.mem_cons_of_mem _ hx))
    rw [List.length_erase_of_mem ha] at this
    have hp : 0 < m.length := List.length_pos_of_mem ha
    rw [List.length_cons]; omega
/-- a table: the sets A, each with a value or not there -/
structure TB (A : List (List Int)) (kvs : List (PV × PV)) (g : List Int → PV) (z : PV) : Prop where
  all : ∀ kv ∈ kvs, ∃ S ∈ A, kv = (tupI S, g S)
  nd : (kvs.map (·.1)).Nodup
  none : ∀ S ∈ A, lookD kvs (nK S) = none → g S = z
theorem TB.get {A : List (List Int)} {kvs : List (PV × PV)} {g : List Int → PV} {z : PV} (t : TB A kvs g z) {S : List Int} (h : S ∈ A) : (lookD kvs (nK S)).getD z = g S := by
  cases e : lookD kvs (nK S) with
  | none => exact (t.none S h e).symm
  | some v =>
    obtain ⟨kv, h1, h2, h3⟩ := lookD_mem e
    obtain ⟨T, hT, rfl⟩ := t.all kv h1
    rw [keyOf_tupI] at h2
    have := nK_inj (Option.some.inj h2)
    subst this
    exact h3.symm
theorem TB.len {A : List (List Int)} {kvs : List (PV × PV)} {g : List Int → PV} {z : PV} (t : TB A kvs g z) : kvs.length ≤ A.length := by
  have : (kvs.map (·.1)).length ≤ A.length := by
    have hk : ∀ x ∈ kvs.map (·.1), ∃ S ∈ A, x = tupI S := fun x hx => by
      obtain ⟨kv, h1, rfl⟩ := List.mem_map.mp hx
      obtain ⟨S, hS, rfl⟩ := t.all kv h1
      exact ⟨S, hS, rfl⟩
    have key : ∀ {l : List PV}, l.Nodup → (∀ x ∈ l, ∃ S ∈ A, x = tupI S) → ∃ m : List (List Int), m.Nodup ∧ (∀ S ∈ m, S ∈ A) ∧ l = m.map tupI := by
      intro l
      induction l with
      | nil => intro _ _; exact ⟨[], List.nodup_nil, fun _ h => (nomatch h), rfl⟩
      | cons a l ih =>
        intro h s
        rw [List.nodup_cons] at h
        obtain ⟨m, m1, m2, rfl⟩ := ih h.2 fun x hx => s x (List.mem_cons_of_mem _ hx)
        obtain ⟨S, hS, rfl⟩ := s a List.mem_cons_self
        exact ⟨S :: m, List.nodup_cons.mpr ⟨fun z => h.1 (List.mem_map.mpr ⟨S, z, rfl⟩), m1⟩, fun T hT => by rcases List.mem_cons.mp hT with rfl | hT; exact hS; exact m2 T hT, rfl⟩
    obtain ⟨m, m1, m2, e⟩ := key t.nd hk
    rw [e, List.length_map]
    exact nodup_le m1 m2
  rw [List.length_map] at this; exact this
theorem TB.keys {A : List (List Int)} {kvs : List (PV × PV)} {g : List Int → PV} {z : PV} (t : TB A kvs g z) : ∃ m : List (List Int), m.Nodup ∧ (∀ S ∈ m, S ∈ A) ∧ kvs = m.map (fun S => (tupI S, g S)) ∧ ∀ S ∈ A, S ∉ m → g S = z := by
  have key : ∀ {l : List (PV × PV)}, (l.map (·.1)).Nodup → (∀ kv ∈ l, ∃ S ∈ A, kv = (tupI S, g S)) → ∃ m : List (List Int), m.Nodup ∧ (∀ S ∈ m, S ∈ A) ∧ l = m.map fun S => (tupI S, g S) := by
    intro l
    induction l with
    | nil => intro _ _; exact ⟨[], List.nodup_nil, fun _ h => (nomatch h), rfl⟩
    | cons a l ih =>
      intro h s
      rw [List.map_cons, List.nodup_cons] at h
      obtain ⟨m, m1, m2, rfl⟩ := ih h.2 fun x hx => s x (List.mem_cons_of_mem _ hx)
      obtain ⟨S, hS, rfl⟩ := s a List.mem_cons_self
      refine ⟨S :: m, List.nodup_cons.mpr ⟨fun z => h.1 ?_, m1⟩, fun T hT => by rcases List.mem_cons.mp hT with rfl | hT; exact hS; exact m2 T hT, rfl⟩
      exact List.mem_map.mpr ⟨(tupI S, g S), List.mem_map.mpr ⟨S, z, rfl⟩, rfl⟩
  obtain ⟨m, m1, m2, e⟩ := key t.nd t.all
  refine ⟨m, m1, m2, e, fun S hS hn => t.none S hS ?_⟩
  cases el : lookD kvs (nK S) with
  | none => rfl
  | some v =>
    obtain ⟨kv, h1, h2, _⟩ := lookD_mem el
    rw [e] at h1
    obtain ⟨T, hT, rfl⟩ := List.mem_map.mp h1
    rw [keyOf_tupI] at h2
    have := nK_inj (Option.some.inj h2)
    subst this
    exact (hn hT).elim
theorem TB.put {A : List (List Int)} {kvs : List (PV × PV)} {g : List Int → PV} {z v : PV} (t : TB A kvs g z) {S : List Int} (h : S ∈ A) : TB A (putD kvs (tupI S) (nK S) v) (fun T => if T = S then v else g T) z := by
  have hk := keyOf_tupI S
  refine ⟨fun kv hm => ?_, ?_, fun T hT hn => ?_⟩
  · unfold putD at hm
    by_cases hs : (lookD kvs (nK S)).isSome = true
    · rw [if_pos hs] at hm
      obtain ⟨kv', h1, rfl⟩ := List.mem_map.mp hm
      obtain ⟨T, hT, rfl⟩ := t.all kv' h1
      refine ⟨T, hT, ?_⟩
      rw [keyOf_tupI]
      by_cases e : T = S
      · subst e; simp
      · rw [if_neg (fun z => e (nK_inj (Option.some.inj z)))]; simp [e]
    · rw [if_neg hs] at hm
      rcases List.mem_append.mp hm with hm2 | hm2
      · obtain ⟨T, hT, e0⟩ := t.all kv hm2
        have e : T ≠ S := fun e => by
          subst e
          cases el : lookD kvs (nK T) with
          | none => exact lookD_none el (List.mem_map.mpr ⟨kv, hm2, by rw [e0]; exact keyOf_tupI T⟩)
          | some d => rw [el] at hs; exact hs rfl
        exact ⟨T, hT, by rw [e0]; simp [e]⟩
      · rw [List.mem_singleton] at hm2
        exact ⟨S, h, by rw [hm2]; simp⟩
  · unfold putD
    split
    · rw [List.map_map]
      have : (kvs.map ((fun x => x.1) ∘ fun kv => if keyOf kv.1 = some (nK S) then (kv.1, v) else kv)) = kvs.map (·.1) := by
        refine List.map_congr_left fun kv _ => ?_
        show (if keyOf kv.1 = some (nK S) then (kv.1, v) else kv).1 = kv.1
        split <;> rfl
      rw [this]; exact t.nd
    · rename_i hs
      rw [List.map_append, List.nodup_append]
      refine ⟨t.nd, by simp, fun x hx y hy e => ?_⟩
      have hy' : y = tupI S := by simpa using hy
      subst e hy'
      obtain ⟨kv, h1, e1⟩ := List.mem_map.mp hx
      cases el : lookD kvs (nK S) with
      | none => exact lookD_none el (List.mem_map.mpr ⟨kv, h1, by rw [e1]; exact hk⟩)
      | some d => rw [el] at hs; exact hs rfl
  · rw [lookD_put hk] at hn
    by_cases e : T = S
    · subst e; simp at hn
    · rw [if_neg (fun z => e (nK_inj z).symm)] at hn
      simp only [e, if_false]
      exact t.none T hT hn
theorem TB.empty (A : List (List Int)) (z : PV) : TB A [] (fun _ => z) z := ⟨fun _ h => (nomatch h), List.nodup_nil, fun _ _ _ => rfl⟩
theorem TB.congr {A : List (List Int)} {kvs : List (PV × PV)} {g g' : List Int → PV} {z : PV} (t : TB A kvs g z) (h : ∀ S ∈ A, g S = g' S) : TB A kvs g' z :=
  ⟨fun kv hm => by obtain ⟨S, hS, e⟩ := t.all kv hm; exact ⟨S, hS, by rw [← h S hS]; exact e⟩, t.nd, fun S hS e => by rw [← h S hS]; exact t.none S hS e⟩
theorem perm_sum {l m : List Int} (h : l.Perm m) : l.sum = m.sum := by
  induction h with
  | nil => rfl
  | cons x _ ih => rw [List.sum_cons, List.sum_cons, ih]
  | swap x y l => simp only [List.sum_cons]; omega
  | trans _ _ i1 i2 => exact i1.trans i2
/-- a sum over some is one over all where the others have nought -/
theorem sum_over {α : Type} [DecidableEq α] {h : α → Int} : ∀ {m A : List α}, m.Nodup → A.Nodup → (∀ x ∈ m, x ∈ A) → (∀ x ∈ A, x ∉ m → h x = 0) → (m.map h).sum = (A.map h).sum
  | [], A, _, _, _, z => by
    rw [List.map_nil, List.sum_nil]
    have : ∀ {l : List α}, (∀ x ∈ l, h x = 0) → (l.map h).sum = 0 := by
      intro l
      induction l with
      | nil => intro _; rfl
      | cons a l ih => intro q; rw [List.map_cons, List.sum_cons, q a List.mem_cons_self, ih fun x hx => q x (List.mem_cons_of_mem _ hx)]; rfl
    exact (this fun x hx => z x hx (fun q => nomatch q)).symm
  | a :: m, A, n1, n2, s, z => by
    rw [List.nodup_cons] at n1
    have ha := s a List.mem_cons_self
    have pA := List.perm_cons_erase ha
    have e := perm_sum (pA.map h)
    rw [e, List.map_cons, List.map_cons, List.sum_cons, List.sum_cons]
    rw [sum_over (A := A.erase a) n1.2 (n2.erase a) (fun x hx => (List.mem_erase_of_ne (fun q => n1.1 (by rw [← q]; exact hx))).mpr (s x (List.mem_cons_of_mem _ hx))) fun x hx hn => ?_]
    have hx' := (List.Nodup.mem_erase_iff n2).mp hx
    exact z x hx'.2 (fun q => by rcases List.mem_cons.mp q with q | q; exact hx'.1 q; exact hn q)
/-- k in S, of ints -/
theorem scals_ints : ∀ S : List Int, (S.map PV.int).mapM scalP = some (S.map V.int)
  | [] => rfl
  | i :: S => by rw [List.map_cons, List.mapM_cons, scals_ints S]; rfl
theorem inV_ints (k : Int) : ∀ S : List Int, inV (.int k) (S.map V.int) = S.contains k
  | [] => rfl
  | i :: S => by
    have ih := inV_ints k S
    unfold inV at ih ⊢
    rw [List.map_cons, List.any_cons, ih, List.contains_cons]
    congr 1
    show decide (i = k) = (k == i)
    by_cases h : i = k
    · subst h; simp
    · rw [decide_eq_false h]; symm; simpa using fun e => h e.symm
theorem in_ints {neg : Bool} {k : Int} {S : List Int} {K : PV → Prop} (q : K (.bl (if neg = true then !S.contains k else S.contains k))) : mIn neg (.int k) (tupI S) K := by
  refine ⟨.int k, _, S.map V.int, rfl, rfl, scals_ints S, rfl, ?_, ?_⟩
  · rw [List.all_map]; exact List.all_eq_true.mpr fun _ _ => rfl
  · rw [inV_ints]; exact q
theorem at_int {ns : List Int} {i : Int} {k : PV → Prop} (h0 : 0 ≤ i) (h1 : i < ns.length) (q : k (.int (sh ns i))) : mAt (tupI ns) (.int i) k := by
  obtain ⟨n, rfl⟩ := Int.eq_ofNat_of_zero_le h0
  have h3 : n < ns.length := by omega
  refine ⟨_, ?_, q⟩
  unfold L2.atI L2.ixN
  rw [List.length_map, if_pos (by omega), if_pos h1]
  show (ns.map PV.int)[n]? = _
  rw [List.getElem?_map, List.getElem?_eq_getElem h3]
  unfold sh
  rw [List.getD_eq_getElem?_getD, Int.toNat_natCast, List.getElem?_eq_getElem h3]; rfl
theorem sum_ints {ns : List Int} {k : PV → Prop} (q : k (.int ns.sum)) : cSum [tupI ns] k := ⟨_, _, ns, rfl, rfl, intsOf_map ns, q⟩
/-- d[S] -/
theorem at_look {kvs : List (PV × PV)} {S : List Int} {v : PV} {k : PV → Prop} (h : lookD kvs (nK S) = some v) (q : k v) : mAt (.dic kvs) (tupI S) k := ⟨_, v, keyOf_tupI S, h, q⟩
theorem dat_int (i : Int) : dat (.int i) = some (.int i) := by rw [dat]
theorem log_lt100 {i : Int} (h : i.natAbs < 2 ^ 100) : i.natAbs.log2 < 1920 := log_of h (by decide) (by decide)
theorem log_ok {i : Int} (h : i.natAbs < 2 ^ 100) : i.natAbs.log2 < 9000 := Nat.lt_trans (log_lt100 h) (by decide)
/-- how many cells are looked at -/
theorem most (c : Int) (hc : 1 ≤ c) (ns : List Int) : ∃ W : Int, W = (if (if c < ((ns.map PV.int).length : Int) then c else ((ns.map PV.int).length : Int)) > 1 then (if c < ((ns.map PV.int).length : Int) then c else ((ns.map PV.int).length : Int)) else (1 : Int)) ∧ 1 ≤ W ∧ W ≤ c := ⟨_, rfl, by split <;> split <;> omega, by split <;> split <;> omega⟩
theorem law_loop {ns : List Int} {c : Int} (hc : 1 ≤ c) (h10 : c ≤ 10) {gw : GW} {sb : SW} {ρ : Rho} {N : Rho → Prop} {R : PV → Prop} (I : Rho → Prop) (h0 : I ρ) (step : ∀ (i : Nat) ρ' M, (i : Int) < c → I ρ' → (∀ ρ2, I ρ2 → M ρ2) → gw (.int (0 + (i : Int))) ρ' fun ρ1 => sb ρ1 M R) (fin : ∀ ρ', I ρ' → N ρ') :
    small62 (if (if c < ((ns.map PV.int).length : Int) then c else ((ns.map PV.int).length : Int)) > 1 then (if c < ((ns.map PV.int).length : Int) then c else ((ns.map PV.int).length : Int)) else (1 : Int)) ∧
    forW gw sb ((rgI 0 (if (if c < ((ns.map PV.int).length : Int) then c else ((ns.map PV.int).length : Int)) > 1 then (if c < ((ns.map PV.int).length : Int) then c else ((ns.map PV.int).length : Int)) else (1 : Int)).toNat).map .int) ρ N R := by
  obtain ⟨W, eW, h1, h2⟩ := most c hc ns
  rw [← eW]
  exact ⟨sm62 (by omega) (by omega), for_rng (fun _ => I) h0 (fun i ρ' M hi h k => step i ρ' M (by omega) h k) fin⟩
/-- a comprehension whose items are such -/
theorem lc_any {gw : GW} {f : EW} {ρ : Rho} {k : PV → Prop} (P : PV → Prop) : ∀ {ds acc : List PV} (h : ∀ d ∈ ds, ∀ M : PV → Prop, (∀ v, P v → M v) → gw d ρ fun ρ1 => f ρ1 M) (hl : acc.length + ds.length ≤ 1000000) (hk : ∀ vs : List PV, vs.length = ds.length → (∀ v ∈ vs, P v) → k (.lst (acc ++ vs))), lcW gw tYesW f ρ k ds acc
  | [], acc, _, _, hk => by have := hk [] rfl (fun _ h => nomatch h); rw [List.append_nil] at this; exact this
  | d :: ds, acc, h, hl, hk => by
    rw [List.length_cons] at hl
    refine h d List.mem_cons_self _ fun v pv => ⟨by omega, lc_any P (fun d' hd => h d' (List.mem_cons_of_mem _ hd)) ?_ fun vs hvs hp => ?_⟩
    · rw [List.length_append]; show acc.length + 1 + ds.length ≤ 1000000; omega
    · rw [List.append_assoc]
      exact hk (v :: vs) (by rw [List.length_cons, List.length_cons, hvs]) fun w hw => by rcases List.mem_cons.mp hw with rfl | hw; exact pv; exact hp w hw
theorem ints_such {P : Int → Prop} : ∀ {vs : List PV}, (∀ v ∈ vs, ∃ i, v = .int i ∧ P i) → ∃ ns : List Int, vs = ns.map .int ∧ ns.length = vs.length ∧ ∀ i ∈ ns, P i
  | [], _ => ⟨[], rfl, rfl, fun _ h => nomatch h⟩
  | v :: vs, h => by
    obtain ⟨ns, rfl, hl, hp⟩ := ints_such (vs := vs) fun w hw => h w (List.mem_cons_of_mem _ hw)
    obtain ⟨i, rfl, pi⟩ := h _ List.mem_cons_self
    exact ⟨i :: ns, rfl, by simp, fun j hj => by rcases List.mem_cons.mp hj with rfl | hj; exact pi; exact hp j hj⟩
theorem rep_flat (n : Nat) (x : PV) : (List.replicate n [x]).flatten = List.replicate n x := by
  induction n with
  | zero => rfl
  | succ n ih => rw [List.replicate_succ, List.flatten_cons, ih, List.replicate_succ]; rfl
theorem rep_int (n : Nat) (x : Int) : (List.replicate n [PV.int x]).flatten = (List.replicate n x).map .int := by rw [rep_flat, List.map_replicate]
end KV

namespace KV
open PySem PySem.Spec PyProof.Rows L2 KGX
section
variable {m : Bool} {X : Cx} {o e d a b c : Expr} {es : List Expr} {st : Stmt} {pos apos cpos : Pos} {f g h : EW} {fa : AW} {K : PySem.W.Frag} {tw : TW} {sb : SW} {body : List Stmt}
/-! while -/
def sWhile (t : TW) (sb : SW) : SW := fun ρ N R => ∃ W : Nat → Rho → Prop, (∃ m, W m ρ) ∧ ∀ m ρ', W m ρ' → t ρ' fun b => if b = true then sb ρ' (fun ρ2 => ∃ m', m' < m ∧ W m' ρ2) R else N ρ'
theorem qs_while (hp : PassesOwn (model X.prog X.w) X.A X.env X.xe) (hc : PB X c tw) (hb : QSs X m body sb) : QS X m (.While c body [] pos) (sWhile tw sb) := PS.weak (ps_while hp hc hb) fun D σ H ⟨B0, F0, H0, F, ρ, N, R, w, ⟨W, ⟨m0, w0⟩, turn⟩, q, r⟩ => by
  refine ⟨fun n σ' H' => ∃ F' ρ', Same F F' ∧ Ws X.K B0 F0 H0 F' H' σ' ρ' ∧ W n ρ', ⟨m0, F, ρ, fun _ _ z => z, w, w0⟩, ?_⟩
  rintro n σ1 H1 ⟨F1, ρ1, s1, w1, wn⟩
  refine ⟨_, _, _, _, w1.x, turn n ρ1 wn, fun b F2 H2 pb ex => ?_⟩
  have w2 := w1.back ex
  have s2 := s1.trans (w1.sc ex)
  cases b with
  | false => exact q ρ1 σ1 _ H2 pb s2 w2
  | true =>
    refine ⟨fun σ3 H3 => ∃ F3 ρ3, Same F F3 ∧ Ws X.K B0 F0 H0 F3 H3 σ3 ρ3 ∧ ∃ m', m' < n ∧ W m' ρ3, fun σ3 H3 ⟨F3, ρ3, s3, w3, m', hm, wm⟩ => ⟨m', hm, F3, ρ3, s3, w3, wm⟩, ?_⟩
    exact ⟨B0, F0, H0, _, ρ1, _, R, w2, pb, fun ρ3 σ3 F3 H3 p3 s3 w3 => ⟨F3, ρ3, s2.trans s3, w3, p3⟩, r⟩
/-! y = [.. for .. for ..] -/
theorem ps_lc2 {fi fi1 : AW} {g g1 : TG} {gw gw1 : GW} {t t1 : TW} {f : EW} {is is1 vs1 : List Nat} {i : Nat} {y : Str} {py : Pos} {elt tg iter tg1 iter1 : Expr} {ifs ifs1 : List Expr} {scope : Scope} {own : List (Str × Nat)} {pos spos : Pos} (hc : X.calm = true) (hN : X.N.Nodup) (hy : X.N[i]? = some y) (hyl : X.env.scope.names.lookup y = some .local)
    (hsw : swapsWith (.ListComp elt [⟨tg, iter, ifs, 0⟩, ⟨tg1, iter1, ifs1, 0⟩] scope pos) (some (.Name y py)) spos.line X.env = pure true) (hi : QI X tg iter fi) (ok : BlkOk X.N X.env.scope scope own) (gx : GX X.K is g gw) (gx1 : GX X.K is1 g1 gw1) (hv : ∀ i ∈ is, i ∈ own.map (·.2)) (hv1 : ∀ i ∈ is1, i ∈ vs1) (hvs : ∀ i ∈ vs1, i ∈ own.map (·.2))
    (hg : ∀ (s : Shared) (H : Hp) (C : Addr) (cl : List (Str × Addr)) (fp : List Addr), PG (X.blk s H scope (compEnvC scope cl C X.env) fp) tg g) (ht : ∀ (s : Shared) (H : Hp) (C : Addr) (cl : List (Str × Addr)) (fp : List Addr), PBs (X.blk s H scope (compEnvC scope cl C X.env) fp) ifs t)
    (hi1 : ∀ (s : Shared) (H : Hp) (C : Addr) (cl : List (Str × Addr)) (fp : List Addr), QI (X.blk s H scope (compEnvC scope cl C X.env) fp) tg1 iter1 fi1)
    (hg1 : ∀ (s : Shared) (H : Hp) (C : Addr) (cl : List (Str × Addr)) (fp : List Addr), PG (X.blk s H scope (compEnvC scope cl C X.env) fp) tg1 g1) (ht1 : ∀ (s : Shared) (H : Hp) (C : Addr) (cl : List (Str × Addr)) (fp : List Addr), PBs (X.blk s H scope (compEnvC scope cl C X.env) fp) ifs1 t1)
    (he : ∀ (s : Shared) (H : Hp) (C : Addr) (cl : List (Str × Addr)) (fp : List Addr), PP (X.blk s H scope (compEnvC scope cl C X.env) fp) elt f) (hs : ∀ x, foldedSetIterable iter X.env x = pure x := by intro _; rfl) (hs1 : ∀ env x, foldedSetIterable iter1 env x = pure x := by intro _ _; rfl) :
    PS X (.Assign [.Name y py] (.ListComp elt [⟨tg, iter, ifs, 0⟩, ⟨tg1, iter1, ifs1, 0⟩] scope pos) spos) (tAsg (tF X.K (eLc2 fi gw t fi1 gw1 t1 f (own.map (·.2)) vs1)) (gName i)) :=
  PS.weak (ps_setLc2 (tt := tT X.K t) (tt1 := tT X.K t1) (te := tE X.K f) (wi1 := tI X.K fi1) hc hN hy hyl hsw hi ok hvs hg ht hi1 hg1 ht1 he hs hs1) (asg_mono (lc2_le gx gx1 hv hv1 (fun _ _ _ z => z) fun _ _ _ z => z))
/-! the law's box -/
theorem box_of {K : PySem.W.Frag} {sp : PV → PV → (PV → Prop) → Prop} (h : ∀ (ns : List Int) (k : Nat) (Q : PV → Prop), (∀ n, Q (.lst [.int n])) → sp (.scr ns) (.int k) Q) (xs : List V) (H : Hp) (Q : VK) (E : XK) (q : spBox K xs H Q E) : spO K (S2 sp) xs H Q E := by
  obtain ⟨a, ns, k, rfl, hS, q⟩ := q
  refine ⟨fun _ => False, H, [.scr ns, .int k], fun v => ∃ n, v = .lst [.int n], fun _ _ z => z, fun _ z => z.elim, Reps.cons (by rw [Rep]; exact ⟨a, rfl, hS⟩) (Reps.cons (by rw [Rep]) Reps.nil), h ns k _ fun n => ⟨n, rfl⟩, ?_⟩
  rintro v p o F' H' ⟨n, rfl⟩ ex fp hp ho ow
  cases o with
  | lst us =>
    have e := Reps.ints (ns := [n]) ow
    subst e
    exact q H' p n (fun a o e => ex.keep a o (fun z => z) e) hp ho
  | _ => exact ow.elim
/-! what is owned is known from now on -/
def sFrz (i : Nat) (s : SW) : SW := fun ρ N R => match ρ[i]? with
  | some (some (.ow v)) => s (ρ.set i (some (.fr v))) N R
  | _ => s ρ N R
theorem qs_frz {i : Nat} {s : SW} (h : QS X m st s) : QS X m st (sFrz i s) := PS.weak h fun D σ H ⟨B0, F0, H0, F, ρ, N, R, w, p, q, r⟩ => by
  unfold sFrz at p
  split at p
  · rename_i v e
    obtain ⟨a, F', e1, sF, w', rA⟩ := w.freeze e
    exact ⟨B0, F0, H0, F', _, N, R, w', p, fun ρ' σ' F2 H2 pn s2 w2 => q ρ' σ' F2 H2 pn (sF.trans s2) w2, r⟩
  · exact ⟨B0, F0, H0, F, ρ, N, R, w, p, q, r⟩
end
end KV

namespace KV
open PySem PySem.Spec PyProof.Rows L2 KGX
/-! ### what may be left of needs -/
def allL : List Int → List (List Int)
  | [] => [[]]
  | d :: ns => (rg (d + 1).toNat).flatMap fun o => (allL ns).map (o :: ·)
def foldL (init : List (List Int)) (ns : List Int) : List (List Int) := ns.foldl (fun f d => f.flatMap fun l => (rg (d + 1).toNat).map fun o => l ++ [o]) init
theorem foldL_eq : ∀ (ns : List Int) (init : List (List Int)), foldL init ns = init.flatMap fun l => (allL ns).map (l ++ ·)
  | [], init => by
    show init = _
    have : ∀ l : List (List Int), l = l.flatMap fun x => [x ++ []] := by
      intro l
      induction l with
      | nil => rfl
      | cons a l ih => rw [List.flatMap_cons, ← ih, List.append_nil]; rfl
    exact this init
  | d :: ns, init => by
    show foldL (init.flatMap fun l => (rg (d + 1).toNat).map fun o => l ++ [o]) ns = _
    rw [foldL_eq ns, List.flatMap_assoc]
    congr 1
    funext l
    rw [allL, List.map_flatMap, List.flatMap_map]
    congr 1
    funext o
    rw [List.map_map]
    refine List.map_congr_left fun r _ => ?_
    show l ++ [o] ++ r = l ++ (o :: r)
    simp
def allLeft (ns : List Int) : List (List Int) := foldL [[]] ns
theorem allLeft_eq (ns : List Int) : allLeft ns = allL ns := by
  unfold allLeft
  rw [foldL_eq]
  show (allL ns).map ([] ++ ·) ++ [] = _
  rw [List.append_nil]
  simp
theorem rg_mem' {n : Nat} {k : Int} : k ∈ rg n ↔ 0 ≤ k ∧ k < n := by
  unfold rg
  rw [List.mem_map]
  constructor
  · rintro ⟨i, hi, rfl⟩
    have := List.mem_range.mp hi
    omega
  · rintro ⟨h0, h1⟩
    obtain ⟨i, rfl⟩ := Int.eq_ofNat_of_zero_le h0
    exact ⟨i, List.mem_range.mpr (by omega), rfl⟩
theorem mem_allL {d : Int} {ns : List Int} {l : List Int} : l ∈ allL (d :: ns) ↔ ∃ o r, l = o :: r ∧ (0 ≤ o ∧ o < (d + 1).toNat) ∧ r ∈ allL ns := by
  rw [allL, List.mem_flatMap]
  constructor
  · rintro ⟨o, ho, hl⟩
    obtain ⟨r, hr, rfl⟩ := List.mem_map.mp hl
    exact ⟨o, r, rfl, rg_mem'.mp ho, hr⟩
  · rintro ⟨o, r, rfl, ho, hr⟩
    exact ⟨o, rg_mem'.mpr ho, List.mem_map.mpr ⟨r, hr, rfl⟩⟩
theorem allL_len : ∀ {ns l : List Int}, l ∈ allL ns → l.length = ns.length
  | [], l, h => by rw [allL, List.mem_singleton] at h; rw [h]
  | d :: ns, l, h => by
    obtain ⟨o, r, rfl, _, hr⟩ := mem_allL.mp h
    rw [List.length_cons, List.length_cons, allL_len hr]
theorem allL_nn : ∀ {ns l : List Int}, l ∈ allL ns → ∀ x ∈ l, 0 ≤ x
  | [], l, h => by rw [allL, List.mem_singleton] at h; subst h; intro x hx; exact nomatch hx
  | d :: ns, l, h => by
    obtain ⟨o, r, rfl, ho, hr⟩ := mem_allL.mp h
    intro x hx
    rcases List.mem_cons.mp hx with rfl | hx
    · exact ho.1
    · exact allL_nn hr x hx
theorem allL_self : ∀ {ns : List Int}, (∀ x ∈ ns, 0 ≤ x) → ns ∈ allL ns
  | [], _ => by rw [allL]; exact List.mem_singleton.mpr rfl
  | d :: ns, h => mem_allL.mpr ⟨d, ns, rfl, ⟨h d List.mem_cons_self, by have := h d List.mem_cons_self; omega⟩, allL_self fun x hx => h x (List.mem_cons_of_mem _ hx)⟩
def lexLt : List Int → List Int → Prop
  | a :: l, b :: m => a < b ∨ (a = b ∧ lexLt l m)
  | _, _ => False
theorem lexLt_irr : ∀ {l : List Int}, ¬ lexLt l l
  | [], h => h
  | a :: l, h => by
    rcases h with h | h
    · omega
    · exact lexLt_irr h.2
theorem lexLt_asym : ∀ {l m : List Int}, lexLt l m → ¬ lexLt m l
  | [], _, h, _ => h
  | a :: l, [], h, _ => h
  | a :: l, b :: m, h, g => by
    rcases h with h | h <;> rcases g with g | g
    · omega
    · omega
    · omega
    · exact lexLt_asym h.2 g.2
theorem rg_lt (n : Nat) : (rg n).Pairwise (· < ·) := rise_range n
theorem allL_lex : ∀ ns : List Int, (allL ns).Pairwise lexLt
  | [] => List.pairwise_singleton _ _
  | d :: ns => by
    rw [allL, List.pairwise_flatMap]
    refine ⟨fun o _ => ?_, (rg_lt _).imp fun {o1 o2} ho x hx y hy => ?_⟩
    · rw [List.pairwise_map]
      exact (allL_lex ns).imp fun h => .inr ⟨rfl, h⟩
    · obtain ⟨r, _, rfl⟩ := List.mem_map.mp hx
      obtain ⟨r', _, rfl⟩ := List.mem_map.mp hy
      exact .inl ho
theorem allL_nodup (ns : List Int) : (allL ns).Nodup := (allL_lex ns).imp fun h e => by subst e; exact lexLt_irr h
/-- one less of kind k -/
def lessK (l : List Int) (k : Nat) : List Int := l.set k (l.getD k 0 - 1)
theorem lessK_mem : ∀ {ns l : List Int} {k : Nat}, l ∈ allL ns → 0 < l.getD k 0 → lessK l k ∈ allL ns ∧ lexLt (lessK l k) l
  | [], l, k, h, hk => by rw [allL, List.mem_singleton] at h; subst h; simp at hk
  | d :: ns, l, k, h, hk => by
    obtain ⟨o, r, rfl, ho, hr⟩ := mem_allL.mp h
    cases k with
    | zero =>
      have hk' : 0 < o := by simpa using hk
      show (o - 1) :: r ∈ _ ∧ lexLt ((o - 1) :: r) (o :: r)
      exact ⟨mem_allL.mpr ⟨o - 1, r, rfl, by omega, hr⟩, .inl (by omega)⟩
    | succ k =>
      have hk' : 0 < r.getD k 0 := by simpa using hk
      obtain ⟨h1, h2⟩ := lessK_mem hr hk'
      have e : lessK (o :: r) (k + 1) = o :: lessK r k := by unfold lessK; simp
      rw [e]
      exact ⟨mem_allL.mpr ⟨o, _, rfl, ho, h1⟩, .inr ⟨rfl, h2⟩⟩
theorem before {ns l p : List Int} {j : Nat} (hj : (allL ns)[j]? = some l) (hp : p ∈ allL ns) (h : lexLt p l) : p ∈ (allL ns).take j := by
  obtain ⟨i, hi, e⟩ := List.mem_iff_getElem.mp hp
  have hj' := (List.getElem?_eq_some_iff.mp hj)
  obtain ⟨hjl, ej⟩ := hj'
  have : i < j := by
    rcases Nat.lt_trichotomy i j with z | z | z
    · exact z
    · subst z; rw [e] at ej; subst ej; exact (lexLt_irr h).elim
    · have := List.pairwise_iff_getElem.mp (allL_lex ns) j i hjl hi z
      rw [e, ej] at this
      exact (lexLt_asym h this).elim
  rw [List.mem_take_iff_getElem]
  exact ⟨i, by omega, e⟩
theorem not_before {ns l : List Int} {j : Nat} (hj : (allL ns)[j]? = some l) : l ∉ (allL ns).take j := fun h => by
  rw [List.mem_take_iff_getElem] at h
  obtain ⟨i, hi, e⟩ := h
  obtain ⟨hjl, ej⟩ := List.getElem?_eq_some_iff.mp hj
  have := List.pairwise_iff_getElem.mp (allL_lex ns) i j (by omega) hjl (by omega)
  rw [e, ej] at this
  exact lexLt_irr this
def prodL (ns : List Int) : Nat := (ns.map fun d => (d + 1).toNat).foldr (· * ·) 1
theorem allL_length : ∀ ns : List Int, (allL ns).length = prodL ns
  | [] => rfl
  | d :: ns => by
    rw [allL, List.length_flatMap]
    have : ∀ l : List Int, (l.map fun o => ((allL ns).map (o :: ·)).length).sum = l.length * prodL ns := by
      intro l
      induction l with
      | nil => simp
      | cons a l ih => rw [List.map_cons, List.sum_cons, ih, List.length_map, allL_length ns, List.length_cons, Nat.add_mul, Nat.one_mul, Nat.add_comm]
    rw [this, rg_len]
    rfl
/-! ### the mean until so many kinds are met -/
/-- the kinds that are still needed -/
def ndK (ns l : List Int) : List Nat := (List.range ns.length).filter fun k => decide (0 < l.getD k 0)
def wK (ns l : List Int) : Int := ((ndK ns l).map fun k => ns.getD k 0).sum
def Mf (ns : List Int) (c : Int) (fin : List Int → Option Rat) : Nat → List Int → Rat
  | 0, l => (fin l).getD 0
  | f + 1, l => match fin l with
    | some x => x
    | none => ((c : Rat) + ((ndK ns l).map fun k => (ns.getD k 0 : Rat) * Mf ns c fin f (lessK l k)).sum) * ((1 : Int) / (wK ns l : Rat))
theorem getD_nn {l : List Int} (h : ∀ x ∈ l, 0 ≤ x) (k : Nat) : 0 ≤ l.getD k 0 := by
  rw [List.getD_eq_getElem?_getD]
  cases e : l[k]? with
  | none => exact Int.le_refl 0
  | some x => exact h x (List.mem_of_getElem? e)
theorem sum_set : ∀ {l : List Int} {k : Nat}, k < l.length → (lessK l k).sum = l.sum - 1
  | [], k, h => nomatch h
  | a :: l, 0, _ => by show (a - 1) + l.sum = a + l.sum - 1; omega
  | a :: l, k + 1, h => by
    have e : lessK (a :: l) (k + 1) = a :: lessK l k := by unfold lessK; simp
    rw [e, List.sum_cons, List.sum_cons, sum_set (by simpa using h)]; omega
def mnU (ns : List Int) (c : Int) (fin : List Int → Option Rat) (l : List Int) : Rat := Mf ns c fin l.sum.toNat l
theorem ndK_mem {ns l : List Int} {k : Nat} : k ∈ ndK ns l ↔ k < ns.length ∧ 0 < l.getD k 0 := by
  unfold ndK
  rw [List.mem_filter, List.mem_range, decide_eq_true_eq]
theorem sum_nn : ∀ {l : List Int}, (∀ x ∈ l, 0 ≤ x) → 0 ≤ l.sum
  | [], _ => by decide
  | a :: l, h => by
    have := h a List.mem_cons_self
    have := sum_nn fun x hx => h x (List.mem_cons_of_mem _ hx)
    rw [List.sum_cons]; omega
theorem getD_le_sum : ∀ {l : List Int} {k : Nat}, (∀ x ∈ l, 0 ≤ x) → l.getD k 0 ≤ l.sum
  | [], k, _ => by simp
  | a :: l, 0, h => by
    have := sum_nn fun x hx => h x (List.mem_cons_of_mem _ hx)
    show a ≤ a + l.sum; omega
  | a :: l, k + 1, h => by
    have h1 := h a List.mem_cons_self
    have h2 := getD_le_sum (l := l) (k := k) fun x hx => h x (List.mem_cons_of_mem _ hx)
    rw [List.sum_cons]
    show l.getD k 0 ≤ _
    omega
theorem ndK_lt {ns l : List Int} {k : Nat} (h : k ∈ ndK ns l) : k < l.length := by
  have := (ndK_mem.mp h).2
  rcases Nat.lt_or_ge k l.length with z | z
  · exact z
  · rw [List.getD_eq_getElem?_getD, List.getElem?_eq_none z] at this; simp at this
theorem mnU_eq {ns l : List Int} {c : Int} {fin : List Int → Option Rat} (hl : ∀ x ∈ l, 0 ≤ x) (hn : fin l = none) : mnU ns c fin l = ((c : Rat) + ((ndK ns l).map fun k => (ns.getD k 0 : Rat) * mnU ns c fin (lessK l k)).sum) * ((1 : Int) / (wK ns l : Rat)) := by
  unfold mnU
  have s0 := sum_nn hl
  cases e : l.sum.toNat with
  | zero =>
    have : ndK ns l = [] := by
      refine List.eq_nil_iff_forall_not_mem.mpr fun k hk => ?_
      have h1 := (ndK_mem.mp hk).2
      have h2 := getD_le_sum (k := k) hl
      omega
    have w0 : wK ns l = 0 := by unfold wK; rw [this]; rfl
    rw [Mf, hn, w0]
    show (0 : Rat) = _ * ((1 : Int) / ((0 : Int) : Rat))
    rw [show ((0 : Int) : Rat) = 0 from rfl, Rat.div_def, Rat.inv_zero, Rat.mul_zero, Rat.mul_zero]
  | succ f =>
    rw [Mf, hn]
    simp only
    congr 2
    congr 1
    refine List.map_congr_left fun k hk => ?_
    rw [sum_set (ndK_lt hk), show (l.sum - 1).toNat = f by omega]
theorem mnU_fin {ns l : List Int} {c : Int} {fin : List Int → Option Rat} {x : Rat} (h : fin l = some x) : mnU ns c fin l = x := by
  unfold mnU
  cases l.sum.toNat with
  | zero => rw [Mf, h]; rfl
  | succ f => rw [Mf, h]
theorem rle_div {a b c : Rat} (h : 0 < c) : a ≤ b / c ↔ a * c ≤ b := by
  rw [← Rat.not_lt, Rat.div_lt_iff h, Rat.not_lt]
theorem rdiv_le {a b c : Rat} (h : 0 < c) : b / c ≤ a ↔ b ≤ a * c := by
  rw [← Rat.not_lt, Rat.lt_div_iff h, Rat.not_lt]
/-! how great the numbers are -/
structure FinOk (ns : List Int) (c : Int) (fin : List Int → Option Rat) (needs : List Int) : Prop where
  c0 : 0 ≤ c
  c1 : c ≤ 45
  val : ∀ l ∈ allL needs, ∀ x, fin l = some x → ∃ i : Int, x = i ∧ 0 ≤ i ∧ i ≤ 5
  some : ∀ l ∈ allL needs, fin l = none → ndK ns l ≠ []
theorem sum_rat_nn {α : Type} {f : α → Rat} : ∀ {l : List α}, (∀ x ∈ l, 0 ≤ f x) → 0 ≤ (l.map f).sum
  | [], _ => by show (0 : Rat) ≤ 0; grind
  | a :: l, h => by
    have h1 := h a List.mem_cons_self
    have h2 := sum_rat_nn (l := l) fun x hx => h x (List.mem_cons_of_mem _ hx)
    rw [List.map_cons, List.sum_cons]; grind
theorem wK_pos {ns l : List Int} (g : Good ns) (h : ndK ns l ≠ []) : 0 < wK ns l ∧ wK ns l ≤ 45 := by
  have key : ∀ ks : List Nat, (∀ k ∈ ks, k < ns.length) → (ks.length : Int) ≤ (ks.map fun k => ns.getD k 0).sum ∧ (ks.map fun k => ns.getD k 0).sum ≤ 9 * ks.length := by
    intro ks
    induction ks with
    | nil => intro _; simp
    | cons k ks ih =>
      intro h
      have h1 := ih fun x hx => h x (List.mem_cons_of_mem _ hx)
      have h2 := h k List.mem_cons_self
      have h3 : 1 ≤ ns.getD k 0 ∧ ns.getD k 0 ≤ 9 := by
        rw [List.getD_eq_getElem?_getD, List.getElem?_eq_getElem h2]
        exact g.2.2 _ (List.getElem_mem h2)
      rw [List.map_cons, List.sum_cons, List.length_cons]; omega
  have := key (ndK ns l) fun k hk => (ndK_mem.mp hk).1
  have hl : (ndK ns l).length ≤ ns.length := by
    unfold ndK
    exact Nat.le_trans (List.length_filter_le _ _) (by rw [List.length_range]; exact Nat.le_refl _)
  have : 0 < (ndK ns l).length := List.length_pos_iff.mpr h
  have := g.2.1
  unfold wK
  omega
theorem mnU_bound {ns needs : List Int} {c : Int} {fin : List Int → Option Rat} (g : Good ns) (ok : FinOk ns c fin needs) : ∀ (f : Nat) {l : List Int}, l ∈ allL needs → l.sum.toNat = f → 0 ≤ mnU ns c fin l ∧ mnU ns c fin l ≤ 5 + (c : Rat) * (l.sum : Rat) := by
  have c0 : (0 : Rat) ≤ (c : Rat) := by have := ok.c0; exact_mod_cast this
  intro f
  induction f with
  | zero =>
    intro l hl hs
    cases h : fin l with
    | some x =>
      obtain ⟨i, rfl, i0, i5⟩ := ok.val l hl x h
      rw [mnU_fin h]
      have s0 : (0 : Rat) ≤ (l.sum : Rat) := by have := sum_nn (allL_nn hl); exact_mod_cast this
      have i0' : (0 : Rat) ≤ (i : Rat) := by exact_mod_cast i0
      have i5' : (i : Rat) ≤ 5 := by exact_mod_cast i5
      have : (0 : Rat) ≤ (c : Rat) * (l.sum : Rat) := Rat.mul_nonneg c0 s0
      grind
    | none =>
      exfalso
      obtain ⟨k, hk⟩ := List.exists_mem_of_ne_nil _ (ok.some l hl h)
      have h1 := (ndK_mem.mp hk).2
      have h2 := getD_le_sum (k := k) (allL_nn hl)
      omega
  | succ f ih =>
    intro l hl hs
    have s0 : (0 : Rat) ≤ (l.sum : Rat) := by have := sum_nn (allL_nn hl); exact_mod_cast this
    cases h : fin l with
    | some x =>
      obtain ⟨i, rfl, i0, i5⟩ := ok.val l hl x h
      rw [mnU_fin h]
      have i0' : (0 : Rat) ≤ (i : Rat) := by exact_mod_cast i0
      have i5' : (i : Rat) ≤ 5 := by exact_mod_cast i5
      have : (0 : Rat) ≤ (c : Rat) * (l.sum : Rat) := Rat.mul_nonneg c0 s0
      grind
    | none =>
      have hw := wK_pos g (ok.some l hl h)
      rw [mnU_eq (allL_nn hl) h]
      have key : ∀ ks : List Nat, (∀ k ∈ ks, k ∈ ndK ns l) → 0 ≤ (ks.map fun k => (ns.getD k 0 : Rat) * mnU ns c fin (lessK l k)).sum ∧ (ks.map fun k => (ns.getD k 0 : Rat) * mnU ns c fin (lessK l k)).sum ≤ ((ks.map fun k => ns.getD k 0).sum : Int) * (5 + (c : Rat) * ((l.sum : Rat) - 1)) := by
        intro ks
        induction ks with
        | nil => intro _; constructor <;> simp <;> grind
        | cons k ks ihk =>
          intro hk
          obtain ⟨i1, i2⟩ := ihk fun x hx => hk x (List.mem_cons_of_mem _ hx)
          have hk1 := hk k List.mem_cons_self
          have hk2 := ndK_mem.mp hk1
          obtain ⟨m1, m2⟩ := ih (lessK_mem hl hk2.2).1 (by rw [sum_set (ndK_lt hk1)]; omega)
          rw [sum_set (ndK_lt hk1)] at m2
          have h3 : 1 ≤ ns.getD k 0 ∧ ns.getD k 0 ≤ 9 := by
            rw [List.getD_eq_getElem?_getD, List.getElem?_eq_getElem hk2.1]
            exact g.2.2 _ (List.getElem_mem hk2.1)
          have h5 : 0 ≤ ns.getD k 0 := by omega
          have h4 : (0 : Rat) ≤ (ns.getD k 0 : Rat) := by exact_mod_cast h5
          have e1 : ((l.sum - 1 : Int) : Rat) = (l.sum : Rat) - 1 := by simp [Rat.intCast_sub]
          rw [e1] at m2
          have p1 := Rat.mul_nonneg h4 m1
          have p2 := Rat.mul_le_mul_of_nonneg_left m2 h4
          rw [List.map_cons, List.sum_cons, List.map_cons, List.sum_cons, Rat.intCast_add]
          constructor
          · grind
          · grind
      obtain ⟨k1, k2⟩ := key (ndK ns l) fun _ z => z
      have w1 : (0 : Rat) < (wK ns l : Rat) := by exact_mod_cast hw.1
      have wne : (wK ns l : Rat) ≠ 0 := by grind
      have e : ∀ y : Rat, y * ((1 : Int) / (wK ns l : Rat)) = y / (wK ns l : Rat) := fun y => by
        rw [show ((1 : Int) : Rat) = 1 from rfl, Rat.div_def, Rat.div_def, Rat.one_mul]
      rw [e]
      have k2' : (List.map (fun k => (ns.getD k 0 : Rat) * mnU ns c fin (lessK l k)) (ndK ns l)).sum ≤ (wK ns l : Rat) * (5 + (c : Rat) * ((l.sum : Rat) - 1)) := k2
      constructor
      · rw [rle_div w1]; grind
      · rw [rdiv_le w1]
        have w2 : 1 ≤ wK ns l := by omega
        have w1' : (1 : Rat) ≤ (wK ns l : Rat) := by exact_mod_cast w2
        have : (c : Rat) ≤ (c : Rat) * (wK ns l : Rat) := by
          have := Rat.mul_le_mul_of_nonneg_left w1' c0
          grind
        grind
def wP (ns : List Int) (fin : List Int → Option Rat) (l : List Int) : Int := if (fin l).isSome = true then 1 else wK ns l
def pP (ns : List Int) (fin : List Int → Option Rat) (ls : List (List Int)) : Int := (ls.map (wP ns fin)).foldr (· * ·) 1
theorem pP_app (ns : List Int) (fin : List Int → Option Rat) (l : List Int) : ∀ ls : List (List Int), pP ns fin (ls ++ [l]) = pP ns fin ls * wP ns fin l
  | [] => by unfold pP; simp
  | a :: ls => by
    have ih := pP_app ns fin l ls
    unfold pP at ih ⊢
    rw [List.cons_append, List.map_cons, List.foldr_cons, ih, List.map_cons, List.foldr_cons, Int.mul_assoc]
theorem pP_pos {ns needs : List Int} {c : Int} {fin : List Int → Option Rat} (g : Good ns) (ok : FinOk ns c fin needs) : ∀ {ls : List (List Int)}, (∀ l ∈ ls, l ∈ allL needs) → 0 < pP ns fin ls ∧ pP ns fin ls ≤ 45 ^ ls.length
  | [], _ => by unfold pP; simp
  | a :: ls, h => by
    obtain ⟨h1, h2⟩ := pP_pos g ok (ls := ls) fun l hl => h l (List.mem_cons_of_mem _ hl)
    have hw : 0 < wP ns fin a ∧ wP ns fin a ≤ 45 := by
      unfold wP
      cases e : fin a with
      | some x => simp
      | none => simpa using wK_pos g (ok.some a (h a List.mem_cons_self) e)
    have e : pP ns fin (a :: ls) = wP ns fin a * pP ns fin ls := rfl
    rw [e, List.length_cons, Int.pow_succ, Int.mul_comm]
    exact ⟨Int.mul_pos h1 hw.1, Int.mul_le_mul h2 hw.2 (by omega) (Int.pow_nonneg (by decide))⟩
theorem mnU_int {ns needs : List Int} {c : Int} {fin : List Int → Option Rat} (g : Good ns) (ok : FinOk ns c fin needs) : ∀ (j : Nat), j ≤ (allL needs).length → ∀ l ∈ (allL needs).take j, ∃ z : Int, mnU ns c fin l = (z : Rat) / (pP ns fin ((allL needs).take j) : Rat)
  | 0, _, l, hl => by rw [List.take_zero] at hl; exact nomatch hl
  | j + 1, hj, l, hl => by
    have ih := mnU_int g ok j (by omega)
    have hjl : j < (allL needs).length := by omega
    obtain ⟨m, hm⟩ : ∃ m, (allL needs)[j]? = some m := ⟨_, List.getElem?_eq_getElem hjl⟩
    have hmm := List.mem_of_getElem? hm
    rw [take_step hm] at hl ⊢
    rw [pP_app]
    have p0 := (pP_pos g ok (ls := (allL needs).take j) fun l hl => List.mem_of_mem_take hl).1
    have pne : (pP ns fin ((allL needs).take j) : Rat) ≠ 0 := cast_ne p0
    have hw : 0 < wP ns fin m := by
      unfold wP
      cases e : fin m with
      | some x => simp
      | none => simpa using (wK_pos g (ok.some m hmm e)).1
    have wne : (wP ns fin m : Rat) ≠ 0 := cast_ne hw
    rcases List.mem_append.mp hl with hl | hl
    · obtain ⟨z, e⟩ := ih l hl
      refine ⟨z * wP ns fin m, ?_⟩
      rw [e, Rat.intCast_mul, Rat.intCast_mul]
      grind
    · rw [List.mem_singleton] at hl
      subst hl
      cases h : fin l with
      | some x =>
        obtain ⟨i, rfl, _⟩ := ok.val l hmm x h
        refine ⟨i * (pP ns fin ((allL needs).take j) * wP ns fin l), ?_⟩
        rw [mnU_fin h, Rat.intCast_mul, Rat.intCast_mul]
        grind
      | none =>
        have ew : wP ns fin l = wK ns l := by unfold wP; rw [h]; rfl
        rw [mnU_eq (allL_nn hmm) h, ew]
        have key : ∀ ks : List Nat, (∀ k ∈ ks, k ∈ ndK ns l) → ∃ z : Int, (ks.map fun k => (ns.getD k 0 : Rat) * mnU ns c fin (lessK l k)).sum = (z : Rat) / (pP ns fin ((allL needs).take j) : Rat) := by
          intro ks
          induction ks with
          | nil => intro _; exact ⟨0, by show (0 : Rat) = ((0 : Int) : Rat) / _; rw [show ((0 : Int) : Rat) = 0 from rfl, Rat.div_def, Rat.zero_mul]⟩
          | cons k ks ihk =>
            intro hk
            obtain ⟨z1, e1⟩ := ihk fun x hx => hk x (List.mem_cons_of_mem _ hx)
            have hk2 := ndK_mem.mp (hk k List.mem_cons_self)
            obtain ⟨q1, q2⟩ := lessK_mem hmm hk2.2
            obtain ⟨z2, e2⟩ := ih _ (before hm q1 q2)
            refine ⟨ns.getD k 0 * z2 + z1, ?_⟩
            rw [List.map_cons, List.sum_cons, e1, e2, Rat.intCast_add, Rat.intCast_mul]
            grind
        obtain ⟨z, e⟩ := key (ndK ns l) fun _ q => q
        have wne' : (wK ns l : Rat) ≠ 0 := by rw [← ew]; exact wne
        refine ⟨c * pP ns fin ((allL needs).take j) + z, ?_⟩
        rw [e, Rat.intCast_add, Rat.intCast_mul, Rat.intCast_mul]
        have : ((1 : Int) : Rat) = 1 := rfl
        rw [this]
        grind
theorem mnU_sz {ns needs : List Int} {c : Int} {fin : List Int → Option Rat} (g : Good ns) (ok : FinOk ns c fin needs) (hp : prodL needs ≤ 64) (hs : needs.sum ≤ 15) (hnn : ∀ x ∈ needs, 0 ≤ x) {l : List Int} (hl : l ∈ allL needs) (hls : l.sum ≤ 15) : Sz 380 (mnU ns c fin l) := by
  have hlen := allL_length needs
  obtain ⟨z, e⟩ := mnU_int g ok (allL needs).length (Nat.le_refl _) l (by rw [List.take_length]; exact hl)
  rw [List.take_length] at e
  obtain ⟨p0, p1⟩ := pP_pos g ok (ls := allL needs) fun _ q => q
  obtain ⟨b0, b1⟩ := mnU_bound g ok _ hl rfl
  have pr : (0 : Rat) < (pP ns fin (allL needs) : Rat) := by exact_mod_cast p0
  have c1 : (c : Rat) ≤ 45 := by have := ok.c1; exact_mod_cast this
  have c0 : (0 : Rat) ≤ (c : Rat) := by have := ok.c0; exact_mod_cast this
  have s0 : (0 : Rat) ≤ (l.sum : Rat) := by have := sum_nn (allL_nn hl); exact_mod_cast this
  have s1 : (l.sum : Rat) ≤ 15 := by exact_mod_cast hls
  have b2 : mnU ns c fin l ≤ 680 := by
    have h1 := Rat.mul_le_mul_of_nonneg_right c1 s0
    grind
  rw [e, rdiv_le pr] at b2
  rw [e, rle_div pr] at b0
  have z0 : 0 ≤ z := by
    have : (0 : Rat) ≤ (z : Rat) := by grind
    exact_mod_cast this
  have z1 : z ≤ 680 * pP ns fin (allL needs) := by
    have : (z : Rat) ≤ ((680 * pP ns fin (allL needs) : Int) : Rat) := by rw [Rat.intCast_mul]; exact b2
    exact_mod_cast this
  have p2 : pP ns fin (allL needs) ≤ 45 ^ 64 := Int.le_trans p1 (by
    have : (45 : Int) ^ (allL needs).length ≤ 45 ^ 64 := by
      have h := Nat.pow_le_pow_right (show 0 < 45 by decide) (show (allL needs).length ≤ 64 by rw [hlen]; exact hp)
      exact_mod_cast h
    exact this)
  have hbig : (680 : Int) * 45 ^ 64 < 2 ^ 380 := by decide
  rw [e]
  exact sz_div p0 (by omega) (by omega)
theorem sub_mem' {i : Nat} {ks S : List Int} (h : S ∈ allSub ks) (hl : ks.length = i) : ∀ x ∈ S, x ∈ ks := by
  induction i generalizing ks S with
  | zero =>
    have : ks = [] := List.eq_nil_of_length_eq_zero hl
    subst this
    have : S = [] := List.mem_singleton.mp h
    subst this
    intro x hx; exact nomatch hx
  | succ i ih =>
    obtain ⟨init, last, rfl⟩ : ∃ init last, ks = init ++ [last] := ⟨ks.dropLast, ks.getLast (by intro z; rw [z] at hl; exact nomatch hl), (List.dropLast_concat_getLast _).symm⟩
    rw [List.length_append] at hl
    have hl' : init.length = i := by simpa using hl
    rw [allSub_app] at h
    rcases List.mem_append.mp h with h | h
    · intro x hx; exact List.mem_append_left _ (ih h hl' x hx)
    · obtain ⟨T, hT, rfl⟩ := List.mem_map.mp h
      intro x hx
      rcases List.mem_append.mp hx with hx | hx
      · exact List.mem_append_left _ (ih hT hl' x hx)
      · exact List.mem_append_right _ hx
/-! comprehensions of two -/
theorem lc1_map {gw1 : GW} {f : EW} {ρ : Rho} {nx : List PV → Prop} (g : PV → PV) : ∀ {es acc : List PV} (h : ∀ e ∈ es, ∀ M : PV → Prop, M (g e) → gw1 e ρ fun ρ1 => f ρ1 M) (hl : acc.length + es.length ≤ 1000000) (hk : nx (acc ++ es.map g)), lcW1 gw1 tYesW f ρ nx es acc
  | [], acc, _, _, hk => by rw [List.map_nil, List.append_nil] at hk; exact hk
  | d :: ds, acc, h, hl, hk => by
    rw [List.length_cons] at hl
    refine h d List.mem_cons_self _ ⟨by omega, lc1_map g (fun d' hd => h d' (List.mem_cons_of_mem _ hd)) ?_ ?_⟩
    · rw [List.length_append]; show acc.length + 1 + ds.length ≤ 1000000; omega
    · rw [List.append_assoc]; exact hk
theorem lc2_map {gw gw1 : GW} {fi1 : AW} {f : EW} {vs1 : List Nat} {ρ : Rho} {k : PV → Prop} (es : PV → List PV) : ∀ {ds acc : List PV} (h : ∀ d ∈ ds, ∀ (acc' : List PV) (nx : List PV → Prop), acc'.length + (es d).length ≤ 1000000 → nx (acc' ++ es d) → gw d ρ fun ρ1 => fi1 ρ1 fun us => lcW1 gw1 tYesW f (wipeR ρ1 vs1) nx us acc')
    (hl : acc.length + (ds.map fun d => (es d).length).sum ≤ 1000000) (hk : k (.lst (acc ++ ds.flatMap es))), lcW2 gw tYesW fi1 gw1 tYesW f vs1 ρ k ds acc
  | [], acc, _, _, hk => by rw [List.flatMap_nil, List.append_nil] at hk; exact hk
  | d :: ds, acc, h, hl, hk => by
    rw [List.map_cons, List.sum_cons] at hl
    refine h d List.mem_cons_self acc _ (by omega) (lc2_map es (fun d' hd => h d' (List.mem_cons_of_mem _ hd)) ?_ ?_)
    · rw [List.length_append]; omega
    · rw [List.append_assoc]; exact hk
theorem foldL_app (ns : List Int) (d : Int) : allLeft (ns ++ [d]) = (allLeft ns).flatMap fun l => (rg (d + 1).toNat).map fun o => l ++ [o] := by
  unfold allLeft foldL
  rw [List.foldl_append]; rfl
theorem prodL_le : ∀ {ns : List Int}, (∀ x ∈ ns, 0 ≤ x ∧ x ≤ 3) → prodL ns ≤ 4 ^ ns.length
  | [], _ => Nat.le_refl _
  | d :: ns, h => by
    have h1 := h d List.mem_cons_self
    have h2 := prodL_le fun x hx => h x (List.mem_cons_of_mem _ hx)
    show (d + 1).toNat * prodL ns ≤ _
    rw [List.length_cons, Nat.pow_succ, Nat.mul_comm]
    exact Nat.mul_le_mul h2 (by omega)
theorem rgI_zero (n : Nat) : rgI 0 n = rg n := by unfold rgI rg; exact List.map_congr_left fun i _ => by rw [Int.zero_add]
theorem cut_take (xs : List PV) {k : Nat} (h : k ≤ xs.length) : cutP xs none (some (k : Int)) = xs.take k := by
  unfold cutP
  have e1 : HT.sIx xs.length 0 none = 0 := HT.sIx_none _ _
  have e2 : HT.sIx xs.length xs.length (some (k : Int)) = min k xs.length := HT.sIx_nat xs.length xs.length k
  rw [e1, e2, List.drop_zero, Nat.sub_zero, Nat.min_eq_left h]
theorem cut_drop (xs : List PV) {k : Nat} (h : k ≤ xs.length) : cutP xs (some (k : Int)) none = xs.drop k := by
  unfold cutP
  have e1 : HT.sIx xs.length 0 (some (k : Int)) = min k xs.length := HT.sIx_nat xs.length 0 k
  have e2 : HT.sIx xs.length xs.length none = xs.length := HT.sIx_none _ _
  rw [e1, e2, Nat.min_eq_left h]
  exact List.take_of_length_le (by rw [List.length_drop]; exact Nat.le_refl _)
end KV

namespace KV
open PySem PySem.Spec PyProof.Rows L2 KGX
open PySem.W (AllAlike Sortable dataLe EachIs)
/-! sorted of data that are alike -/
section
variable {X : Cx} {pins : List (Addr × Obj)} {σ : L2.St} {H : Hp} {s : Shared}
theorem each_dp (I : Inv X pins σ H s) : ∀ {xs : List V} {ds : List PyData} {its : List Value}, DpAll X.K H xs ds → Vals xs its → xs.length = ds.length ∧ EachIs (fun u (b : V × PyData) => RelV b.1 u ∧ ∃ as, Reads s.heap u b.2 as) its (xs.zip ds)
  | _, _, _, .nil, r => by cases r; exact ⟨rfl, .nil⟩
  | _, _, _, .cons h1 h2, r => by
    cases r with
    | cons r1 r2 =>
      obtain ⟨e, q⟩ := each_dp I h2 r2
      exact ⟨by rw [List.length_cons, List.length_cons, e], .cons ⟨r1, Dp.reads I _ _ _ h1 r1⟩ q⟩
theorem vals_each : ∀ {out : List Value} {bs : List (V × PyData)}, EachIs (fun u (b : V × PyData) => RelV b.1 u ∧ ∃ as, Reads s.heap u b.2 as) out bs → Vals (bs.map Prod.fst) out
  | _, _, .nil => .nil
  | _, _, .cons h1 h2 => .cons h1.1 (vals_each h2)
end
section
variable {X : Cx}
def srtZ {α : Type} (xs : List α) (ds : List PyData) : List α := ((xs.zip ds).mergeSort (dataLe false Prod.snd)).map Prod.fst
def rSortD (K : PySem.W.Frag) : List V → Hp → VK → Prop := fun vs H Q => ∃ (a : Addr) (xs : List V) (ds : List PyData), vs = [V.ref a] ∧ SqL K H a xs ∧ DpAll K H xs ds ∧ AllAlike ds ∧ Sortable ds ∧ (∀ d ∈ ds, d.depth ≤ 60) ∧
  ∀ p, H p = none → Q (.ref p) (upd H p (.lst (srtZ xs ds)))
theorem cr_sortD (hu : X.A.units + 64 < cLine) : CallR X (.builtin "sorted") (rSortD X.K) := by
  intro pins s σ H vs us Q I r h
  obtain ⟨a, xs, ds, rfl, hs, hd, ha, hk, hp, q⟩ := h
  obtain ⟨its, rv, hl, hz⟩ := I.list hs
  obtain ⟨u, rfl, ru⟩ := vals1 r
  obtain rfl : u = Value.ref a := ru
  obtain ⟨hlen, e⟩ := each_dp I hd rv
  have em : (xs.zip ds).map Prod.snd = ds := List.map_snd_zip (by omega)
  have ez : (xs.zip ds).length = xs.length := by rw [List.length_zip]; omega
  refine PySem.W.sorted_data (enc := Prod.snd) hl.isList e (e.mono fun _ _ h => h.2) (by rw [em]; exact ha) (by rw [em]; exact hk) (by rw [ez]; exact hz) (fun b hb => ?_) fun out ho eo => ?_
  · have : b.2 ∈ ds := by rw [← em]; exact List.mem_map.mpr ⟨b, hb, rfl⟩
    have := hp _ this
    omega
  · obtain ⟨n, hn⟩ := sortedAll_at s.heap its (List.toArray out)
    refine ⟨.ref (s.heap.objs.size + 1), upd H (s.heap.objs.size + 1) (.lst (srtZ xs ds)), I.laid (t' := s.toks) (fun b o e => sortedAll_old e) (Nat.le_succ _) ⟨?_, out, n, vals_each eo, hn⟩, rfl, q _ (I.hok.fresh (Nat.le_succ _))⟩
    unfold srtZ
    rw [List.length_map, List.length_mergeSort, ez]
    exact hz
/-- of a list of data that are alike -/
def mSortD : CW := fun vs k => match vs with
  | [.lst xs] => ∃ ds, dats xs = some ds ∧ AllAlike ds ∧ Sortable ds ∧ (∀ d ∈ ds, d.depth ≤ 60) ∧ k (.lst (srtZ xs ds))
  | _ => False
theorem dats_len : ∀ {xs : List PV} {ds : List PyData}, dats xs = some ds → xs.length = ds.length
  | [], ds, h => by rw [dats] at h; cases h; rfl
  | x :: xs, ds, h => by
    rw [dats] at h
    obtain ⟨d, _, h⟩ := Option.bind_eq_some_iff.mp h
    obtain ⟨es, h1, rfl⟩ := Option.map_eq_some_iff.mp h
    rw [List.length_cons, List.length_cons, dats_len h1]
theorem reps_len {K : PySem.W.Frag} {F : Hp} : ∀ {xs : List V} {vs : List PV}, Reps K F xs vs → xs.length = vs.length
  | [], [], _ => rfl
  | _ :: _, _ :: _, h => by rw [Reps] at h; rw [List.length_cons, List.length_cons, reps_len h.2]
  | [], _ :: _, h => by rw [Reps] at h; exact h.elim
  | _ :: _, [], h => by rw [Reps] at h; exact h.elim
theorem reps_zip {K : PySem.W.Frag} {F : Hp} : ∀ {xs : List V} {vs : List PV} {ds : List PyData}, Reps K F xs vs → vs.length = ds.length → ∃ zs : List (V × PV × PyData), (∀ z ∈ zs, Rep K F z.1 z.2.1) ∧ zs.map (fun z => (z.1, z.2.2)) = xs.zip ds ∧ zs.map (fun z => (z.2.1, z.2.2)) = vs.zip ds
  | [], [], _, _, _ => ⟨[], fun _ h => (nomatch h), rfl, rfl⟩
  | x :: xs, v :: vs, d :: ds, h, hl => by
    rw [Reps] at h
    obtain ⟨zs, h1, h2, h3⟩ := reps_zip h.2 (Nat.succ.inj hl)
    refine ⟨(x, v, d) :: zs, fun z hz => ?_, ?_, ?_⟩
    · rcases List.mem_cons.mp hz with rfl | hz
      · exact h.1
      · exact h1 z hz
    · rw [List.map_cons, h2]; rfl
    · rw [List.map_cons, h3]; rfl
  | _ :: _, _ :: _, [], _, hl => nomatch hl
  | [], _ :: _, _, h, _ => by rw [Reps] at h; exact h.elim
  | _ :: _, [], _, h, _ => by rw [Reps] at h; exact h.elim
theorem reps_of {K : PySem.W.Frag} {F : Hp} : ∀ {zs : List (V × PV × PyData)}, (∀ z ∈ zs, Rep K F z.1 z.2.1) → Reps K F (zs.map (·.1)) (zs.map (·.2.1))
  | [], _ => by rw [List.map_nil, List.map_nil, Reps]; trivial
  | z :: zs, h => by
    rw [List.map_cons, List.map_cons, Reps]
    exact ⟨h z List.mem_cons_self, reps_of fun y hy => h y (List.mem_cons_of_mem _ hy)⟩
theorem reps_srt {K : PySem.W.Frag} {F : Hp} {xs : List V} {vs : List PV} {ds : List PyData} (h : Reps K F xs vs) (hl : vs.length = ds.length) : Reps K F (srtZ xs ds) (srtZ vs ds) := by
  obtain ⟨zs, h1, h2, h3⟩ := reps_zip h hl
  unfold srtZ
  have m1 := List.map_mergeSort (r := dataLe false fun z : V × PV × PyData => z.2.2) (s := dataLe false Prod.snd) (f := fun z => (z.1, z.2.2)) (l := zs) (fun a _ b _ => rfl)
  have m2 := List.map_mergeSort (r := dataLe false fun z : V × PV × PyData => z.2.2) (s := dataLe false Prod.snd) (f := fun z => (z.2.1, z.2.2)) (l := zs) (fun a _ b _ => rfl)
  rw [← h2, ← h3, ← m1, ← m2, List.map_map, List.map_map]
  exact reps_of fun z hz => h1 z ((List.mergeSort_perm _ _).mem_iff.mp hz)
theorem pf_sortD {e : Expr} {pos p : Pos} {fa : AW} (hu : X.A.units + 64 < cLine) (hg : Gl X "sorted") (hm : X.mg "sorted" = none) (hv : bootBuiltins "sorted" = some (.builtin "sorted")) (ha : PPs X [e] fa) (he : starEach [e] X.env = (false, eval e X.env) :: starEach [] X.env := by rfl) (hpl : (backTo pos (starEach [] X.env)).any (·.1) = false := by rfl) :
    PF X (.Call (.Name "sorted" p) [e] [] pos) (eCall mSortD fa) := PE.weak (pe_callB (cr_sortD hu) hg hm hv ha (by decide) (by decide) he hpl) fun σ H Q ⟨B, F, ρ, P, w, p, q⟩ => by
  refine ⟨B, F, ρ, _, w, p, fun vs xs F1 H1 p1 e1 r1 => ?_⟩
  unfold mSortD at p1
  split at p1
  case h_2 => exact p1.elim
  obtain ⟨ds, hds, ha, hk, hp, p2⟩ := p1
  obtain ⟨x, rfl, rx⟩ := r1.one
  have w1 := w.ext e1
  rw [Rep] at rx
  obtain ⟨l, us, rfl, sq, ru⟩ := rx
  exact ⟨l, us, ds, rfl, .inl (.inl (w1.fh _ _ sq)), Reps.dp w1.fh _ ru hds, ha, hk, hp, own_new e1 w1.fh (fun a b => (w1.bx a b).2) p2 (fun _ => reps_srt ru (dats_len hds)) q⟩
/-! what is known of it -/
theorem srtZ_such {α : Type} {xs : List α} {ds : List PyData} (h : xs.length = ds.length) : ∃ zs : List (α × PyData), zs.Perm (xs.zip ds) ∧ zs.Pairwise (fun a b => PySem.W.dataLt b.2 a.2 = false) ∧ srtZ xs ds = zs.map Prod.fst := by
  refine ⟨_, List.mergeSort_perm _ _, ?_, rfl⟩
  refine (PySem.W.sort_pairwise (PySem.W.sortLe_total _ false _) _).imp fun {a b} h => ?_
  have h' : (!PySem.W.dataLt b.2 a.2) = true := h
  simpa using h'
end
end KV

namespace KV
open PySem PySem.Spec PyProof.Rows L2 KGX
section
variable {X : Cx} {e : Expr} {td : TE} {apos cpos : Pos}
/-! d.values(), as a thing; sum of it -/
def VwO (r a : Addr) : HO := .ext fun h => h.IsValuesView r a
def tVals (td : TE) : TE := fun σ H Q => td σ H fun x H1 => ∃ a xs ep, x = .ref a ∧ MR H1 a xs ep ∧ ∀ r, H1 r = none → Q (.ref r) (upd H1 r (VwO r a))
theorem pe_vals (he : PE X e td) (hbase : attributeBase e "values" X.env (eval e X.env) = eval e X.env := by rfl) (hline : (apos.endLine == cpos.line) = true := by rfl) : PE X (.Call (.Attribute e "values" apos) [] [] cpos) (tVals td) := by
  refine ⟨fun pins s σ H Q I h => wpAny_Call_method (T := "dict") (id := "dict.values") hbase rfl hline F.plainAttrs_dict F.slot_dict_values F.type_dict_values (thn (he.run pins s σ H _ I h) fun u s1 ⟨x, H1, I1, rx, a, xs, ep, ex, d, q⟩ => ?_)⟩
  subst ex; cases rx
  obtain ⟨es, dr, hl, ent⟩ := d.raw I1
  obtain ⟨o, ho, hx, hdt⟩ := id dr
  refine ⟨dr.typeIs, fun b q => by cases q; exact ⟨o, ho, hx.2.1⟩, ?_⟩
  have fin : EP X pins σ Q (.ref s1.heap.objs.size) { s1 with heap := s1.heap.push { cls := .type "dict_values", data := .fields #[.ref a] } } := by
    refine ⟨.ref s1.heap.objs.size, upd H1 s1.heap.objs.size (VwO s1.heap.objs.size a), I1.laid (a := s1.heap.objs.size) (t' := s1.toks) (fun _ _ q => Heap.get?_push_of_some _ q) (Nat.le_refl _) ?_, rfl, q _ (I1.hok.fresh (Nat.le_refl _))⟩
    exact ⟨⟨_, Heap.get?_push_size _ rfl, rfl, rfl⟩, ⟨_, Heap.get?_push_size _ rfl⟩, fun g1 g2 ⟨o, e1, e2⟩ k => ⟨o, k o e1, e2⟩⟩
  show wpAny _ _ (callWith cpos (.builtin "dict.values") [.ref a] [] []) _ X.xe s1
  exact method_meetsIn F.slot_dict_values F.entry_dict_values rfl (PySem.evalArgs_none ⟨rfl, dr.typeIs, F.args_dict_values_1 _, _, meets_dict_values_raw a d.2, ⟨es, ep, dr⟩, fin⟩)
theorem pre_sum : ∀ ns : List Int, preSum (fun i => ns.getD i 0) ns.length = ns.sum
  | [] => rfl
  | n :: ns => by
    rw [List.length_cons, PySem.W.kdu_shift, List.sum_cons]
    show n + preSum (fun i => ns.getD i 0) ns.length = _
    rw [pre_sum ns]
def rSumV : List V → Hp → VK → Prop := fun vs H Q => ∃ (r a : Addr) (xs : List Ent) (ep : Nat) (ns : List Int), vs = [.ref r] ∧ H r = some (VwO r a) ∧ MR H a xs ep ∧ xs.length = ns.length ∧ (∀ (i : Nat) (x : Ent), xs[i]? = some x → ∃ t, x.2.2 = .int (ns.getD i 0) t) ∧ Q (.int ns.sum) H
theorem cr_sumV (hc : X.calm = true) : CallR X (.builtin "sum") rSumV := by
  intro pins s σ H vs us Q I r h
  obtain ⟨r0, a, xs, ep, ns, rfl, hr, d, hl, hv, q⟩ := h
  rw [Vals.ref1 r]
  obtain ⟨es, dr, hes, ent⟩ := d.raw I
  have vw : s.heap.IsValuesView r0 a := (show ObjOk X.prog X.w H s.heap r0 (VwO r0 a) from I.hok r0 _ hr).1
  refine call_sum_walkAnyS ?_
  have K : PySem.W.KdlSrc X.prog X.w "dict_values" r0 a es.size (fun i v => ∃ hi : i < es.size, v = es[i].val) (fun h => h.IsValuesView r0 a ∧ h.DictRaw a es ep) := KdlSrc.rawValues
  obtain ⟨oI, St, hit, W, st⟩ := K.iter X.A.in1 s (I.ok.hd hc) ⟨vw, dr⟩
  refine hit _ _ ⟨s.heap.objs.size, _, _, _, es.size, _, _, fun i => ns.getD i 0, rfl, W.toS, st, fun b hb => ?_, ?_, fun s' t' hm => ?_⟩
  · show b < (s.heap.push oI).objs.size
    rw [size_push']
    rcases List.mem_cons.mp hb with e | hb
    · rw [e]; exact Nat.lt_succ_self _
    · rw [List.mem_singleton.mp hb]; exact Nat.lt_succ_of_lt (K.there _ ⟨vw, dr⟩).2
  · rintro i v ⟨hi, rfl⟩
    obtain ⟨x, hx, ek, ev⟩ := ent i hi
    obtain ⟨t, et⟩ := hv i x hx
    exact ⟨t, by rw [ev, et]⟩
  · have hk : ∀ b o, s.heap.get? b = some o → s'.heap.get? b = some o := fun b o e =>
      hm.heap b o (fun hI => absurd (Heap.lt_size e) (by rw [List.mem_singleton.mp hI]; exact Nat.lt_irrefl _)) (Heap.get?_push_of_some _ e)
    rw [Moved.eq_with hm, hes, hl, pre_sum]
    exact ⟨.int ns.sum, H, I.kept (t' := s'.toks) hk, ⟨_, rfl⟩, q⟩
def eSumV (f : EW) : EW := fun ρ k => f ρ fun v => match v with
  | .dic kvs => ∃ ns, intsOf (kvs.map (·.2)) = some ns ∧ k (.int ns.sum)
  | _ => False
theorem repX_ints {K : PySem.W.Frag} {F : Hp} : ∀ {xs : List Ent} {ds : List (PV × PV)} {ns : List Int}, RepX K F xs ds → ds.map (·.2) = ns.map PV.int → xs.length = ns.length ∧ ∀ (i : Nat) (x : Ent), xs[i]? = some x → ∃ t, x.2.2 = .int (ns.getD i 0) t
  | [], [], [], _, _ => ⟨rfl, fun i x h => nomatch h⟩
  | e :: xs, (k, d) :: ds, n :: ns, h, hn => by
    rw [RepX] at h
    rw [List.map_cons, List.map_cons] at hn
    injection hn with h1 h2
    obtain ⟨⟨_, _, y, ry, rd⟩, h3⟩ := h
    obtain ⟨hl, hx⟩ := repX_ints h3 h2
    have h1' : d = PV.int n := h1
    subst h1'
    rw [Rep] at rd
    subst rd
    obtain ⟨t, et⟩ := (show ∃ t, e.2.2 = Value.int n t from ry)
    refine ⟨by rw [List.length_cons, List.length_cons, hl], fun i x hi => ?_⟩
    match i, hi with
    | 0, hi => cases hi; exact ⟨t, et⟩
    | i + 1, hi => exact hx i x hi
  | [], _ :: _, _, h, _ => by rw [RepX] at h; exact h.elim
  | _ :: _, [], _, h, _ => by rw [RepX] at h; exact h.elim
  | _ :: _, _ :: _, [], _, hn => nomatch hn
  | [], [], _ :: _, _, hn => nomatch hn
theorem pp_sumV {l : Expr} {f : EW} {p pos : Pos} (hc : X.calm = true) (hg : Gl X "sum") (hm : X.mg "sum" = none) (hv : bootBuiltins "sum" = some (.builtin "sum")) (hd : PP X l f) (hbase : attributeBase l "values" X.env (eval l X.env) = eval l X.env := by rfl) (hline : (apos.endLine == cpos.line) = true := by rfl)
    (he : starEach [.Call (.Attribute l "values" apos) [] [] cpos] X.env = (false, eval (.Call (.Attribute l "values" apos) [] [] cpos) X.env) :: starEach [] X.env := by rfl) (hpl : (backTo pos (starEach [] X.env)).any (·.1) = false := by rfl) :
    PP X (.Call (.Name "sum" p) [.Call (.Attribute l "values" apos) [] [] cpos] [] pos) (eSumV f) := PE.weak (pe_callB (cr_sumV hc) hg hm hv (pa_cons (pe_vals hd hbase hline) pa_nil he) (by decide) (by decide) he hpl) fun σ H Q ⟨B, F, ρ, P, w, p, q⟩ => by
  refine ⟨B, F, ρ, _, w, p, fun v x F1 H1 hv ex rx => ?_⟩
  split at hv
  case h_2 => exact hv.elim
  obtain ⟨ns, hns, hp⟩ := hv
  have w1 := w.ext ex
  obtain ⟨a, xs, ep, rfl, e, _, dk, r⟩ := rx.dic (fun _ _ z => z : Same F1 F1)
  have mr : MR H1 a xs ep := ⟨ex.fh _ _ e, dk.1⟩
  refine ⟨a, xs, ep, rfl, mr, fun r0 hr0 => ?_⟩
  have hne : a ≠ r0 := fun z => by rw [← z, mr.1] at hr0; exact nomatch hr0
  obtain ⟨hl, hx⟩ := repX_ints r (intsOf_eq hns)
  refine ⟨r0, a, xs, ep, ns, rfl, upd_same, ⟨by rw [upd_ne hne]; exact mr.1, mr.2⟩, hl, hx, ?_⟩
  exact q _ _ F1 _ hp (ex.trans (.own w1.fh (fun a b => (w1.bx a b).2) hr0)) (by rw [Rep])
/-! d != {} -/
def rNeE : R2 := fun x y H Q => ∃ a b xs ep ep', x = .ref a ∧ y = .ref b ∧ MR H a xs ep ∧ MR H b [] ep' ∧ Q (.bl (!xs.isEmpty)) H
theorem op_neE (hu : X.A.units + 64 < cLine) : OpR X (compareOp .NotEq) rNeE := by
  intro pins s σ H x y v u Q I rx ry h
  obtain ⟨a, b, xs, ep, ep', rfl, rfl, da, db, q⟩ := h
  obtain rfl : v = Value.ref a := rx
  obtain rfl : u = Value.ref b := ry
  obtain ⟨es, dr, hl, _⟩ := da.raw I
  obtain ⟨es', dr', hl', _⟩ := db.raw I
  have e0 : es' = #[] := Array.eq_empty_of_size_eq_zero (by rw [hl']; rfl)
  subst e0
  have hu1 : X.A.units < cLine := by omega
  cases xs with
  | nil =>
    have e1 : es = #[] := Array.eq_empty_of_size_eq_zero (by rw [hl]; rfl)
    subst e1
    have mk : ∀ {c : Addr} {ep : Nat}, s.heap.DictRaw c #[] ep → s.heap.DictOf (mixKind X.prog X.w) c [] := fun {c ep} ⟨o, h1, h2, h3⟩ => ⟨o, #[], ep, h1, h2, h3, by intro e he; simp at he, .nil, List.nodup_nil⟩
    exact PySem.W.keq_ne (knd := mixKind X.prog X.w) (r := true) da.2 db.2 (mk dr) (mk dr') hu1 (fun _ => .nil) (fin_bl I q (by simp))
  | cons x xs =>
    refine wpAny_richCompare_same_room (op := .NotEq) dr.typeIs dr'.typeIs PySem.F.slot_dict_ne (wpAny_call_entry PySem.F.slot_dict_ne dr.typeIs PySem.F.entry_dict_ne ?_ (PySem.F.args_dict_ne_2 _ _)) hu1
    show wpAny _ _ (Builtin.Dict.dictSlotArgs "__ne__" ⟨[.ref a, .ref b], []⟩ >>= _) _ _ s
    refine wpAny_bind ?_
    unfold Builtin.Dict.dictSlotArgs
    refine wpAny_bind (wpAny_notOrdered_dict dr.typeIs ?_)
    show wpAny _ _ (pure (Value.ref a, Value.ref b)) _ _ s
    refine wpAny_pure ?_
    refine wpAny_bind (wpAny_isInstance (T := "dict") dr'.typeIs PySem.F.sub_dict_dict ?_)
    simp only [Bool.not_true, Bool.false_eq_true, if_false]
    refine wpAny_bind (wpAny_pure (wpAny_bind (wpAny_pure ?_)))
    obtain ⟨oa, hoa, _, hda⟩ := dr
    obtain ⟨ob, hob, _, hdb⟩ := dr'
    refine wpAny_bind ?_
    unfold Builtin.Dict.samePairs Builtin.Dict.showsAll
    rw [if_neg (show ¬ (a == sysModules) = true by rw [da.2]; exact Bool.false_ne_true), if_neg (show ¬ (b == sysModules) = true by rw [db.2]; exact Bool.false_ne_true)]
    refine wpAny_bind (wpAny_pure (wpAny_bind (wpAny_pure ?_)))
    refine wpAny_bind (wpAny_dictEntries hoa hda ?_)
    dsimp only
    refine wpAny_bind (wpAny_dictEntries hob hdb ?_)
    rw [if_pos (by rw [hl]; simp)]
    refine wpAny_bind (wpAny_rule (wpAny_pure ?_))
    refine wpAny_pure ⟨_, rfl, ?_, ?_⟩
    · exact fun x => nomatch x
    · exact fin_bl I q (by simp)
def mNeE : OW := fun v w k => match v, w with
  | .dic kvs, .dic [] => k (.bl (!kvs.isEmpty))
  | _, _ => False
theorem opv_neE {K : PySem.W.Frag} : OpV K rNeE mNeE := by
  rintro x y v w B F H P Q s bx r1 r2 p q
  unfold mNeE at p
  split at p
  case h_2 => exact p.elim
  rename_i kvs
  obtain ⟨a, xs, ep, rfl, e, _, dk, r⟩ := r1.dic (fun _ _ z => z : Same F F)
  obtain ⟨b, ys, ep', rfl, e', _, dk', r'⟩ := r2.dic (fun _ _ z => z : Same F F)
  have hy : ys = [] := by
    cases ys with
    | nil => rfl
    | cons y ys => rw [RepX] at r'; exact r'.elim
  subst hy
  have hx : xs.isEmpty = kvs.isEmpty := by
    cases xs with
    | nil => cases kvs with
      | nil => rfl
      | cons => rw [RepX] at r; exact r.elim
    | cons => cases kvs with
      | nil => rw [RepX] at r; exact r.elim
      | cons => rfl
  refine ⟨a, b, xs, ep, ep', rfl, rfl, ⟨s _ _ e, dk.1⟩, ⟨s _ _ e', dk'.1⟩, ?_⟩
  rw [hx]
  exact q _ _ F H p (.refl s fun a h => (bx a h).2) (by rw [Rep])
end
end KV

namespace PySem
open Sem (wp)
/-! enumerate(t), t a tuple -/
theorem meets_enumerate_newB1 {v : Value} {o : Obj} {H : Heap → Prop} (B : Begins v o H) :
    Meets (Builtin.«enumerate.__new__» ⟨[.type "enumerate", v], []⟩) (fun _ R s => H s.heap ∧
      R (.ok (.ret (.ref (s.heap.push o).objs.size))) { s with heap := (s.heap.push o).push { cls := .type "enumerate", data := .fields #[.none, .bool false, .ref s.heap.objs.size, rawInt 0, .none, .none] } }) :=
  .of_wp fun prog w A R s h => by
    obtain ⟨hp, g, d, tk, os⟩ := s; obtain ⟨h1, h⟩ := h
    have hsub := sub_enumerate
    have q1 : ∀ {A' : Around} {E : Value → Shared → Prop} {Q : Value → Shared → Prop}, Q (.ref hp.objs.size) ⟨hp.push o, g, d, tk, os⟩ → wpAny (model prog w) A' (pyIter v) Q E ⟨hp, g, d, tk, os⟩ :=
      fun q => B.iter prog w _ _ ⟨hp, g, d, tk, os⟩ _ h1 q
    wp_walk using q1
    refine wpAny_stack_any fun st => wpAny_pure ?_
    split
    · rename_i c _ _ _ _ _
      cases (c == Value.type "enumerate")
      · wp_walk using q1
        exact ⟨_, rfl, h⟩
      · wp_walk using q1
        exact ⟨_, rfl, h⟩
    · wp_walk using q1
      exact ⟨_, rfl, h⟩
section
variable {prog : Program} {w : World} {A : Around} {E : Value → Shared → Prop} {s : Shared}
theorem enum_begins1 {v : Value} {o : Obj} {H : Heap → Prop} {Q : Value → Shared → Prop} (B : Begins v o H) (h1 : H s.heap)
    (h : ∀ h', IsEnum h' (s.heap.objs.size + 1) s.heap.objs.size 0 .none → h'.get? s.heap.objs.size = some o → h'.objs.size = s.heap.objs.size + 2 →
      (∀ b o, s.heap.get? b = some o → h'.get? b = some o) → Q (.ref (s.heap.objs.size + 1)) { s with heap := h' }) :
    wpAny (model prog w) A (call (.type "enumerate") [v]) Q E s := by
  refine callType_new F.called_enumerate (by decide) (F.typeCall_enumerate_1 _) (F.newCall_enumerate_1 _) (fun obj => F.args_object_init_2 obj _) F.entry_enumerate_new
    (meets_enumerate_newB1 B) ⟨h1, ?_⟩
  have hz : (s.heap.push o).objs.size = s.heap.objs.size + 1 := Heap.size_push ..
  show _ ∧ _
  rw [hz]
  have he : IsEnum ((s.heap.push o).push { cls := .type "enumerate", data := .fields #[.none, .bool false, .ref s.heap.objs.size, rawInt 0, .none, .none] }) (s.heap.objs.size + 1) s.heap.objs.size 0 .none := by
    have := Heap.get?_push_size (s.heap.push o) (o := { cls := .type "enumerate", data := .fields #[.none, .bool false, .ref s.heap.objs.size, rawInt 0, .none, .none] }) rfl
    rw [hz] at this; exact this
  refine ⟨⟨_, he, rfl⟩, h _ he (Heap.get?_push_of_some _ (Heap.get?_push_size _ B.free)) (by rw [Heap.size_push, hz]) fun b o x => Heap.get?_push_of_some _ (Heap.get?_push_of_some _ x)⟩
end
end PySem
namespace KV
open PySem PySem.Spec PyProof.Rows L2 KGX
def IteT (K : PySem.W.Frag) (a : Addr) : It :=
  ⟨fun i H => ∃ (xs : List V) (x : V), SqT K H a xs ∧ xs[i]? = some x, fun i H v H' => ∃ T x, v = .ref T ∧ H T = none ∧ H' = upd H T (.tup [.int (i : Nat), x]) ∧ ∀ xs, SqT K H a xs → xs[i]? = some x, fun i H => ∃ xs : List V, SqT K H a xs ∧ xs.length ≤ i⟩
theorem turn_enumT {P : Program} {w : World} {K : PySem.W.Frag} {elts : List Expr} {kk : Nat} {tpos : Pos} (a e it : Addr) :
    Turn P w K (.Tuple elts kk tpos) (IteT K a) [e, it] e (fun i h => (∃ old, IsEnum h e it ((i : Nat) : Int) old) ∧ h.IsTupleIter it a i ∧ e ≠ it ∧ a ≠ it ∧ a ≠ e) where
  mem := by simp
  obj := fun i h st b hb => by
    obtain ⟨⟨old, he⟩, ⟨o, ho, hc, hd⟩, _⟩ := st
    have e' : b = e ∨ b = it := by simpa using hb
    rcases e' with z | z
    · rw [z]; exact ⟨_, he, fun v q => nomatch q⟩
    · rw [z]; exact ⟨o, ho, fun v q => by rw [hd] at q; cases q⟩
  keep := fun i h h' st k => let ⟨⟨old, he⟩, hi, hne⟩ := st; ⟨⟨old, k e (by simp) _ he⟩, hi.at fun o q => k it (by simp) o q, hne⟩
  item := by
    intro X hP hw hK hc i pins s σ H E I hf st hg
    subst hP hw hK
    obtain ⟨⟨old, he⟩, hit, hne, hai, hae⟩ := st
    obtain ⟨xs, x, hq, hx⟩ := hg
    obtain ⟨its, rv, p, hz⟩ := I.tuple hq
    obtain ⟨u, hu, ru⟩ := rv.get hx
    have hel : e < s.heap.objs.size := Heap.lt_size he
    have hil : it < s.heap.objs.size := by obtain ⟨_, q, _⟩ := hit; exact Heap.lt_size q
    have hsz : i < its.toArray.size := by
      have := (List.getElem?_eq_some_iff.mp hu).1
      simpa using this
    refine wpAny_pyNext_enum_itemD (Draws.tuple (A := X.A.in1) (I.ok.hd hc) it a hai its.toArray) he ⟨hit, p⟩ hsz hne (by simp; exact ⟨hne, fun z => hae z.symm⟩) fun x' h' tk hx' ho st' hT hsz' hk => ?_
    have ex : x' = u := by
      have h1 : its.toArray[i]? = some x' := hx'
      have h2 : its.toArray[i]? = some u := by simpa using hu
      rw [h1] at h2; exact Option.some.inj h2
    subst ex
    refine ⟨_, rfl, wpAny_letOwnedTupleGo_enum (s := { s with heap := h', toks := tk + 1 }) ho fun h'' he' sb => ?_⟩
    have hT2 : h''.get? s.heap.objs.size = some { cls := .type "tuple", data := .seq #[.int i tk, x'] } := (sb.2 _ (Nat.ne_of_gt hel)).trans hT
    have new : ObjOk X.prog X.w (upd H s.heap.objs.size (.tup [.int (i : Nat), x])) h'' s.heap.objs.size (.tup [.int (i : Nat), x]) :=
      ⟨by show 2 ≤ sizeLine; decide, [.int i tk, x'], .cons ⟨_, rfl⟩ (.cons ru .nil), ⟨_, hT2, rfl, _, rfl⟩⟩
    have I1 : Inv X pins σ (upd H s.heap.objs.size (.tup [.int (i : Nat), x])) { s with heap := h'', toks := tk + 1 } :=
      I.turnedNew (ch := [e, it]) (fun b ob hb q => (sb.2 b (fun z => hb (by simp [z]))).trans (hk b ob (fun z => hb (by simp [z])) (fun z => hb (by simp [z])) q)) hf (Nat.le_refl _) new
    refine ⟨.ref s.heap.objs.size, _, I1, rfl, ⟨_, x, rfl, I.hok.fresh (Nat.le_refl _), rfl, fun ys hy => by rw [I.tuple_inj hy hq]; exact hx⟩, ⟨⟨x', ?_⟩, st'.1.at fun o q => (sb.2 it (Ne.symm hne)).trans q, hne, hai, hae⟩, fun b hb => ?_⟩
    · have e1 : ((i + 1 : Nat) : Int) = (i : Int) + 1 := by omega
      rw [e1]; exact he'
    · have hb' : b < s.heap.objs.size := by
        have e' : b = e ∨ b = it := by simpa using hb
        rcases e' with z | z
        · rw [z]; exact hel
        · rw [z]; exact hil
      rw [upd_ne (Nat.ne_of_lt hb')]
      exact (hf b hb).1
  done := by
    intro X hP hw hK hc i pins s σ H E I hf st hg
    subst hP hw hK
    obtain ⟨⟨old, he⟩, hit, hne, hai, hae⟩ := st
    obtain ⟨xs, hq, hx⟩ := hg
    obtain ⟨its, rv, p, hz⟩ := I.tuple hq
    obtain ⟨f0, f1, f2, f3, f4, f5⟩ := hf it (by simp)
    have hl := rv.length
    have D : Draws X.prog X.w X.A.in1 it [it, a] i (fun _ _ => False) (fun j h => j = i ∧ h.IsTupleIter it a i ∧ h.IsTuple a its.toArray) := {
      live := fun _ _ st => let ⟨o, ho, _⟩ := st.2.1; ⟨o, ho⟩
      frame := fun _ _ _ st hk => ⟨st.1, st.2.1.at fun o e => hk it (by simp) o e, st.2.2.at fun o e => hk a (by simp) o e⟩
      item := fun j s Q E hi st hQ => absurd st.1 (Nat.ne_of_lt hi)
      done := fun s Q E st hE => wpAny_nextOf_tuple_end (I.ok.hd hc) st.2.1 st.2.2 (by simp; omega) hE }
    exact wpAny_pyNext_enum_endD D he ⟨rfl, hit, p⟩ fun h' eb => ⟨rfl, I.turned (t' := s.toks) (fun b o hb q => eb b o hb q) f0 f1 f3 f4 f5⟩
  self := fun A i s Q E st h => let ⟨⟨_, he⟩, _⟩ := st; wpAny_pyIter_enum he h
def iEnumT (K : PySem.W.Frag) (ta : TA) : TI := fun σ H R => ta σ H fun vs H1 => ∃ a xs, vs = [.ref a] ∧ SqT K H1 a xs ∧ R (IteT K a) H1
theorem pi_enumT {X : Cx} {e : Expr} {ta : TA} {p pos tpos : Pos} {elts : List Expr} {kk : Nat} (hg : Gl X "enumerate") (hm : X.mg "enumerate" = none) (ha : PA X [e] ta) (hs : starEach [e] X.env = [(false, eval e X.env)] := by rfl) :
    PI X (.Tuple elts kk tpos) (.Call (.Name "enumerate" p) [e] [] pos) (iEnumT X.K ta) := by
  refine ⟨fun pins s σ H R I h => ?_⟩
  refine Call_ (ld_blt I hg hm boot_enumerate (PyProof.Rows.callWith_type1 (thn (ha.run pos pins s σ H _ I h) fun us s1 ⟨vs, H1, I1, r1, q1⟩ => ?_) hs rfl))
  obtain ⟨a, xs, ex, hq, q⟩ := q1
  subst ex
  cases r1 with
  | cons r rr =>
    cases rr
    cases r
    obtain ⟨its, rv, p', hz⟩ := I1.tuple hq
    have hal : a < s1.heap.objs.size := by obtain ⟨o, ho, _⟩ := p'; exact Heap.lt_size ho
    refine enum_begins1 (begins_tuple a its.toArray) p' fun h' he hit hsz hk => wpAny_pyIter_enum he ?_
    have I2 : Inv X pins σ H1 { s1 with heap := h' } := I1.kept (t' := s1.toks) hk
    refine ⟨s1.heap.objs.size + 1, [s1.heap.objs.size + 1, s1.heap.objs.size], _, _, H1, rfl, I2, turn_enumT a (s1.heap.objs.size + 1) s1.heap.objs.size, ⟨⟨.none, he⟩, ⟨_, hit, rfl, rfl⟩, Nat.succ_ne_self _, Nat.ne_of_lt hal, Nat.ne_of_lt (Nat.lt_succ_of_lt hal)⟩, fun b hb => ?_, q⟩
    have e' : b = s1.heap.objs.size + 1 ∨ b = s1.heap.objs.size := by simpa using hb
    have hle : s1.heap.objs.size ≤ b := by
      rcases e' with z | z
      · rw [z]; exact Nat.le_add_right _ _
      · rw [z]; exact Nat.le_refl _
    exact I1.fpOk hle (I1.hok.fresh hle)
section
variable {X : Cx} {e : Expr} {f : EW} {K : PySem.W.Frag} {F : Hp}
def enumP (xs : List PV) : List PV := xs.mapIdx fun i x => .cst [.int (i : Nat), x]
def wEnum (f : EW) : AW := fun ρ k => f ρ fun v => match v with
  | .tup xs => k (enumP xs)
  | _ => False
theorem itv_enumT {a : Addr} {us : List V} {xs : List PV} (h1 : STup F a us) (r1 : Reps K F us xs) : ItV K (IteT K a) F (enumP xs) := by
  have l1 := r1.len
  have sa : ∀ H, Same F H → SqT K H a us := fun H s => h1.sq s
  have le : (enumP xs).length = xs.length := by unfold enumP; rw [List.length_mapIdx]
  refine ⟨fun i H s hi => ?_, fun H s => ?_, fun i H x H' s hi y => ?_⟩
  · rw [le] at hi
    exact ⟨us, us[i]'(by omega), sa H s, List.getElem?_eq_getElem _⟩
  · rw [le]
    exact ⟨us, sa H s, by omega⟩
  · obtain ⟨T, u, rfl, hT, rfl, g1⟩ := y
    have e1 := g1 us (sa H s)
    obtain ⟨d1, f1, q1⟩ := r1.to e1
    refine ⟨.cst [.int (i : Nat), d1], ?_, .inr ⟨T, [.int (i : Nat), u], [.int (i : Nat), d1], rfl, hT, rfl, rfl, Reps.cons (by rw [Rep]) (Reps.cons q1 Reps.nil)⟩⟩
    unfold enumP
    rw [List.getElem?_mapIdx, f1]; rfl
theorem qi_enum {p pos tpos : Pos} {elts : List Expr} {kk : Nat} (hg : Gl X "enumerate") (hm : X.mg "enumerate" = none) (ha : PP X e f) (hs : starEach [e] X.env = (false, eval e X.env) :: starEach [] X.env := by rfl) (hs2 : starEach [e] X.env = [(false, eval e X.env)] := by rfl) :
    QI X (.Tuple elts kk tpos) (.Call (.Name "enumerate" p) [e] [] pos) (wEnum f) := PI.weak (pi_enumT hg hm (pa_cons ha pa_nil hs) hs2) fun σ H R ⟨B, F, ρ, P, w, p, q⟩ =>
  ⟨B, F, ρ, _, w, p, fun v x F1 H1 p1 ex rx => by
    split at p1
    case h_2 => exact p1.elim
    rw [Rep] at rx
    obtain ⟨a, us, rfl, ea, ra⟩ := rx
    exact ⟨a, us, rfl, ea.sq ex.fh, q _ _ F1 H1 p1 ex (itv_enumT ea ra)⟩⟩
/-- list(range(n)) -/
def eRgL (f : EW) : EW := fun ρ k => f ρ (onI fun n => (0 ≤ n ∧ n ≤ 1000000) ∧ k (.lst ((rg n.toNat).map .int)))
theorem pf_lstRg {a : Expr} {p p2 pos pos2 : Pos} (hc : X.calm = true) (hg : Gl X "list") (hm : X.mg "list" = none) (hg2 : Gl X "range") (hm2 : X.mg "range" = none) (ha : PP X a f)
    (na : starEach [Expr.Call (.Name "range" p2) [a] [] pos2] X.env = (false, eval (.Call (.Name "range" p2) [a] [] pos2) X.env) :: starEach [] X.env := by rfl) (na2 : starEach [a] X.env = (false, eval a X.env) :: starEach [] X.env := by rfl) :
    PF X (.Call (.Name "list" p) [.Call (.Name "range" p2) [a] [] pos2] [] pos) (eRgL f) := PE.weak (pe_listRg hc hg hm (prg_1 hg2 hm2 ha na2) na) fun σ H Q ⟨B, F, ρ, P, w, p, q⟩ => by
  refine ⟨B, F, ρ, _, w, p, fun v x F1 H1 hv e1 r1 => ?_⟩
  obtain ⟨n, ev, ⟨h0, h1⟩, p1⟩ := onI_ex hv
  subst ev; rw [Rep] at r1
  have w1 := w.ext e1
  obtain ⟨m, rfl⟩ := Int.eq_ofNat_of_zero_le h0
  refine ⟨(m : Int), r1, RgOk.of_le (by omega) (by omega) (by omega) h0, ?_⟩
  rw [rgV_rg]
  exact own_new e1 w1.fh (fun a b => (w1.bx a b).2) p1 (fun _ => Reps.of_ints) q
end
end KV

namespace KV
open PySem PySem.Spec PyProof.Rows L2 KGX
/-! ### what a def refuses: the value .exc c n goes where a told value goes -/
/-- an exception's class by its name, a field or none -/
def FldAt (n : Option Int) (d : Option Addr) (H : Hp) : Prop := match n with
  | none => d = none
  | some i => ∃ a, d = some a ∧ H a = some (.xd [("at", .int i)])
def XOk (mg : Str → Option Value) (R : PV → Prop) (B : Addr → Prop) (F H : Hp) (E : Value → Option Addr → Hp → Prop) : Prop := ∀ c n C d F' H', R (.exc c n) → mg c = some (.ref C) → Ext B F H F' H' → FldAt n d H' → E (.ref C) d H'
def tEX (K : PySem.W.Frag) (mg : Str → Option Value) (W : WX) (f : EW) : TE := fun σ H Q => ∃ B F ρ P, Wx K B F H σ ρ ∧ f ρ P ∧ (∀ v x F' H', P v → Ext B F H F' H' → Rep K F' x v → Q x H') ∧ XOk mg P B F H fun c d H' => W c d σ H'
def tSX (K : PySem.W.Frag) (mg : Str → Option Value) (m : Bool) (W : WX) (f : SW) : TS := fun D σ H => ∃ B0 F0 H0 F ρ N R, Ws K B0 F0 H0 F H σ ρ ∧ f ρ N R ∧ (∀ ρ' σ' F' H', N ρ' → Same F F' → Ws K B0 F0 H0 F' H' σ' ρ' → D.nx σ' H') ∧ (∀ v x F' H', R v → RetV K m B0 F0 H0 F' H' x v → D.rt x H') ∧ ∀ σ', XOk mg R B0 F0 H0 fun c d H' => W c d σ' H'
def PX (X : Cx) (W : WX) (e : Expr) (f : EW) : Prop := PE X e (tEX X.K X.mg W f)
def QX (X : Cx) (W : WX) (m : Bool) (st : Stmt) (f : SW) : Prop := PS X st (tSX X.K X.mg m W f)
def QXs (X : Cx) (W : WX) (m : Bool) (st : List Stmt) (f : SW) : Prop := PSs X st (tSX X.K X.mg m W f)
section
variable {m : Bool} {X : Cx} {W : WX} {e a b c : Expr} {es : List Expr} {st : Stmt} {sts rest : List Stmt} {pos : Pos} {f g h : EW} {fa : AW} {s1 s2 : SW} {tw : TW}
theorem px_of (h : PP X e f) : PX X W e f := PE.weak h fun σ H Q ⟨B, F, ρ, P, w, p, q, _⟩ => ⟨B, F, ρ, P, w, p, q⟩
theorem qx_of (h : QS X m st s1) : QX X W m st s1 := PS.weak h fun D σ H ⟨B0, F0, H0, F, ρ, N, R, w, p, q, r, _⟩ => ⟨B0, F0, H0, F, ρ, N, R, w, p, q, r⟩
theorem qxs_nil : QXs X W m [] sNil := PSs.weak pss_nil fun D σ H ⟨B0, F0, H0, F, ρ, N, R, w, p, q, _⟩ => q ρ σ F H p (fun _ _ z => z) w
theorem qxs_one (h : QX X W m st s1) : QXs X W m [st] s1 := pss_one h
theorem qxs_cons (h1 : QX X W m st s1) (h2 : QXs X W m rest s2) : QXs X W m (st :: rest) (sSeq s1 s2) := PSs.weak (pss_cons h1 h2) fun D σ H ⟨B0, F0, H0, F, ρ, N, R, w, p, q, r, x⟩ =>
  ⟨B0, F0, H0, F, ρ, _, R, w, p, fun ρ' σ' F' H' p' s' w' => ⟨B0, F0, H0, F', ρ', N, R, w', p', fun ρ2 σ2 F2 H2 p2 s2 w2 => q ρ2 σ2 F2 H2 p2 (s'.trans s2) w2, r, x⟩, r, x⟩
theorem qx_if {x y : List Stmt} (hc : PB X c tw) (h1 : QXs X W m x s1) (h2 : QXs X W m y s2) : QX X W m (.If c x y pos) (sIf tw s1 s2) := PS.weak (ps_if hc h1 h2) fun D σ H ⟨B0, F0, H0, F, ρ, N, R, w, p, q, r, z⟩ =>
  ⟨_, _, _, _, w.x, p, fun b F' H' pb ex => by
    cases b with
    | true => exact ⟨B0, F0, H0, _, ρ, N, R, w.back ex, pb, fun ρ2 σ2 F2 H2 p2 s2 w2 => q ρ2 σ2 F2 H2 p2 ((w.sc ex).trans s2) w2, r, z⟩
    | false => exact ⟨B0, F0, H0, _, ρ, N, R, w.back ex, pb, fun ρ2 σ2 F2 H2 p2 s2 w2 => q ρ2 σ2 F2 H2 p2 ((w.sc ex).trans s2) w2, r, z⟩⟩
/-- raise C('..') -/
def sRaise (c : Str) : SW := fun _ _ R => R (.exc c none)
abbrev veB : List Value := [.type "ValueError", .type "Exception", .type "BaseException", .type "object"]
/-- a class that is raised with a text -/
structure ExC (K : PySem.W.Frag) (mg : Str → Option Value) (x : Str) (C : Addr) : Prop where
  g : mg x = some (.ref C)
  q : PySem.W.excIn K C veB "ValueError.__new__" = true
  k : PySem.W.keepIn K (.ref C) = true
  s : PySem.W.subIn K (.ref C) (.type "BaseException") = some true
  t : PySem.W.typeIn K (.ref C) = some (.type "type")
theorem qx_raise {x : Str} {C : Addr} {t : Str} {j : Nat} {p p2 pos2 : Pos} (hc : X.calm = true) (tk : L2N.Takes X W) (E : ExC X.K X.mg x C) (hg : Gl X x) (hdb : (x == ("__debug__" : Str)) = false := by decide) :
    QX X W m (.Raise (some (.Call (.Name x p) [.Constant (.str t) j p2] [] pos2)) none pos) (sRaise x) :=
  PS.weak (L2N.ps_raise hc tk (L2N.pmk_own PySem.F.excBase_ValueError E.q E.g E.k (raises_own E.s E.t) hg hdb)) fun D σ H ⟨B0, F0, H0, F, ρ, N, R, w, p, q, r, z⟩ => z σ x none C none F H p E.g w.ext rfl
/-! calls of defs that refuse -/
def spX (K : PySem.W.Frag) (mg : Str → Option Value) (sp : CW) : Sp := fun xs H Q E => ∃ B F vs P, Same F H ∧ (∀ a, B a → F a = none ∧ ∃ n, H a = some (.lst [.int n])) ∧ Reps K F xs vs ∧ sp vs P ∧ (∀ v x F' H', P v → Ext B F H F' H' → Rep K F' x v → Q x H') ∧ XOk mg P B F H E
theorem px_call {f0 : Addr} {fd : FuncData} {ps : List Str} {k : Nat} {sp : CW} {x : Str} {p : Pos} (tk : L2N.Takes X W) (F : FnOk X.prog X.w X.K X.mg X.base (L2N.CX X.prog X.w) k f0 fd ps (spX X.K X.mg sp)) (hr : Room k X.A) (hg : Gl X x) (hm : X.mg x = some (.ref f0)) (hk : PySem.W.keepIn X.K (.ref f0) = true) (hb : Binds X.K fd ps [])
    (ha : PPs X (e :: es) fa) (hdb : (x == ("__debug__" : Str)) = false := by decide) (he : starEach (e :: es) X.env = (false, eval e X.env) :: starEach es X.env := by rfl) (hpl : (backTo pos (starEach es X.env)).any (·.1) = false := by rfl) : PX X W (.Call (.Name x p) (e :: es) [] pos) (eCall sp fa) :=
  PE.weak (pe_callS (E := WE W) F hr hg hm hk hb (L2N.passAt tk) ha hdb he hpl) fun σ H Q ⟨B, F, ρ, P, w, p, q, z⟩ => by
  refine ⟨B, F, ρ, _, w, p, fun vs xs F1 H1 p1 e1 r1 => ?_⟩
  have w1 := w.ext e1
  exact ⟨B, F1, vs, P, w1.fh, w1.bx, r1, p1, fun v x F' H' pv ex rx => q v x F' H' pv (e1.trans ex) rx, fun c n C d F' H' pc mc ex fa => z c n C d F' H' pc mc (e1.trans ex) fa⟩
theorem px_if (hc : PB X c tw) (ha : PX X W a f) (hb : PX X W b g) : PX X W (.IfExp c a b pos) (eIf tw f g) := PE.weak (pe_ifExp hc ha hb) fun σ H Q ⟨B, F, ρ, P, w, p, q, z⟩ =>
  ⟨B, F, ρ, _, w, p, fun b F1 H1 p1 e1 => by
    cases b with
    | true => exact ⟨B, F1, ρ, _, w.ext e1, p1, fun v x F2 H2 p2 e2 r2 => q v x F2 H2 p2 (e1.trans e2) r2, fun c n C d F' H' pc mc ex fa => z c n C d F' H' pc mc (e1.trans ex) fa⟩
    | false => exact ⟨B, F1, ρ, _, w.ext e1, p1, fun v x F2 H2 p2 e2 r2 => q v x F2 H2 p2 (e1.trans e2) r2, fun c n C d F' H' pc mc ex fa => z c n C d F' H' pc mc (e1.trans ex) fa⟩⟩
/-- a call whose value is not wanted -/
def exN (R : PV → Prop) (n : Prop) : PV → Prop
  | .exc c i => R (.exc c i)
  | _ => n
theorem exN_n {R : PV → Prop} {n : Prop} {K : PySem.W.Frag} {F : Hp} {x : V} {v : PV} (h : exN R n v) (r : Rep K F x v) : n := by
  cases v <;> first
    | exact h
    | (rw [Rep] at r; exact r.elim)
def sDropX (f : EW) : SW := fun ρ N R => f ρ (exN R (N ρ))
theorem qx_expr (he : PX X W e f) (hs : swapsWith e none pos.line X.env = pure false := by rfl) : QX X W m (.Expr e pos) (sDropX f) := PS.weak (ps_expr he hs) fun D σ H ⟨B0, F0, H0, F, ρ, N, R, w, p, q, r, z⟩ =>
  ⟨_, _, _, _, w.x, p, fun v x F' H' pv ex rx => q _ _ _ _ (exN_n pv rx) (w.sc ex) (w.back ex), fun c n C d F' H' pc mc ex fa => z σ c n C d F' H' pc mc (w.extR ex) fa⟩
theorem qx_ret (he : PX X W e f) : QX X W false (.Return (some e) pos) (sRet f) := PS.weak (ps_ret he) fun D σ H ⟨B0, F0, H0, F, ρ, N, R, w, p, q, r, z⟩ =>
  ⟨_, _, _, _, w.x, p, fun v x F' H' pv ex rx => r v x F' H' pv ⟨w.extR ex, rx⟩, fun c n C d F' H' pc mc ex fa => z σ c n C d F' H' pc mc (w.extR ex) fa⟩
/-- x = f(..) -/
def noX (k : PV → Prop) : PV → Prop
  | .exc _ _ => False
  | v => k v
theorem noX_k {k : PV → Prop} {v : PV} {K : PySem.W.Frag} {F : Hp} {x : V} (h : noX k v) (r : Rep K F x v) : k v := by
  cases v <;> first
    | exact h
    | exact h.elim
def exK (R : PV → Prop) (k : PV → Prop) : PV → Prop
  | .exc c i => R (.exc c i)
  | v => k v
theorem exK_k {R k : PV → Prop} {v : PV} {K : PySem.W.Frag} {F : Hp} {x : V} (h : exK R k v) (r : Rep K F x v) : k v := by
  cases v <;> first
    | exact h
    | (rw [Rep] at r; exact r.elim)
def sSetX (i : Nat) (f : EW) : SW := fun ρ N R => f (hide ρ) (exK R fun v => N (ρ.set i (some (.fr v))))
theorem qx_set {i : Nat} (h : PE X e (tEX X.K X.mg W f) → PS X st (tAsg (tEX X.K X.mg W f) (gName i))) (he : PX X W e f) : QX X W m st (sSetX i f) := PS.weak (h he) fun D σ H ⟨B0, F0, H0, F, ρ, N, R, w, p, q, r, z⟩ => by
  refine ⟨_, F, _, _, w.h, p, fun v x F' H' pv ex rx => q _ _ _ _ (exK_k pv rx) ex.ff ((w.backH ex).set i rx), fun c n C d F' H' pc mc ex fa => z σ c n C d F' H' pc mc (w.backH ex).ext fa⟩
/-- a def that refuses, called where nothing may be refused -/
def eCallN (sp : CW) (fa : AW) : EW := fun ρ k => fa ρ fun vs => sp vs (noX k)
theorem passN {X : Cx} : Passes (L2N.CX X.prog X.w) X E0 := fun _ _ _ _ _ _ _ h => by
  obtain ⟨_, _, _, _, _, _, _, _, _, _, _, _, z⟩ := h
  exact z.elim
theorem pp_callN {f0 : Addr} {fd : FuncData} {ps : List Str} {k : Nat} {sp : CW} {x : Str} {p : Pos} (F : FnOk X.prog X.w X.K X.mg X.base (L2N.CX X.prog X.w) k f0 fd ps (spX X.K X.mg sp)) (hr : Room k X.A) (hg : Gl X x) (hm : X.mg x = some (.ref f0)) (hk : PySem.W.keepIn X.K (.ref f0) = true) (hb : Binds X.K fd ps [])
    (ha : PPs X (e :: es) fa) (hdb : (x == ("__debug__" : Str)) = false := by decide) (he : starEach (e :: es) X.env = (false, eval e X.env) :: starEach es X.env := by rfl) (hpl : (backTo pos (starEach es X.env)).any (·.1) = false := by rfl) : PP X (.Call (.Name x p) (e :: es) [] pos) (eCallN sp fa) :=
  PE.weak (pe_call F hr hg hm hk hb .nil passN ha hdb he hpl) fun σ H Q ⟨B, F, ρ, P, w, p, q⟩ => by
  refine ⟨B, F, ρ, _, w, p, fun vs xs F1 H1 p1 e1 r1 => ?_⟩
  have w1 := w.ext e1
  show spX X.K X.mg sp (xs ++ []) H1 Q _
  rw [List.append_nil]
  exact ⟨B, F1, vs, _, w1.fh, w1.bx, r1, p1, fun v x F' H' pv ex rx => q v x F' H' (noX_k pv rx) (e1.trans ex) rx, fun c n C d F' H' pc mc ex fa => pc.elim⟩
end
/-! ### defs that refuse -/
section
variable {P : Program} {w : World} {K : PySem.W.Frag} {mg : Str → Option Value} {base : Heap}
theorem okN {x qual : Str} {st : Stmt} {f : Addr} {fd : FuncData} {N ps : List Str} {k : Nat} {sp : Sp} (F : Fun K x qual st f fd) (S : FnScope N ps (defScope st)) (len : ∀ vs H Q E, sp vs H Q E → vs.length = ps.length)
    (hb : ∀ (cdv : Value) (A : Around) (outer : List Env) (s : Shared) (H : Hp) (vs : List V) (Q : VK) (E : XK), L2N.Takes (cxOf (L2N.CX P w) P w K mg base N qual (defScope st) f cdv A outer s H E) (fun cls d _ H => E cls d H) →
      PassesOwn (model P w) (A.deeper (envOfC qual (defScope st) s.heap.objs.size f cdv)) (envOfC qual (defScope st) s.heap.objs.size f cdv) (cxOf (L2N.CX P w) P w K mg base N qual (defScope st) f cdv A outer s H E).xe →
      Room k (A.deeper (envOfC qual (defScope st) s.heap.objs.size f cdv)) → sp vs H Q E →
      ∃ t, PSs (cxOf (L2N.CX P w) P w K mg base N qual (defScope st) f cdv A outer s H E) (defBody st) t ∧ t { nx := fun _ H' => Q .non H', rt := Q } (L2.start N vs) H) : FnOk P w K mg base (L2N.CX P w) (k + 1) f fd ps sp := by
  obtain ⟨oc, od, kV, doc, pm, an, cdv, ct, osl, rfl, lk, hcd⟩ := F.ex
  exact fn_of lk hcd S len fun A outer s H vs Q E hr hsp => hb cdv A outer s H vs Q E (L2N.takes_of rfl rfl rfl rfl) (passes_of rfl) hr hsp
theorem body_x {X : Cx} {E : XK} {N : List Str} {sts : List Stmt} {s : SW} {sp : CW} (h : QXs X (fun cls d _ H => E cls d H) false sts s) (hsp : ∀ vs P, sp vs P → run N.length s (vs.map .fr) P) {xs : List V} {H : Hp} {Q : VK} (q : spX X.K X.mg sp xs H Q E) :
    ∃ t, PSs X sts t ∧ t { nx := fun _ H' => Q .non H', rt := Q } (L2.start N xs) H := by
  obtain ⟨B, F, vs, P, sm, bx, r, p, k, z⟩ := q
  exact ⟨_, h, B, F, H, F, _, _, _, ws_start sm bx r, hsp vs P p, fun ρ' σ' F' H' pn _ w => k .non .non F' H' pn w.ext (by rw [Rep]), fun v x F' H' pv ⟨ex, rx⟩ => k v x F' H' pv ex rx, fun _ c n C d F' H' pc mc ex fa => z c n C d F' H' pc mc ex fa⟩
theorem lnX {n : Nat} {sp : CW} (hs : ∀ vs P, sp vs P → vs.length = n) {xs : List V} {H : Hp} {Q : VK} {E : XK} (h : spX K mg sp xs H Q E) : xs.length = n := by
  obtain ⟨B, F, vs, P, _, _, r, q, _⟩ := h
  rw [r.len, hs vs P q]
end
end KV

namespace KV
open PySem PySem.Spec PyProof.Rows L2 KGX L2H
/-! ### a list made where an exception is handled -/
abbrev blkP (X : Cx) (s : Shared) (H : Hp) (scope : Scope) (ce : Env) (fp : List Addr) (p : Addr × Obj) : Cx := { X.blk s H scope ce fp with pn := [p] }
theorem pn_inv {X : Cx} {σ : L2.St} {H : Hp} {s : Shared} {p : Addr × Obj} (I : Inv X [] σ H s) (h : s.heap.get? p.1 = some p.2 ∧ H p.1 = none ∧ p.1 ≠ X.env.locals ∧ p.1 ∉ X.fs ∧ ∀ v, p.2.data ≠ .cell v) : Inv { X with pn := [p] } [] σ H s :=
  ⟨⟨I.ok.mod, I.ok.kind, I.ok.glob, I.ok.blt, I.ok.above, I.ok.inj, I.ok.has, I.ok.cab, I.ok.hd, I.ok.frames, I.ok.stk, I.ok.exf, I.ok.bs, I.ok.bsz, I.ok.noex, I.ok.exfs, I.ok.funs, I.ok.frf⟩, I.os, I.bare, I.base, I.loc, I.cell, I.free, I.freeC, fun q hq => by
    have e : q = p := by simpa using hq
    rw [e]; exact h, I.hok, I.len⟩
theorem pe_lcH {X : Cx} {p : Addr × Obj} {elt tg iter : Expr} {ifs : List Expr} {scope : Scope} {own : List (Str × Nat)} {pos : Pos} {wi : TI} {g : TG} {tt : TT} {te : TE} (hot : Hot1 X.A p) (hp : p ∈ X.pn) (hN : X.N.Nodup) (hi : PIH X tg iter wi) (ok : BlkOk X.N X.env.scope scope own)
    (hg : ∀ (s : Shared) (H : Hp) (C : Addr) (cl : List (Str × Addr)) (fp : List Addr), PG (blkP X s H scope (compEnvC scope cl C X.env) fp p) tg g) (ht : ∀ (s : Shared) (H : Hp) (C : Addr) (cl : List (Str × Addr)) (fp : List Addr), PTs (blkP X s H scope (compEnvC scope cl C X.env) fp p) ifs tt)
    (he : ∀ (s : Shared) (H : Hp) (C : Addr) (cl : List (Str × Addr)) (fp : List Addr), PE (blkP X s H scope (compEnvC scope cl C X.env) fp p) elt te) (hs : ∀ x, foldedSetIterable iter X.env x = pure x := by intro _; rfl) :
    PE X (.ListComp elt [⟨tg, iter, ifs, 0⟩] scope pos) (tLc wi g tt te (own.map (·.2))) := by
  constructor
  intro pins s σ H Q I h
  rw [eval_ListComp]
  have fr : ∀ y ∈ scope.names, y.2 = .free → ∃ c, X.env.cells.lookup y.1 = some c := fun y hy e => (ok.free y hy e).elim (fun k => I.ok.has _ (.inl k)) fun k => I.ok.has _ (.inr k)
  refine wpAny_comprehension_free (use := none) rfl hs (closure_ok fr) ok.kind (fun y hy e => by rw [ok.uniq y hy, e]) (thn (hi.run pins s σ H _ I h) fun xv s1 hx => thn hx fun itv s2 ⟨it, fp, tn, J, H2, e, I2, T, st2, f2, q⟩ => ?_)
  subst e
  refine wpAny_newObj_type (newEnv_comp ?_) (by show 0 ≤ sizeLine; decide)
  generalize hD : s2.heap.objs.size = D
  obtain ⟨W, ⟨m0, w0⟩, turn⟩ := q D (I2.hok.fresh (Nat.le_of_eq hD))
  generalize e3 : ({ s2 with heap := s2.heap.push { cls := .type "list", data := .seq ([] : List Value).toArray } } : Shared) = s3
  have h3 : s3.heap = s2.heap.push { cls := .type "list", data := .seq ([] : List Value).toArray } := by rw [← e3]
  have I3 : Inv X pins σ (upd H2 D (.lst [])) s3 := by
    rw [← e3]
    exact I2.laid (t' := s2.toks) (fun b o e => Heap.get?_push_of_some _ e) (Nat.le_of_eq hD) ⟨Nat.zero_le _, [], 0, .nil, by rw [← hD]; exact Heap.get?_push_size _ rfl⟩
  have lt2 : ∀ b ∈ fp, b < s2.heap.objs.size := fun b hb => by
    obtain ⟨o, e, _⟩ := T.obj _ _ st2 b hb; exact Heap.lt_size e
  have f3 : ∀ b ∈ fp, FpOk X pins (upd H2 D (.lst [])) b ∧ b < s3.heap.objs.size := fun b hb => by
    have l := lt2 b hb
    exact ⟨⟨by rw [upd_ne (by rw [← hD]; exact Nat.ne_of_lt l)]; exact (f2 b hb).1, (f2 b hb).2⟩, by rw [h3, Heap.size_push]; exact Nat.lt_succ_of_lt l⟩
  have st3 : tn 0 s3.heap := T.keep _ _ _ st2 fun b _ o e => by rw [h3]; exact Heap.get?_push_of_some _ e
  have I4 := block_start I3 ok hN f3
  have hpin := I3.pin p (List.mem_append_left _ hp)
  have pg := hg s3 (upd H2 D (.lst [])) s3.heap.objs.size (cellsFrom (s3.heap.objs.size + 1) scope.names (cloFrom X.env.cells scope.names [])) fp
  have pt := ht s3 (upd H2 D (.lst [])) s3.heap.objs.size (cellsFrom (s3.heap.objs.size + 1) scope.names (cloFrom X.env.cells scope.names [])) fp
  have pe := he s3 (upd H2 D (.lst [])) s3.heap.objs.size (cellsFrom (s3.heap.objs.size + 1) scope.names (cloFrom X.env.cells scope.names [])) fp
  show codeAny _ _ (.compStart (.ListComp elt [⟨tg, iter, ifs, 0⟩] scope pos) 0 (.ref it) (.ref D) (compEnvC scope (cellsFrom (s3.heap.objs.size + 1) scope.names (cloFrom X.env.cells scope.names [])) s3.heap.objs.size X.env)) (compPost (model X.prog X.w) X.A X.xe none (EP X pins σ Q) (.ref D) s3.heap.objs.size) { s3 with heap := pushCells (s3.heap.push { cls := .type "dict", data := .dict #[] }) scope.names }
  have nfp : ∀ b ∈ fp, (upd H2 D (.lst [])) b = none := fun b hb => (f3 b hb).1.1
  generalize hce : compEnvC scope (cellsFrom (s3.heap.objs.size + 1) scope.names (cloFrom X.env.cells scope.names [])) s3.heap.objs.size X.env = ce at I4 pg pt pe ⊢
  have cL : ce.locals = s3.heap.objs.size := by subst hce; rfl
  generalize eH : upd H2 D (.lst []) = H3 at I3 I4 pg pt pe w0 nfp f3 hpin
  generalize e4 : ({ s3 with heap := pushCells (s3.heap.push { cls := .type "dict", data := .dict #[] }) scope.names } : Shared) = s4 at I4 ⊢
  have kp4 : ∀ b o, s3.heap.get? b = some o → s4.heap.get? b = some o := fun b o e => by rw [← e4]; exact pushCells_keeps _ _ _ _ (Heap.get?_push_of_some _ e)
  have st4 : tn 0 s4.heap := T.keep _ _ _ st3 fun b _ o e => kp4 b o e
  have I4' : Inv (blkP X s3 H3 scope ce fp p) [] (wipe σ (own.map (·.2))) H3 s4 := by
    refine pn_inv I4 ⟨kp4 _ _ hpin.1, hpin.2.1, ?_, fun hm => ?_, hpin.2.2.2.2⟩
    · show p.1 ≠ ce.locals
      rw [cL]; exact Nat.ne_of_lt (Heap.lt_size hpin.1)
    · exact (List.mem_cons.mp (I3.stkSub p.1 hm)).elim hpin.2.2.1 hpin.2.2.2.1
  have hotB : HotC (blkP X s3 H3 scope ce fp p) := ⟨p, hot, List.mem_singleton.mpr rfl⟩
  have npf : ∀ b ∈ fp, p.1 ≠ b := fun b hb => (f3 b hb).1.2.2.2.2.2 p (List.mem_append_left _ hp)
  have stat : ∀ {σ' : L2.St} {H' : Hp} {s' : Shared}, Inv (blkP X s3 H3 scope ce fp p) [] σ' H' s' → (∀ b ∈ fp, H' b = none) → ∀ b ∈ fp, FpOk (blkP X s3 H3 scope ce fp p) [] H' b := fun {σ' H' s'} I' hn b hb =>
    ⟨hn b hb, (I'.ok.exf b hb).1, I'.ok.exfs b hb, .inl hb, fun x c e => (I'.ok.exf b hb).2 x c e, fun q hq => by
      have e : q = p := by simpa using (show q ∈ [p] ++ ([] : List (Addr × Obj)) from hq)
      rw [e]; exact npf b hb⟩
  have loop : codeAny (model X.prog X.w) X.A (.compLoop (.ListComp elt [⟨tg, iter, ifs, 0⟩] scope pos) 0 (.ref it) (.ref D) ce) (compPost (model X.prog X.w) X.A X.xe none (EP X pins σ Q) (.ref D) s3.heap.objs.size) s4 := by
    refine compLoop_any (fun n s' => ∃ i H', Inv (blkP X s3 H3 scope ce fp p) [] (wipe σ (own.map (·.2))) H' s' ∧ tn i s'.heap ∧ (∀ b ∈ fp, H' b = none) ∧ W i n H') ?_ m0 ⟨0, H3, I4', st4, nfp, w0⟩
    rintro n s5 ⟨i, H5, I5, st5, n5, w5⟩
    rcases turn i n H5 w5 with ⟨stop, qq⟩ | ⟨go, Nx, hNx, step⟩
    · refine thnF (T.done (blkP X s3 H3 scope ce fp p) rfl rfl rfl hotB i [] s5 _ H5 (fun _ _ => False) I5 (stat I5 n5) st5 stop) fun r s6 ⟨hr, I6⟩ => ?_
      subst hr
      have I7 : Inv X pins σ H5 s6 := I3.call' (ch := fp) I6.os I6.base I6.hok I6.bare fun b hb => ⟨(f3 b hb).1.2.2.2.1, (f3 b hb).1.2.1, (f3 b hb).1.2.2.2.2.1, (f3 b hb).1.2.2.2.2.2⟩
      have nC : H5 s3.heap.objs.size = none := by rw [← cL]; exact I6.free
      obtain ⟨mm, hn, _⟩ := I6.loc
      have hn : s6.heap.Ns s3.heap.objs.size mm := by rw [← cL]; exact hn
      refine ⟨mm, hn, fun h'' sb => ?_⟩
      obtain ⟨g0, g1, g2, g3, g4, g5⟩ := I3.fpOk (H' := H5) (Nat.le_refl _) nC
      exact ⟨.ref D, H5, I7.turned (t' := s6.toks) (fun b o hb e => (sb.2 b hb).trans e) g0 g1 g3 g4 g5, rfl, qq⟩
    · refine thnF (T.item (blkP X s3 H3 scope ce fp p) rfl rfl rfl hotB i [] s5 _ H5 (fun _ _ => False) I5 (stat I5 n5) st5 go) fun r s6 ⟨u, hr, h6⟩ => ?_
      subst hr
      refine thnF h6 fun _ s7 ⟨x, H7, I7, r7, y7, st7, n7⟩ => ?_
      have I7' := I7.pinned (stat I7 n7) (T.obj _ _ st7)
      refine thnF (pg.run _ s7 _ H7 x u _ I7' r7 (step x H7 y7)) fun _ s8 ⟨σ8, H8, I8, hw8, q8⟩ => thnF (pt.run _ s8 σ8 H8 _ I8 q8) fun b s9 ⟨H9, I9, q9⟩ => ?_
      have fin : ∀ {s' : Shared} {H' : Hp}, Inv (blkP X s3 H3 scope ce fp p) ([] ++ pinsAt fp s7.heap) σ8 H' s' → Nx H' → ∃ m, m < n ∧ ∃ i H', Inv (blkP X s3 H3 scope ce fp p) [] (wipe σ (own.map (·.2))) H' s' ∧ tn i s'.heap ∧ (∀ b ∈ fp, H' b = none) ∧ W i m H' := fun {s' H'} I' nx => by
        obtain ⟨m', hm, w'⟩ := hNx H' nx
        have pz : ∀ b ∈ fp, ∀ o, s7.heap.get? b = some o → s'.heap.get? b = some o ∧ H' b = none := fun b hb o e =>
          have z := I'.pin (b, o) (List.mem_append_right _ (List.mem_append_right _ (mem_pinsAt hb e))); ⟨z.1, z.2.1⟩
        have hl : (wipe σ (own.map (·.2))).length = σ8.length := by rw [← hw8, wipe_length]
        refine ⟨m', hm, i + 1, H', (I'.unpinned (pins := [])).weak hl (fun j v e => by rw [← hw8] at e; exact (wipe_some e).1), T.keep _ _ _ st7 fun b hb o e => (pz b hb o e).1, fun b hb => ?_, w'⟩
        obtain ⟨o, e, _⟩ := T.obj _ _ st7 b hb; exact (pz b hb o e).2
      cases b with
      | false => rw [if_neg Bool.false_ne_true] at q9; rw [if_neg Bool.false_ne_true]; exact fin I9 q9
      | true =>
        rw [if_pos rfl] at q9; rw [if_pos rfl]
        refine thnF (pe.run _ s9 σ8 H9 _ I9 q9) fun z s10 ⟨yv, H10, I10, r10, acc, d10, z10, nx⟩ => app_ok (X := blkP X s3 H3 scope ce fp p) I10 d10 z10 r10 fun s11 I11 => fin I11 nx
  exact codeAny_compStart_list loop (T.self X.A 0 _ _ _ st4 loop)
end KV

namespace KV
open PySem PySem.Spec PyProof.Rows L2 KGX L2H
/-! ### defs that are handed the exception that is handled -/
abbrev SpH := Addr × Obj → List V → Hp → VK → Prop
structure FnX (P : Program) (w : World) (K : PySem.W.Frag) (mg : Str → Option Value) (base : Heap) (k : Nat) (f : Addr) (fd : FuncData) (ps : List Str) (sp : SpH) : Prop where
  len : ∀ p vs H Q, sp p vs H Q → vs.length = ps.length
  run : ∀ (A : Around) (outer : List Env) (s : Shared) (H : Hp) (args : Args) (us : List Value) (vs : List V) (Q : VK) (p : Addr × Obj), RoomH k A → Hot1 A p → PinOk outer H s p → Env0 P w K mg base A outer s H → BindsTo s fd args (ps.zip us) → Vals vs us → sp p vs H Q →
    codeAny (model P w) A (.call (.ref f) args) (CR CX0 outer P w H s Q E0) s
section
variable {P : Program} {w : World} {K : PySem.W.Frag} {mg : Str → Option Value} {base : Heap}
theorem okH {x qual : Str} {st : Stmt} {f : Addr} {fd : FuncData} {N ps : List Str} {k : Nat} {sp : SpH} (F : Fun K x qual st f fd) (S : FnScope N ps (defScope st)) (len : ∀ p vs H Q, sp p vs H Q → vs.length = ps.length)
    (hb : ∀ (cdv : Value) (A : Around) (outer : List Env) (s : Shared) (H : Hp) (vs : List V) (Q : VK) (p : Addr × Obj), Hot1 A p → RoomH k (A.deeper (envOfC qual (defScope st) s.heap.objs.size f cdv)) → sp p vs H Q →
      ∃ t, PSs (cxH CX0 P w K mg base N qual (defScope st) f cdv A outer s H E0 p).nox (defBody st) t ∧ t { nx := fun _ H' => Q .non H', rt := Q } (L2.start N vs) H) : FnX P w K mg base (k + 1) f fd ps sp := by
  obtain ⟨oc, od, kV, doc, pm, an, cdv, ct, osl, rfl, lk, hcd⟩ := F.ex
  refine ⟨len, ?_⟩
  intro A outer s H args us vs Q p hr hot hpin e0 hbi r hsp
  have keep : ∀ b o, base.get? b = some o → s.heap.get? b = some o := fun b o e => (e0.bs b o e).1
  have KX := e0.mod.kin.keeps keep
  have lim := e0.mod.nolimit.keeps keep
  obtain ⟨t, ht, hq⟩ := hb cdv A outer s H vs Q p hot (hr.deeper _) hsp
  have hkind : ∀ y ∈ ps.zip us, (defScope st).names.lookup y.1 = some .local ∨
      ((defScope st).names.lookup y.1 = some .cell ∧ ((cellsFrom (s.heap.objs.size + 1) (defScope st).names []).lookup y.1).isSome = true) := by
    rintro ⟨n, v⟩ hy
    cases S.par n (List.of_mem_zip hy).1 with
    | inl q => exact .inl q
    | inr q => exact .inr ⟨q, PySem.W.cellsFrom_some _ _ _ (.inl q)⟩
  refine codeAny_call_function hr.depth (KX _ _ lk) rfl S.co S.gen rfl (PySem.W.codeRec_of KX hcd) (hbi _ _ _ _ (wpAny_newFunctionEnv_cells S.kind hkind ?_))
  rintro env rfl s1 x1
  refine ⟨lim.keeps x1.toInCall.keep, codeAny_func ?_⟩
  have I : Inv (cxH CX0 P w K mg base N qual (defScope st) f cdv A outer s H E0 p) [] (L2.start N vs) H s1 := inv_startH S hpin e0 (len _ _ _ _ hsp) r x1
  refine wpAny_mono (ht.nox.run [] s1 (L2.start N vs) H _ I hq) ?_ fun _ _ z => z
  intro fl s' hs
  match fl, hs with
  | .ret u, ⟨v, σ', H', J, rv, q⟩ => exact ⟨v, H', J.os, J.bare, J.base, J.hok, rv, q⟩
  | .next, ⟨σ', H', J, q⟩ => exact ⟨V.non, H', J.os, J.bare, J.base, J.hok, (show Value.none = Value.none from rfl), q⟩
  | .brk, ⟨_, _, _, q⟩ => exact q.elim
  | .cont, ⟨_, _, _, q⟩ => exact q.elim
end
def tCallX (sp : SpH) (p : Addr × Obj) (t : TA) : TE := fun σ H Q => t σ H fun vs H1 => sp p vs H1 Q
section
variable {X : Cx} {p : Addr × Obj} {k : Nat} {f : Addr} {fd : FuncData} {ps : List Str} {sp : SpH} {x : Str} {q pos : Pos} {e : Expr} {es : List Expr} {t : TA}
theorem pe_callX (F : FnX X.prog X.w X.K X.mg X.base k f fd ps sp) (hr : RoomH k X.A) (hot : Hot1 X.A p) (hp : p ∈ X.pn) (hg : Gl X x) (hm : X.mg x = some (.ref f)) (hk : PySem.W.keepIn X.K (.ref f) = true) (hb : Binds X.K fd ps [])
    (ha : PA X (e :: es) t) (hdb : (x == ("__debug__" : Str)) = false := by decide) (he : starEach (e :: es) X.env = (false, eval e X.env) :: starEach es X.env := by rfl) (hpl : (backTo pos (starEach es X.env)).any (·.1) = false := by rfl) :
    PE X (.Call (.Name x q) (e :: es) [] pos) (tCallX sp p t) := by
  constructor
  intro pins s σ H Q I h
  refine wpAny_Call_Name_kw (ld_glob I hg hm (PySem.W.callWith_K (h₀ := X.base) I.ok.mod.kin hk (thn (ha.run pos pins s σ H _ I h) ?_) he hpl) hdb)
  rintro us s1 ⟨vs, H1, I1, r, q⟩
  refine ⟨I1.kIn, ?_⟩
  have hl : us.length = ps.length := r.length ▸ F.len _ _ _ _ q
  have b := hb s1 us I1.kIn (by rw [List.append_nil]; exact hl)
  rw [List.append_nil] at b
  have P1 := I1.pin p (List.mem_append_left _ hp)
  refine wpAny_call (codeAny_mono (F.run X.A X.stack s1 H1 ⟨us, []⟩ us vs Q p hr hot ⟨P1.1, P1.2.1, fun hm => (List.mem_cons.mp (I1.stkSub p.1 hm)).elim P1.2.2.1 P1.2.2.2.1, P1.2.2.2.2⟩ I1.env0 b r q) ?_)
  intro r s' hq
  match r, hq with
  | .ok (.ret u), hq => exact I1.after hq
end
/-! isinstance of it -/
def KitE (K : PySem.W.Frag) (p : Addr × Obj) (u : Value) (b : Bool) : Prop := ∃ C, PySem.W.KitX K (.ref p.1) (.ref C) (fun h => PySem.W.InstAt h p.1 p.2 C none) ∧ p.2.cls = .ref C ∧ p.2.dict = none ∧ PySem.W.notCls p.2 = true ∧ PySem.W.kitOne K (.ref C) u = some b
def rIsE (K : PySem.W.Frag) (p : Addr × Obj) : List V → Hp → VK → Prop := fun xs H Q => ∃ c u b, xs = [.ref p.1, c] ∧ ClsV c u ∧ KitE K p u b ∧ Q (.bl b) H
theorem call_isE {X : Cx} {p : Addr × Obj} (hp : p ∈ X.pn) : CallR X (.builtin "isinstance") (rIsE X.K p) := by
  rintro pins s σ H xs us Q I r ⟨c, u, b, rfl, k, ⟨C, kx, h1, h2, h3, e⟩, q⟩
  obtain ⟨u1, u2, rfl, r1, r2⟩ := vals2 r
  have e2 := k.eq r2
  subst e2
  cases r1
  exact PySem.W.kia_one kx I.kIn ⟨(I.pin p (List.mem_append_left _ hp)).1, h1, h3, by rw [h2]; trivial⟩ e (fun z => nomatch z) fun tk => ⟨.bl b, H, I.tok tk, rfl, q⟩
/-- the exception p: its class is the n-th of cs -/
structure ExP (K : PySem.W.Frag) (p : Addr × Obj) (G : Addr) (cs : List Addr) (n : Nat) : Prop where
  g : KitE K p (.ref G) true
  v : KitE K p (.type "ValueError") true
  c : ∀ (j : Nat) (C : Addr), cs[j]? = some C → KitE K p (.ref C) (decide (n = j))
  lt : n < 8
def spCl (K : PySem.W.Frag) (G : Addr) (cs : List Addr) : SpH := fun p vs H Q => ∃ n, vs = [.ref p.1] ∧ ExP K p G cs n ∧ ∀ l H', Same H H' → H l = none → H' l = some (.lst ((List.range 8).map fun j => V.bl (decide (n = j)))) → Q (.ref l) H'
def spOn (K : PySem.W.Frag) (G : Addr) (cs : List Addr) : SpH := fun p vs H Q => ∃ (n j : Nat), vs = [.ref p.1, .int j] ∧ ExP K p G cs n ∧ j < 8 ∧ ∀ H', Same H H' → Q (.bl (decide (n = j))) H'
theorem on_eq : ∀ n < 8, ∀ j : Nat, j < 8 → PyData.eqv (.list ((List.range 8).map fun i => .bool (decide (n = i)))) (.list ((List.range 8).map fun i : Nat => .bool (decide ((i : Int) = (j : Int))))) = decide (n = j) := by decide +kernel
theorem on_sh : ∀ n < 8, SeqAt.shaped (.list ((List.range 8).map fun i => .bool (decide (n = i)))) = true := by decide +kernel
theorem on_sh2 : ∀ j : Nat, j < 8 → SeqAt.shaped (.list ((List.range 8).map fun i : Nat => .bool (decide ((i : Int) = (j : Int))))) = true := by decide +kernel
theorem dp_bls {K : PySem.W.Frag} {H : Hp} {f : Nat → Bool} : ∀ ns : List Nat, DpAll K H (ns.map fun i => V.bl (f i)) (ns.map fun i => PyData.bool (f i))
  | [] => .nil
  | n :: ns => .cons (.bl _) (dp_bls ns)
end KV

namespace KV
open PySem PySem.Spec PyProof.Rows L2 KGX L2H
/-! ### the name of an except clause, a cell -/
section
variable {X : Cx} {pins : List (Addr × Obj)} {σ : L2.St} {H : Hp} {s : Shared}
theorem uncell {i : Nat} {x : Str} {c : Addr} {w1 w2 : Option Value} {h' : Heap} (I : Inv X pins σ H s) (hN : X.N.Nodup) (hi : X.N[i]? = some x) (hfn : X.fn x = true) (hc : X.env.cells.lookup x = some c) (z : s.heap.IsCell c w1) (z' : h'.IsCell c w2) (sb : Heap.SameBut c s.heap h') :
    Inv X pins (σ.set i none) H { s with heap := h' } := by
  obtain ⟨mm, hn, hl⟩ := id I.loc
  obtain ⟨oc, g1, g2⟩ := id z
  have old : ∀ b o, X.s_0.heap.get? b = some o → h'.get? b = s.heap.get? b := fun b o e => sb.2 b (Nat.ne_of_lt (Nat.lt_of_lt_of_le (Heap.lt_size e) (I.ok.cab x c hfn hc)))
  have B : Un X.fs X.ex X.H_0 H X.s_0.heap h' := ⟨fun b o e n hb hx => by rw [old b o e]; exact I.base.keep b o e n hb hx, fun b o e n hb hx => by
    obtain ⟨sl, q⟩ := I.base.slot b o e n hb hx; exact ⟨sl, by rw [old b o e]; exact q⟩, I.base.free, fun b o e hx => by
    obtain ⟨o2, q⟩ := I.base.there b o e hx; exact ⟨o2, by rw [old b o e]; exact q⟩, I.base.tups, I.base.frzs, I.base.tbls⟩
  have hk : HOk X.prog X.w H h' := fun b ob e => by
    refine (I.hok b ob e).stay (fun y u hy q => (sb.2 y ?_).trans q) (fun _ q => q) fun _ _ q => q
    intro ey; subst ey
    rcases hy with hy | hy
    · rw [← hy, I.freeC x _ hc] at e; exact nomatch e
    · rw [I.freeC x _ hc] at hy; exact nomatch hy
  refine ⟨I.ok, I.os, I.bare, B, ⟨mm, hn.sameBut sb (Ne.symm (I.cne x c hc)), fun j y v e1 e2 e3 => ?_⟩, fun y d e => ?_, I.free, I.freeC, fun q hq => ?_, hk, by rw [List.length_set]; exact I.len⟩
  · by_cases hj : i = j
    · subst hj
      by_cases hlt : i < σ.length
      · rw [List.getElem?_set_self hlt] at e2; exact nomatch e2
      · rw [List.getElem?_eq_none (by rw [List.length_set]; omega)] at e2; exact nomatch e2
    · rw [List.getElem?_set_ne hj] at e2
      obtain ⟨u, r, q⟩ := hl j y v e1 e2 e3
      refine ⟨u, r, q.elim .inl fun ⟨k, d, e, zz⟩ => .inr ⟨k, d, e, zz.sameBut sb fun ed => ?_⟩⟩
      subst ed
      exact hj ((nodup_ix hN e1 (I.ok.inj _ _ _ e hc ▸ hi)).symm)
  · by_cases hd : d = c
    · subst hd; exact ⟨_, z'⟩
    · obtain ⟨u, zz⟩ := I.cell y d e; exact ⟨u, zz.sameBut sb hd⟩
  · obtain ⟨e, n, ne, nf, d⟩ := I.pin q hq
    refine ⟨(sb.2 q.1 fun y => ?_).trans e, n, ne, nf, d⟩
    rw [y, g1] at e
    exact d w1 (by rw [← Option.some.inj e]; exact g2)
theorem goneC {M : Model} {A : Around} {E : Value → Shared → Prop} {i : Nat} {n : Str} {pos : Pos} {Q : Unit → Shared → Prop} (I : Inv X pins σ H s) (hN : X.N.Nodup) (hi : X.N[i]? = some n) (hk : X.env.scope.names.lookup n = some .cell) (hfn : X.fn n = true) (h : ∀ s', Inv X pins (σ.set i none) H s' → Q () s') :
    wpAny M A (do bindName X.env n .none; unbindBehindTheSuite X.env n pos) Q E s := by
  obtain ⟨c, hc⟩ := I.ok.has n (.inl hk)
  refine wpAny_bind (wpAny_bindName (store_ok (v := .non) I hN hi (.inr hk) rfl (fun s1 I1 => ?_) (.inl hfn)))
  unfold unbindBehindTheSuite
  refine wpAny_onRaise ?_
  unfold unbindName
  refine wpAny_bind (wpAny_point (wpAny_bind ?_))
  obtain ⟨w1, z⟩ := I1.cell n c hc
  have hlt : i < σ.length := by rw [I.len]; exact (List.getElem?_eq_some_iff.mp hi).1
  have z2 : s1.heap.IsCell c (some Value.none) := by
    obtain ⟨mm, _, hl⟩ := I1.loc
    obtain ⟨u, r, q⟩ := hl i n .non hi (List.getElem?_set_self hlt) (.inr (.inl hk))
    have eu : u = Value.none := r
    subst eu
    rcases q with ⟨k, _⟩ | ⟨_, d, e, zz⟩
    · have k' : X.env.scope.names.lookup n = some .local := k
      rw [hk] at k'; exact nomatch k'
    · rw [hc] at e; cases e; exact zz
  have hk2 : X.env.kindOf n = some .cell := hk
  unfold deleteName
  simp only [hk2]
  refine wpAny_bind (wpAny_cellOf hc (wpAny_bind (wpAny_cellGet z2 ?_)))
  simp only [Option.isSome_some, if_true]
  refine wpAny_cellSet z2 fun h' z3 sb => wpAny_point (h _ ?_)
  have J := uncell I1 hN hi hfn hc z2 z3 sb
  rw [List.set_set] at J
  exact J
end
end KV

namespace KV
open PySem PySem.Spec PyProof.Rows L2 KGX L2H
/-! ### try, the name of the except clause a cell; all that is refused is caught, and the suite tells something -/
abbrev TSu := Addr → Value → Option Addr → VK → L2.St → Hp → Prop
def wAsC (K : PySem.W.Frag) (c : Value) (i : Nat) (ts : TSu) (Rt : VK) : WX := fun cls d σ H => PySem.W.exmOne K cls c = some true ∧ ∀ a, H a = none → ts a cls d Rt (σ.set i (some (.ref a))) H
section
variable {X : Cx} {x n : Str} {c : Value} {i : Nat} {body suite : List Stmt} {b₀ : Stmt} {np pos pos' : Pos} {tb : WX → TS} {ts : TSu}
theorem ps_tryC (hs : X.stack = X.env :: X.outer) (hf : X.env.frame = some X.env.locals) (hN : X.N.Nodup) (hi : X.N[i]? = some n) (hk : X.env.scope.names.lookup n = some .cell) (hfn : X.fn n = true) (hc : Names X x c)
    (hb : ∀ (W : WX) (pn : List (Addr × Obj)) (xe : Value → Shared → Prop), L2N.Takes (X.tr pn xe) W → PassesOwn (model X.prog X.w) X.A X.env xe → PSs (X.tr pn xe) body (tb W))
    (hsu : ∀ (a : Addr) (oe : Obj) (cls : Value) (d : Option Addr) (pn : List (Addr × Obj)), L2N.Zn cls d oe → (∃ vs, oe.data = .fields vs) → PSs (X.suite a ((a, oe) :: pn)) (b₀ :: suite) (fun D σ H => ts a cls d D.rt σ H)) :
    PS X (.Try body [.ExceptHandler (some (.Name x np)) (some n) (b₀ :: suite) pos'] [] [] pos) (fun D σ H => tb (wAsC X.K c i ts D.rt) D σ H) := by
  constructor
  intro pins s σ H D I h
  have ok := I.ok
  have hfr : X.A.frames = some (X.env :: X.outer) := by rw [ok.frames, hs]
  refine wpAny_Try_except ?_
  have bd := hb (wAsC X.K c i ts D.rt) (X.pn ++ pins) (fun e s₁ => wpAny (model X.prog X.w) X.A (noteFrame e X.env) (fun _ s₂ => wpAny (model X.prog X.w) X.A (setFlight e none) (fun _ s₃ => wpAny (model X.prog X.w) X.A (handleBy e X.env [.ExceptHandler (some (.Name x np)) (some n) (b₀ :: suite) pos']) (SP X pins D) X.xe s₃) X.xe s₂) X.xe s₁)
    (fun u s' xx => ?_) PassesOwn.looking
  · refine wpAny_mono (bd.run [] s σ H D (I.toTry _) h) (fun f s1 hsp => ?_) (fun e s1 he => he)
    match f, hsp with
    | .next, ⟨σ', H', J, q⟩ => exact wpAny_execs_nil ⟨σ', H', J.ofTry ok, q⟩
    | .brk, ⟨σ', H', J, q⟩ => exact ⟨σ', H', J.ofTry ok, q⟩
    | .cont, ⟨σ', H', J, q⟩ => exact ⟨σ', H', J.ofTry ok, q⟩
    | .ret u, ⟨v, σ', H', J, r, q⟩ => exact ⟨v, σ', H', J.ofTry ok, r, q⟩
  · obtain ⟨a, B, sI, pins', σ', H', cls, d, rfl, J', nb, up, sky, na, os, ag, hx, hyes⟩ := xx
    have J : Inv X pins σ' H' sI := J'.ofTry ok
    have sky2 : Sky B (X.env :: X.outer) a (L2N.Zn cls d) X.env.locals s'.heap := by rw [← hs]; exact sky
    show wpAny (model X.prog X.w) X.A (noteFrame (.ref a) X.env) _ _ _
    refine L2N.Sky.land L2N.Zn.steady hfr hf sky2 fun h3 fl3 up3 => ?_
    have J3 : Inv X pins σ' H' { s' with heap := h3 } := J.landed nb fl3.1 (up.trans up3) os ag
    obtain ⟨o3, v3, g3, z3, d3⟩ := fl3.there
    have nfr : a ∉ frs (X.env :: X.outer) := fun hm => by
      obtain ⟨_, o, e, hnf⟩ := fl3.2.2.1.mem hm
      rw [g3] at e; cases e
      exact hnf _ d3
    have nL : a ≠ X.env.locals := fun z => nfr (List.mem_filterMap.mpr ⟨X.env, List.mem_cons_self, by rw [hf, z]⟩)
    have nF : a ∉ X.fs := fun hm => by
      obtain ⟨e, he, q⟩ := List.mem_filterMap.mp hm
      exact nfr (List.mem_filterMap.mpr ⟨e, List.mem_cons_of_mem _ he, q⟩)
    have S3 := J3.suite g3 d3 na nL nF
    refine wpAny_handleBy_cons (codeAny_handlers_test ?_) (by intro q; cases q)
    have LM := PySem.W.exm_one (M := model X.prog X.w) (J3.kIn) (show PySem.W.Looks (model X.prog X.w) h3 (typeOf (.ref a)) cls from fun A Q E s k q => wpAny_typeOf_ref (k _ _ g3) (by rw [z3.1]; exact q)) hx
    have test : ∀ {Q : Value → Shared → Prop} {E : Value → Shared → Prop}, Q c { s' with heap := h3 } → wpAny (model X.prog X.w) (X.A.mark (some (.ref a))) (eval (.Name x np) X.env) Q E { s' with heap := h3 } := fun {Q E} q => by
      obtain ⟨hg, hdbg, hm | ⟨hm, hv, hnn⟩⟩ := hc
      · exact ld_glob (X := X.suite a ((a, o3) :: (X.pn ++ pins))) S3 hg hm q hdbg
      · exact ld_blt (X := X.suite a ((a, o3) :: (X.pn ++ pins))) S3 hg hm hv q hnn hdbg
    refine test (LM.here (codeAny_handlers_suite_as (HandSPX.lands_againZ fl3 fun h4 fl4 up4 => ?_)))
    have J4 : Inv X pins σ' H' { s' with heap := h4 } := J.landed nb fl4.1 ((up.trans up3).trans up4) os ag
    obtain ⟨o4, v4, g4, z4, d4⟩ := fl4.there
    have S4 := J4.suite g4 d4 na nL nF
    refine store_ok (X := X.suite a ((a, o4) :: (X.pn ++ pins))) (v := .ref a) S4 hN hi (.inr hk) rfl (fun s5 S5 => ?_) (.inl hfn)
    refine wpAny_mono ((hsu a o4 cls d (X.pn ++ pins) z4 ⟨_, d4⟩).run [] s5 _ H' { nx := fun _ _ => False, rt := D.rt } S5 (hyes a na)) (fun f s6 hsp => ?_) (fun _ _ z => False.elim z)
    match f, hsp with
    | .next, ⟨_, _, _, q⟩ => exact q.elim
    | .brk, ⟨_, _, _, q⟩ => exact q.elim
    | .cont, ⟨_, _, _, q⟩ => exact q.elim
    | .ret u, ⟨v6, σ6, H6, S6, r6, q6⟩ => exact goneC (S6.unsuite ok) hN hi hk hfn fun s7 J7 => ⟨_, _, _, J7, r6, q6⟩
end
/-! ### by values -/
/-- the classes by their places -/
def cix (c : Str) : Nat := (["NoShares", "NoKind", "NoNumber", "NoNeeds", "TooMany", "NoPlan", "NoLine", "NoText"] : List Str).idxOf c
/-- what is known of a class that may be caught -/
structure ExH (K : PySem.W.Frag) (G : Addr) (cs : List Addr) (C : Addr) (n : Nat) : Prop where
  kx : ∀ x ox, PySem.W.KitX K (.ref x) (.ref C) (fun h => PySem.W.InstAt h x ox C none)
  g : PySem.W.kitOne K (.ref C) (.ref G) = some true
  v : PySem.W.kitOne K (.ref C) (.type "ValueError") = some true
  c : ∀ (j : Nat) (C' : Addr), cs[j]? = some C' → PySem.W.kitOne K (.ref C) (.ref C') = some (decide (n = j))
  lt : n < 8
  ex : PySem.W.exmOne K (.ref C) (.ref G) = some true
theorem ExH.p {K : PySem.W.Frag} {G : Addr} {cs : List Addr} {C : Addr} {n : Nat} (E : ExH K G cs C n) {a : Addr} {o : Obj} (hz : L2N.Zn (.ref C) none o) (hd : ∃ vs, o.data = .fields vs) : ExP K (a, o) G cs n := by
  obtain ⟨vs, hd⟩ := hd
  have hn : PySem.W.notCls o = true := by unfold PySem.W.notCls; rw [hd]
  have mk : ∀ u b, PySem.W.kitOne K (.ref C) u = some b → KitE K (a, o) u b := fun u b e => ⟨C, E.kx _ _, hz.1, hz.2.1, hn, e⟩
  exact ⟨mk _ _ E.g, mk _ _ E.v, fun j C' e => mk _ _ (E.c j C' e), E.lt⟩
/-- what the suite tells of the exception at a: the texts pre, then the place of its class -/
def tSu (K : PySem.W.Frag) (G : Addr) (cs : List Addr) (i : Nat) (pre : List Str) : TSu := fun a cls d Rt σ H => ∃ C n, cls = .ref C ∧ d = none ∧ ExH K G cs C n ∧ σ[i]? = some (some (.ref a)) ∧ ∀ l H', Same H H' → H l = none → H' l = some (.lst (pre.map V.str ++ [.int n])) → Rt (.ref l) H'
def sTry (rs pre : List Str) (sb : SW) : SW := fun ρ N R => sb ρ N fun v => match v with
  | .exc _ (some _) => False
  | .exc c none => c ∈ rs ∧ R (.lst (pre.map .str ++ [.int (cix c)]))
  | v => R v
theorem takesL {X : Cx} {W : WX} (tk : L2N.Takes X W) : L2N.Takes X (fun cls d σ H => σ.length = X.N.length → W cls d σ H) := fun u s' ⟨a, B, sI, pins, σ, H, cls, d, e, I, nb, up, sky, na, os, ag, w⟩ => tk u s' ⟨a, B, sI, pins, σ, H, cls, d, e, I, nb, up, sky, na, os, ag, w I.len⟩
theorem reps_str {K : PySem.W.Frag} {F : Hp} : ∀ pre : List Str, Reps K F (pre.map V.str) (pre.map .str)
  | [] => Reps.nil
  | t :: ts => Reps.cons (by rw [Rep]) (reps_str ts)
section
variable {X : Cx} {x n : Str} {i : Nat} {body suite : List Stmt} {b₀ : Stmt} {np pos pos' : Pos} {sb : SW} {G : Addr} {cs : List Addr} {rs pre : List Str}
theorem qs_try (hs : X.stack = X.env :: X.outer) (hf : X.env.frame = some X.env.locals) (hN : X.N.Nodup) (hi : X.N[i]? = some n) (hk : X.env.scope.names.lookup n = some .cell) (hfn : X.fn n = true) (hc : Names X x (.ref G))
    (hr : ∀ c ∈ rs, ∀ C, X.mg c = some (.ref C) → ExH X.K G cs C (cix c))
    (hb : ∀ (W : WX) (pn : List (Addr × Obj)) (xe : Value → Shared → Prop), L2N.Takes (X.tr pn xe) W → PassesOwn (model X.prog X.w) X.A X.env xe → QXs (X.tr pn xe) W false body sb)
    (hsu : ∀ (a : Addr) (oe : Obj) (C : Addr) (m : Nat) (pn : List (Addr × Obj)), ExP X.K (a, oe) G cs m → Hot1 (X.A.mark (some (.ref a))) (a, oe) → PSs (X.suite a ((a, oe) :: pn)) (b₀ :: suite) (fun D σ H => σ.length = X.N.length ∧ σ[i]? = some (some (.ref a)) ∧ ∀ l H', Same H H' → H l = none → H' l = some (.lst (pre.map V.str ++ [.int m])) → D.rt (.ref l) H')) :
    QS X false (.Try body [.ExceptHandler (some (.Name x np)) (some n) (b₀ :: suite) pos'] [] [] pos) (sTry rs pre sb) := by
  refine PS.weak (ps_tryC (tb := fun W => tSX X.K X.mg false (fun cls d σ H => σ.length = X.N.length → W cls d σ H) sb) (ts := tSu X.K G cs i pre) hs hf hN hi hk hfn hc (fun W pn xe tk ps => hb _ pn xe (takesL tk) ps) (fun a oe cls d pn hz hd => ⟨fun pins s σ H D I q => ?_⟩)) ?_
  · obtain ⟨C, m, rfl, rfl, E, e1, q⟩ := q
    obtain ⟨vs, ed⟩ := id hd
    exact (hsu a oe C m pn (E.p hz hd) ⟨rfl, vs, ed, hz.2.2 vs ed⟩).run pins s σ H D I ⟨I.len, e1, q⟩
  · rintro D σ H ⟨B0, F0, H0, F, ρ, N, R, w, p, q, r⟩
    refine ⟨B0, F0, H0, F, ρ, N, _, w, p, q, fun v z F' H' pv rt => ?_, fun σ' c n C d F' H' pc mc ex fa hl => ?_⟩
    · refine r v z F' H' ?_ rt
      cases v <;> first
        | exact pv
        | (have rr := rt.2; simp only [Rep] at rr)
    · obtain rfl : n = none := by cases n with
        | none => rfl
        | some i => exact pc.elim
      obtain rfl : d = none := fa
      obtain ⟨hm, pc⟩ := pc
      have E := hr c hm C mc
      refine ⟨E.ex, fun a ha => ⟨C, _, rfl, rfl, E, List.getElem?_set_self (by rw [hl]; exact (List.getElem?_eq_some_iff.mp hi).1), fun l H2 sm hl2 e2 => ?_⟩⟩
      have fl : F' l = none := none_of ex.fh hl2
      have ex2 : Ext B0 F0 H0 (upd F' l (.lst (pre.map V.str ++ [.int (cix c)]))) H2 := by
        refine ⟨ex.ff.trans (same_new fl), fun b o e => ?_, fun b hb0 hnt => ?_, fun b o nb e => sm b o (ex.keep b o nb e), fun b hb0 => ?_⟩
        · by_cases z : b = l
          · subst z; rw [upd_same] at e; rw [e2]; exact e
          · rw [upd_ne z] at e; exact sm b o (ex.fh b o e)
        · rw [upd_ne (fun z => by subst z; exact ex.there hnt.1 hl2)]; exact ex.new b hb0 hnt
        · obtain ⟨k, e⟩ := ex.box b hb0
          exact ⟨k, sm _ _ e⟩
      refine r _ _ _ H2 pc ⟨ex2, ?_⟩
      show Rep X.K _ _ _
      rw [Rep]
      exact ⟨l, _, rfl, upd_same, Reps.app (reps_str pre) (Reps.cons (by rw [Rep]) Reps.nil)⟩
end
end KV

namespace KV
open PySem PySem.Spec PyProof.Rows L2 KGX L2H
/-! ### the readings of what looks at an exception -/
section
variable {K : PySem.W.Frag} {p : Addr × Obj} {G : Addr} {cs : List Addr} {σ : L2.St} {H : Hp} {Q : VK}
theorem upd2 {H H1 H2 : Hp} {D : Addr} {o : HO} (s : Same H H1) (hD : H D = none) (s2 : Same H1 H2) : Same H (upd H2 D o) := fun a u e => by
  rw [upd_ne (fun z => by rw [z, hD] at e; exact nomatch e)]; exact s2 _ _ (s _ _ e)
theorem wipe1 {σ : L2.St} {j : Nat} {x : Option V} : wipe (σ.set j x) [j] = wipe σ [j] := by
  show (σ.set j x).set j none = σ.set j none
  rw [List.set_set]
theorem wipe1' {σ : L2.St} {j : Nat} {x : Option V} : wipe ((wipe σ [j]).set j x) [j] = wipe σ [j] := by
  show ((σ.set j none).set j x).set j none = σ.set j none
  rw [List.set_set, List.set_set]
/-- [k == place for k in range(8)] -/
theorem eq_read {i j : Nat} {v : Nat} (hj : j < σ.length) (hij : i ≠ j) (e : σ[i]? = some (some (.int v))) (q : ∀ l H', Same H H' → H l = none → H' l = some (.lst ((List.range 8).map fun k : Nat => V.bl (decide ((k : Int) = (v : Int))))) → Q (.ref l) H') :
    tLc (iRng1 (tCons (tC (.int 8)) tNil)) (gName j) tYes (tOp rEq (tVar j) (tVar i)) [j] σ H Q := by
  refine ⟨8, rfl, by decide, by decide, fun D hD => ?_⟩
  refine lc_range (lo := 0) (n := 8) (fun k H2 => Same H H2 ∧ H2 D = some (.lst ((List.range k).map fun k : Nat => V.bl (decide ((k : Int) = (v : Int)))))) ⟨same_new hD, upd_same⟩ (fun k H2 hk ⟨s2, e2⟩ => ?_) fun H2 ⟨s2, e2⟩ => q D H2 s2 hD e2
  refine ⟨wipe1', ?_⟩
  unfold tYes
  refine iteT ?_
  have hl : j < (wipe σ [j]).length := by rw [wipe_length]; exact hj
  refine ⟨_, List.getElem?_set_self hl, _, by rw [List.getElem?_set_ne (Ne.symm hij), wipe_out (by simpa using hij)]; exact e, rfl, _, e2, by rw [List.length_map, List.length_range]; exact line_lt (by omega), upd2 s2 hD fun _ _ z => z, ?_⟩
  rw [upd_same, List.range_succ, List.map_append]
  simp only [List.map_cons, List.map_nil, Int.zero_add]
  congr 4
  simp
/-- [place for place in range(8) if only(e, place)] -/
theorem su_read {i j m : Nat} (hj : j < σ.length) (hij : i ≠ j) (e : σ[i]? = some (some (.ref p.1))) (E : ExP K p G cs m) (q : ∀ l H', Same H H' → H l = none → H' l = some (.lst [.int m]) → Q (.ref l) H') :
    tLc (iRng1 (tCons (tC (.int 8)) tNil)) (gName j) (tB (tCallX (spOn K G cs) p (tCons (tVar i) (tCons (tVar j) tNil)))) (tVar j) [j] σ H Q := by
  refine ⟨8, rfl, by decide, by decide, fun D hD => ?_⟩
  refine lc_range (lo := 0) (n := 8) (fun k H2 => Same H H2 ∧ H2 D = some (.lst (if m < k then [.int m] else []))) ⟨same_new hD, by rw [upd_same, if_neg (by omega)]⟩ (fun k H2 hk ⟨s2, e2⟩ => ?_) fun H2 ⟨s2, e2⟩ => q D H2 s2 hD (by rw [e2, if_pos (by have := E.lt; omega)])
  refine ⟨wipe1', ?_⟩
  have hl : j < (wipe σ [j]).length := by rw [wipe_length]; exact hj
  refine ⟨_, by rw [List.getElem?_set_ne (Ne.symm hij), wipe_out (by simpa using hij)]; exact e, _, List.getElem?_set_self hl, m, k, by rw [Int.zero_add], E, hk, fun H3 s3 => ⟨_, rfl, ?_⟩⟩
  by_cases hm : m = k
  · subst hm
    rw [if_neg (by omega)] at e2
    rw [decide_eq_true rfl]
    refine iteT ?_
    refine ⟨_, List.getElem?_set_self hl, [], s3 _ _ e2, line_lt (by decide), upd2 s2 hD s3, ?_⟩
    rw [upd_same, if_pos (by omega)]
    simp
  · rw [decide_eq_false hm]
    refine iteF ⟨s2.trans s3, ?_⟩
    rw [s3 _ _ e2]
    by_cases h : m < k
    · rw [if_pos h, if_pos (by omega)]
    · rw [if_neg h, if_neg (by omega)]
/-- isinstance(e, C) -/
abbrev tIs (K : PySem.W.Frag) (p : Addr × Obj) (i : Nat) (c : V) : TE := tCB (rIsE K p) (tCons (tVar i) (tCons (tC c) tNil))
theorem is_read {i : Nat} {c : V} {u : Value} {b : Bool} (e : σ[i]? = some (some (.ref p.1))) (k : ClsV c u) (h : KitE K p u b) (q : Q (.bl b) H) : tIs K p i c σ H Q := ⟨_, e, c, u, b, rfl, k, h, q⟩
/-- the first four, the next four -/
def tL4 (K : PySem.W.Frag) (p : Addr × Obj) (i : Nat) (a b c d : Addr) : TE := tLst (tCons (tIs K p i (.ref a)) (tCons (tIs K p i (.ref b)) (tCons (tIs K p i (.ref c)) (tCons (tIs K p i (.ref d)) tNil))))
theorem l4_read {i m j : Nat} {a b c d : Addr} (e : σ[i]? = some (some (.ref p.1))) (E : ExP K p G cs m) (h0 : cs[j]? = some a) (h1 : cs[j + 1]? = some b) (h2 : cs[j + 2]? = some c) (h3 : cs[j + 3]? = some d)
    (q : ∀ l, H l = none → Q (.ref l) (upd H l (.lst [.bl (decide (m = j)), .bl (decide (m = j + 1)), .bl (decide (m = j + 2)), .bl (decide (m = j + 3))]))) : tL4 K p i a b c d σ H Q :=
  is_read e (.own _) (E.c _ _ h0) (is_read e (.own _) (E.c _ _ h1) (is_read e (.own _) (E.c _ _ h2) (is_read e (.own _) (E.c _ _ h3) ⟨by show 4 ≤ sizeLine; decide, q⟩)))
/-- found = [..4]; return found + [..4] -/
theorem cl_read {vs : List V} {a b c d a' b' c' d' : Addr} {N : List Str} (hN : N.length = 2) {D : Ends} (hs : spCl K G [a, b, c, d, a', b', c', d'] p vs H D.rt) :
    tAsg (tL4 K p 0 a b c d) (gName 1) { D with nx := fun σ' H' => tRet (tOp rCat (tVar 1) (tL4 K p 0 a' b' c' d')) D σ' H' } (L2.start N vs) H := by
  obtain ⟨m, rfl, E, q⟩ := hs
  have hst : L2.start N [.ref p.1] = [some (.ref p.1), none] := by unfold L2.start; rw [hN]; rfl
  rw [hst]
  refine l4_read (j := 0) rfl E rfl rfl rfl rfl fun l hl => ?_
  refine ⟨_, rfl, l4_read (j := 4) rfl E rfl rfl rfl rfl fun l2 hl2 => ?_⟩
  have n12 : l2 ≠ l := fun z => by rw [z, upd_same] at hl2; exact nomatch hl2
  refine ⟨l, l2, _, _, rfl, rfl, by rw [upd_ne n12.symm]; exact upd_same, upd_same, by show 8 ≤ sizeLine; decide, fun l3 hl3 => ?_⟩
  exact q l3 _ (((same_new hl).trans (same_new hl2)).trans (same_new hl3)) (none_of ((same_new hl).trans (same_new hl2)) hl3) upd_same
/-- if not isinstance(e, G) or not isinstance(e, ValueError): return False; return classes(e) == [k == place for k in range(8)] -/
theorem on_read {vs : List V} {N : List Str} (hN : N.length = 3) {D : Ends} (hs : spOn K G cs p vs H D.rt) :
    tIfS (tOr (tNot (tB (tIs K p 0 (.ref G)))) (tNot (tB (tIs K p 0 (.ty "ValueError"))))) (tRet (tC (.bl false))) (fun D σ H => D.nx σ H) { D with nx := fun σ' H' => tRet (tOp (rEqD K) (tCallX (spCl K G cs) p (tCons (tVar 0) tNil)) (tLc (iRng1 (tCons (tC (.int 8)) tNil)) (gName 2) tYes (tOp rEq (tVar 2) (tVar 1)) [2])) D σ' H' } (L2.start N vs) H := by
  obtain ⟨m, j, rfl, E, hj, q⟩ := hs
  have hst : L2.start N [.ref p.1, .int j] = [some (.ref p.1), some (.int j), none] := by unfold L2.start; rw [hN]; rfl
  rw [hst]
  refine is_read rfl (.own _) E.g ⟨_, rfl, ?_⟩
  refine iteF (is_read rfl (.ty _) E.v ⟨_, rfl, iteF ?_⟩)
  refine ⟨_, rfl, m, rfl, E, fun l H2 s2 hl e2 => eq_read (v := j) (show 2 < 3 by decide) (by decide) rfl fun l3 H3 s3 hl3 e3 => ?_⟩
  refine ⟨_, _, .lst (.inl (.inl (s3 _ _ e2))) (dp_bls (f := fun i => decide (m = i)) _), .lst (.inl (.inl e3)) (dp_bls (f := fun i => decide ((i : Int) = (j : Int))) _), on_sh m E.lt, on_sh2 j hj, ?_⟩
  rw [on_eq m E.lt j hj]
  exact q H3 (s2.trans s3)
/-- the suite -/
theorem su_pre {a : Addr} {o : Obj} {i j m : Nat} {t : Str} {n : Nat} (hj : j < n) (hij : i ≠ j) (E : ExP K (a, o) G cs m) (D : Ends) (σ : L2.St) (H : Hp) (h : σ.length = n ∧ σ[i]? = some (some (.ref a)) ∧ ∀ l H', Same H H' → H l = none → H' l = some (.lst ([t].map V.str ++ [.int m])) → D.rt (.ref l) H') :
    tRet (tOp rCat (tLst (tCons (tC (.str t)) tNil)) (tLc (iRng1 (tCons (tC (.int 8)) tNil)) (gName j) (tB (tCallX (spOn K G cs) (a, o) (tCons (tVar i) (tCons (tVar j) tNil)))) (tVar j) [j])) D σ H := by
  obtain ⟨hl, e, q⟩ := h
  refine ⟨by show 1 ≤ sizeLine; decide, fun l hn => su_read (by omega) hij e E fun l2 H2 s2 hn2 e2 => ⟨l, l2, _, _, rfl, rfl, s2 _ _ upd_same, e2, by show 2 ≤ sizeLine; decide, fun l3 hn3 => ?_⟩⟩
  exact q l3 _ (((same_new hn).trans s2).trans (same_new hn3)) (none_of ((same_new hn).trans s2) hn3) upd_same
theorem su_nil {a : Addr} {o : Obj} {i j m : Nat} {n : Nat} (hj : j < n) (hij : i ≠ j) (E : ExP K (a, o) G cs m) (D : Ends) (σ : L2.St) (H : Hp) (h : σ.length = n ∧ σ[i]? = some (some (.ref a)) ∧ ∀ l H', Same H H' → H l = none → H' l = some (.lst (([] : List Str).map V.str ++ [.int m])) → D.rt (.ref l) H') :
    tRet (tLc (iRng1 (tCons (tC (.int 8)) tNil)) (gName j) (tB (tCallX (spOn K G cs) (a, o) (tCons (tVar i) (tCons (tVar j) tNil)))) (tVar j) [j]) D σ H := by
  obtain ⟨hl, e, q⟩ := h
  exact su_read (by omega) hij e E q
end
theorem RoomH.units {k : Nat} {A : Around} (r : RoomH k A) : A.units + 64 < cLine := by have := r.un; omega
/-- what is known of a class, put together -/
theorem exh_mk {K : PySem.W.Frag} {G C a b c d a' b' c' d' : Addr} {n : Nat} {gt : Option Value} (i : PySem.W.isClsIn K C = true) (f1 : PySem.W.findIn K (.ref C) "__getattribute__" = some (some (.builtin "BaseException.__getattribute__"))) (f2 : PySem.W.findIn K (.ref C) "__getattr__" = some gt)
    (s : PySem.W.subIn K (.ref C) (.type "BaseException") = some true) (f3 : PySem.W.findIn K (.ref C) "__class__" = some (some (.builtin "object.__class__"))) (sp : PySem.W.specialIn K (.builtin "object.__class__") "__get__" = some (some (.builtin "getset_descriptor.__get__")))
    (tk : PySem.W.takesIn K (.builtin "object.__class__") = some true) (mr : PySem.W.mroIn K C (.type "object") = some true) (g : PySem.W.kitOne K (.ref C) (.ref G) = some true) (v : PySem.W.kitOne K (.ref C) (.type "ValueError") = some true)
    (k0 : PySem.W.kitOne K (.ref C) (.ref a) = some (decide (n = 0))) (k1 : PySem.W.kitOne K (.ref C) (.ref b) = some (decide (n = 1))) (k2 : PySem.W.kitOne K (.ref C) (.ref c) = some (decide (n = 2))) (k3 : PySem.W.kitOne K (.ref C) (.ref d) = some (decide (n = 3)))
    (k4 : PySem.W.kitOne K (.ref C) (.ref a') = some (decide (n = 4))) (k5 : PySem.W.kitOne K (.ref C) (.ref b') = some (decide (n = 5))) (k6 : PySem.W.kitOne K (.ref C) (.ref c') = some (decide (n = 6))) (k7 : PySem.W.kitOne K (.ref C) (.ref d') = some (decide (n = 7)))
    (lt : n < 8) (ex : PySem.W.exmOne K (.ref C) (.ref G) = some true) : ExH K G [a, b, c, d, a', b', c', d'] C n := by
  refine ⟨fun x ox => PySem.W.kitx_exc i f1 f2 s f3 sp tk mr, g, v, fun j C' e => ?_, lt, ex⟩
  match j, e with
  | 0, e => cases e; exact k0
  | 1, e => cases e; exact k1
  | 2, e => cases e; exact k2
  | 3, e => cases e; exact k3
  | 4, e => cases e; exact k4
  | 5, e => cases e; exact k5
  | 6, e => cases e; exact k6
  | 7, e => cases e; exact k7
  | _ + 8, e => simp at e
end KV

namespace KV
open PySem PySem.Spec PyProof.Rows L2 KGX
/-! ### things of whatever kind -/
def anyV : PV → Bool
  | .scr _ => false
  | .exc _ _ => false
  | _ => true
def wholeB : PV → Bool
  | .int _ => true
  | _ => false
def withinB (lo hi : Int) : PV → Bool
  | .int i => decide (lo ≤ i) && decide (i ≤ hi)
  | _ => false
/-- what a tuple is made of -/
def partsV : PV → List PV
  | .tup xs => xs
  | .cst xs => xs
  | _ => []
def anyT (v : PV) : Prop := anyV v = true ∧ (partsV v).all anyV = true ∧ (partsV v).length ≤ 1000
def sharesB : PV → Bool
  | .tup xs => decide (1 ≤ xs.length) && decide (xs.length ≤ 5) && xs.all (withinB 1 9)
  | .cst xs => decide (1 ≤ xs.length) && decide (xs.length ≤ 5) && xs.all (withinB 1 9)
  | _ => false
theorem all_bls {α : Type} (p : α → Bool) : ∀ xs : List α, (xs.map p).all id = xs.all p
  | [] => rfl
  | x :: xs => by rw [List.map_cons, List.all_cons, List.all_cons, all_bls p xs]; rfl
theorem any_bls {α : Type} (p : α → Bool) : ∀ xs : List α, (xs.map p).any id = xs.any p
  | [] => rfl
  | x :: xs => by rw [List.map_cons, List.any_cons, List.any_cons, any_bls p xs]; rfl
/-- all([p(x) for x in xs]) -/
theorem all_lc {gw : GW} {f : EW} {ρ : Rho} {k : PV → Prop} {ds : List PV} (p : PV → Bool) (h : ∀ d ∈ ds, ∀ M : PV → Prop, M (.bl (p d)) → gw d ρ fun ρ1 => f ρ1 M) (hl : ds.length ≤ 1000) (q : k (.bl (ds.all p))) : lcW gw tYesW f ρ (fun v => cAll false [v] k) ds [] := by
  refine lc_map (fun d => .bl (p d)) h (by show 0 + _ ≤ _; omega) ⟨_, ds.map p, rfl, ?_, ?_⟩
  · rw [List.nil_append, show (ds.map fun d => PV.bl (p d)) = (ds.map p).map .bl by rw [List.map_map]; rfl]; exact blsOf_map _
  · show k (.bl ((ds.map p).all id))
    rw [all_bls]; exact q
/-- lists of the same thing over and over -/
theorem anyT_of {v : PV} (h : (anyV v && (partsV v).all anyV && decide ((partsV v).length ≤ 1000)) = true) : anyT v := by
  rw [Bool.and_eq_true, Bool.and_eq_true] at h
  exact ⟨h.1.1, h.1.2, of_decide_eq_true h.2⟩
/-- lists of ints, alike or not -/
theorem shaped_lints (S : List Int) : SeqAt.shaped (.list (S.map PyData.int)) = true := by
  have h := shaped_ints S
  exact h
theorem dats_ints : ∀ S : List Int, dats (S.map .int) = some (S.map PyData.int)
  | [] => by rw [List.map_nil, dats]; rfl
  | i :: S => by rw [List.map_cons, dats, dat, dats_ints S]; rfl
theorem eq_lsts {S T : List Int} {k : PV → Prop} (q : k (.bl (decide (S = T)))) : mEq (.lst (S.map .int)) (.lst (T.map .int)) k := by
  show oEqD false _ _ k
  refine ⟨.list (S.map PyData.int), .list (T.map PyData.int), by rw [dat, dats_ints]; rfl, by rw [dat, dats_ints]; rfl, shaped_lints S, shaped_lints T, ?_⟩
  rw [show PyData.eqv (.list (S.map PyData.int)) (.list (T.map PyData.int)) = decide (S = T) from eqvAll_ints S T]
  exact q
theorem ne_lst {xs ys : List PV} {d d' : List PyData} {k : PV → Prop} (h1 : dats xs = some d) (h2 : dats ys = some d') (s1 : SeqAt.shaped (.list d) = true) (s2 : SeqAt.shaped (.list d') = true) (e : PyData.eqv (.list d) (.list d') = true) (q : k (.bl false)) : mNe (.lst xs) (.lst ys) k := by
  show oEqD true _ _ k
  refine ⟨.list d, .list d', by rw [dat, h1]; rfl, by rw [dat, h2]; rfl, s1, s2, ?_⟩
  rw [e]; exact q
theorem ne_lstF {xs ys : List PV} {d d' : List PyData} {k : PV → Prop} (h1 : dats xs = some d) (h2 : dats ys = some d') (s1 : SeqAt.shaped (.list d) = true) (s2 : SeqAt.shaped (.list d') = true) (e : PyData.eqv (.list d) (.list d') = false) (q : k (.bl true)) : mNe (.lst xs) (.lst ys) k := by
  show oEqD true _ _ k
  refine ⟨.list d, .list d', by rw [dat, h1]; rfl, by rw [dat, h2]; rfl, s1, s2, ?_⟩
  rw [e]; exact q
theorem rng_at {n : Nat} {d : PV} (h : d ∈ (rgI 0 n).map PV.int) : ∃ i : Nat, i < n ∧ d = .int (0 + (i : Int)) := by
  obtain ⟨x, hx, rfl⟩ := List.mem_map.mp h
  unfold rgI at hx
  obtain ⟨i, hi, rfl⟩ := List.mem_map.mp hx
  exact ⟨i, List.mem_range.mp hi, rfl⟩
theorem c0 : cix "NoShares" = 0 := by decide
theorem c1 : cix "NoKind" = 1 := by decide
theorem c2 : cix "NoNumber" = 2 := by decide
theorem c3 : cix "NoNeeds" = 3 := by decide
theorem c4 : cix "TooMany" = 4 := by decide
theorem c5 : cix "NoPlan" = 5 := by decide
theorem v_takeW {m : Int} {k : PV → Prop} (h1 : 0 < m) (h2 : m.natAbs.log2 < 9000) (q : ∀ d, 0 ≤ d → d < m → k (.int d)) : pTake (.int m) k := by
  unfold pTake
  exact ⟨⟨h1, h2⟩, q⟩
end KV

namespace KV
open PySem PySem.Spec PyProof.Rows L2 KGX
/-! ### x = a if c else b -/
/-- true: knows of nothing owned; false: may read what is owned, and has no list and no dict in it -/
def br (h : Bool) (f : EW) : EW := fun ρ k => match h with
  | true => f (hide ρ) k
  | false => f ρ fun v => flat v = true ∧ k v
def sSetIf (i : Nat) (t : TW) (h1 h2 : Bool) (f g : EW) : SW := fun ρ N _ => t ρ fun b => if b = true then br h1 f ρ fun v => N (ρ.set i (some (.fr v))) else br h2 g ρ fun v => N (ρ.set i (some (.fr v)))
section
variable {m : Bool} {X : Cx} {a b c : Expr} {st : Stmt} {pos : Pos} {f g : EW} {t : TW}
theorem br_set {K : PySem.W.Frag} {B0 : Addr → Prop} {F0 H0 F H : Hp} {σ : L2.St} {ρ : Rho} {N : Rho → Prop} {i : Nat} {Q : L2.St → Hp → Prop} {h : Bool} {f : EW} (w : Ws K B0 F0 H0 F H σ ρ) (p : br h f ρ fun v => N (ρ.set i (some (.fr v)))) (q : ∀ ρ' σ' F' H', N ρ' → Same F F' → Ws K B0 F0 H0 F' H' σ' ρ' → Q σ' H') :
    tE K f σ H (fun x H1 => gName i x σ H1 Q) := by
  cases h with
  | true => exact ⟨_, F, _, _, w.h, p, fun v x F' H' pv ex rx => q _ _ _ _ pv ex.ff ((w.backH ex).set i rx)⟩
  | false => exact ⟨_, _, _, _, w.x, p, fun v x F' H' ⟨hf, pv⟩ ex rx => q _ _ _ _ pv (w.sc ex) ((w.back ex).set i (w.flatR ex hf rx))⟩
theorem qs_setIf {i : Nat} {h1 h2 : Bool} (h : ∀ te, PE X (.IfExp c a b pos) te → PS X st (tAsg te (gName i))) (hc : PB X c t) (ha : PP X a f) (hb : PP X b g) : QS X m st (sSetIf i t h1 h2 f g) := PS.weak (h _ (pe_ifExp hc ha hb)) fun D σ H ⟨B0, F0, H0, F, ρ, N, R, w, p, q, r⟩ =>
  ⟨_, _, _, _, w.x, p, fun bb F' H' pb ex => by
    have q2 : ∀ ρ' σ' F2 H2, N ρ' → Same (cut σ ρ F') F2 → Ws X.K B0 F0 H0 F2 H2 σ' ρ' → D.nx σ' H2 := fun ρ' σ' F2 H2 n s w2 => q ρ' σ' F2 H2 n ((w.sc ex).trans s) w2
    cases bb with
    | true => exact br_set (w.back ex) pb q2
    | false => exact br_set (w.back ex) pb q2⟩
end
/-! ### shown -/
theorem okInts {S : List Int} (h : ∀ x ∈ S, x.natAbs < 2 ^ 100) (hl : S.length ≤ 1000) : KG.ShowOk (.tuple (S.map PyData.int)) :=
  (shT (L := 1921) (dep := 0) fun d hd => by obtain ⟨x, hx, rfl⟩ := List.mem_map.mp hd; exact shI (log_lt100 (h x hx))).ok (by decide) (by rw [List.length_map]; omega)
theorem dat_tupI (S : List Int) : dat (tupI S) = some (.tuple (S.map PyData.int)) := by unfold tupI; rw [dat, dats_ints]; rfl
theorem repr_tupI {S : List Int} {k : PV → Prop} (h : ∀ x ∈ S, x.natAbs < 2 ^ 100) (hl : S.length ≤ 1000) (q : k (.str (PyData.tuple (S.map PyData.int)).shown)) : cRepr [tupI S] k := ⟨_, _, rfl, dat_tupI S, okInts h hl, q⟩
theorem repr_ref {n : Int} {k : PV → Prop} (h : n.natAbs < 100) (q : k (.str (PyData.list [.str "refused", .int n]).shown)) : cRepr [.lst [.str "refused", .int n]] k := by
  have sI : Sh 1921 0 (.int n) := shI (log_lt100 (Nat.lt_of_lt_of_le h (by decide)))
  have sS : Sh 1921 0 (.str "refused") := ⟨by decide +kernel, rfl, by decide, by decide +kernel⟩
  exact ⟨_, .list [.str "refused", .int n], rfl, rfl, (shL (L := 1921) (dep := 0) fun d hd => by
    rcases List.mem_cons.mp hd with rfl | hd
    · exact sS
    · rw [List.mem_singleton.mp hd]; exact sI).ok (by decide) (by show 2 * (1921 + 2) + 3 ≤ _; decide), q⟩
theorem flats_ints : ∀ S : List Int, flats (S.map .int) = true
  | [] => by rw [List.map_nil, flats]
  | i :: S => by
    rw [List.map_cons, flats, flats_ints S]
    simp [flat]
theorem flat_tupI (S : List Int) : flat (tupI S) = true := by unfold tupI; rw [flat]; exact flats_ints S
theorem okRef {n : Int} (h : n.natAbs < 100) : KG.ShowOk (.list [.str "refused", .int n]) := by
  have sI : Sh 1921 0 (.int n) := shI (log_lt100 (Nat.lt_of_lt_of_le h (by decide)))
  have sS : Sh 1921 0 (.str "refused") := ⟨by decide +kernel, rfl, by decide, by decide +kernel⟩
  exact (shL (L := 1921) (dep := 0) fun d hd => by
    rcases List.mem_cons.mp hd with rfl | hd
    · exact sS
    · rw [List.mem_singleton.mp hd]; exact sI).ok (by decide) (by show 2 * (1921 + 2) + 3 ≤ _; decide)
end KV

namespace KV
open PySem PySem.Spec PyProof.Rows L2 KGX
/-! ### means over up to 243 states: one denominator for all -/
section
variable {ns needs : List Int} {c : Int} {fin : List Int → Option Rat}
theorem mnU_all (g : Good ns) (ok : FinOk ns c fin needs) (hs : ∀ l ∈ allL needs, l.sum ≤ 15) {l : List Int} (hl : l ∈ allL needs) : ∃ z : Int, mnU ns c fin l = (z : Rat) / (pP ns fin (allL needs) : Rat) ∧ 0 ≤ z ∧ z ≤ 680 * pP ns fin (allL needs) := by
  obtain ⟨z, e⟩ := mnU_int g ok (allL needs).length (Nat.le_refl _) l (by rw [List.take_length]; exact hl)
  rw [List.take_length] at e
  obtain ⟨p0, p1⟩ := pP_pos g ok (ls := allL needs) fun _ q => q
  obtain ⟨b0, b1⟩ := mnU_bound g ok _ hl rfl
  have pr : (0 : Rat) < (pP ns fin (allL needs) : Rat) := by exact_mod_cast p0
  have c1 : (c : Rat) ≤ 45 := by have := ok.c1; exact_mod_cast this
  have s0 : (0 : Rat) ≤ (l.sum : Rat) := by have := sum_nn (allL_nn hl); exact_mod_cast this
  have s1 : (l.sum : Rat) ≤ 15 := by have := hs l hl; exact_mod_cast this
  have b2 : mnU ns c fin l ≤ 680 := by
    have h1 := Rat.mul_le_mul_of_nonneg_right c1 s0
    grind
  rw [e, rdiv_le pr] at b2
  rw [e, rle_div pr] at b0
  refine ⟨z, e, ?_, ?_⟩
  · have : (0 : Rat) ≤ (z : Rat) := by grind
    exact_mod_cast this
  · have : (z : Rat) ≤ ((680 * pP ns fin (allL needs) : Int) : Rat) := by rw [Rat.intCast_mul]; exact b2
    exact_mod_cast this
theorem pP_lt (g : Good ns) (ok : FinOk ns c fin needs) (hp : (allL needs).length ≤ 243) : 0 < pP ns fin (allL needs) ∧ pP ns fin (allL needs) ≤ 45 ^ 243 := by
  obtain ⟨p0, p1⟩ := pP_pos g ok (ls := allL needs) fun _ q => q
  refine ⟨p0, Int.le_trans p1 ?_⟩
  have h := Nat.pow_le_pow_right (show 0 < 45 by decide) hp
  exact_mod_cast h
theorem mnU_sz3 (g : Good ns) (ok : FinOk ns c fin needs) (hp : (allL needs).length ≤ 243) (hs : ∀ l ∈ allL needs, l.sum ≤ 15) {l : List Int} (hl : l ∈ allL needs) : Sz 1400 (mnU ns c fin l) := by
  obtain ⟨z, e, z0, z1⟩ := mnU_all g ok hs hl
  obtain ⟨p0, p1⟩ := pP_lt g ok hp
  rw [e]
  have hbig : (40000 : Int) * 45 ^ 243 < 2 ^ 1400 := by decide +kernel
  refine sz_div p0 ?_ ?_
  · have : z < 2 ^ 1400 := by omega
    omega
  · have : pP ns fin (allL needs) < 2 ^ 1400 := by omega
    omega
theorem part_int (g : Good ns) (ok : FinOk ns c fin needs) (hs : ∀ l ∈ allL needs, l.sum ≤ 15) {l : List Int} (hl : l ∈ allL needs) : ∀ ks : List Nat, (∀ k ∈ ks, k ∈ ndK ns l) →
    ∃ z : Int, (c : Rat) + (ks.map fun k => (ns.getD k 0 : Rat) * mnU ns c fin (lessK l k)).sum = (z : Rat) / (pP ns fin (allL needs) : Rat) ∧ 0 ≤ z ∧ z ≤ (45 + 6120 * ks.length) * pP ns fin (allL needs)
  | [], _ => by
    obtain ⟨p0, _⟩ := pP_pos g ok (ls := allL needs) fun _ q => q
    have pne : (pP ns fin (allL needs) : Rat) ≠ 0 := cast_ne p0
    refine ⟨c * pP ns fin (allL needs), ?_, Int.mul_nonneg ok.c0 (by omega), ?_⟩
    · show (c : Rat) + 0 = _
      rw [Rat.intCast_mul]; grind
    · show c * _ ≤ (45 + 6120 * 0) * _
      exact Int.mul_le_mul_of_nonneg_right (by have := ok.c1; omega) (by omega)
  | k :: ks, h => by
    obtain ⟨p0, _⟩ := pP_pos g ok (ls := allL needs) fun _ q => q
    have pne : (pP ns fin (allL needs) : Rat) ≠ 0 := cast_ne p0
    obtain ⟨z, e, z0, z1⟩ := part_int g ok hs hl ks fun x hx => h x (List.mem_cons_of_mem _ hx)
    have hk := ndK_mem.mp (h k List.mem_cons_self)
    obtain ⟨q1, _⟩ := lessK_mem hl hk.2
    obtain ⟨y, ey, y0, y1⟩ := mnU_all g ok hs q1
    have hg : 1 ≤ ns.getD k 0 ∧ ns.getD k 0 ≤ 9 := by
      rw [List.getD_eq_getElem?_getD, List.getElem?_eq_getElem hk.1]
      exact g.2.2 _ (List.getElem_mem hk.1)
    refine ⟨z + ns.getD k 0 * y, ?_, ?_, ?_⟩
    · rw [List.map_cons, List.sum_cons, ey, Rat.intCast_add, Rat.intCast_mul]
      have e' : (c : Rat) + ((ns.getD k 0 : Rat) * ((y : Rat) / (pP ns fin (allL needs) : Rat)) + (ks.map fun k => (ns.getD k 0 : Rat) * mnU ns c fin (lessK l k)).sum) = ((c : Rat) + (ks.map fun k => (ns.getD k 0 : Rat) * mnU ns c fin (lessK l k)).sum) + (ns.getD k 0 : Rat) * ((y : Rat) / (pP ns fin (allL needs) : Rat)) := by grind
      rw [e', e]; grind
    · have := Int.mul_nonneg (show 0 ≤ ns.getD k 0 by omega) y0
      omega
    · have h1 : ns.getD k 0 * y ≤ 9 * (680 * pP ns fin (allL needs)) := Int.mul_le_mul hg.2 y1 y0 (by decide)
      rw [List.length_cons]
      have e2 : (45 + 6120 * (((ks.length + 1 : Nat)) : Int)) * pP ns fin (allL needs) = (45 + 6120 * (ks.length : Int)) * pP ns fin (allL needs) + 6120 * pP ns fin (allL needs) := by
        have : (((ks.length + 1 : Nat)) : Int) = (ks.length : Int) + 1 := by omega
        rw [this]; grind
      rw [e2]; omega
theorem part_sz3 (g : Good ns) (ok : FinOk ns c fin needs) (hp : (allL needs).length ≤ 243) (hs : ∀ l ∈ allL needs, l.sum ≤ 15) {l : List Int} (hl : l ∈ allL needs) {ks : List Nat} (hk : ∀ k ∈ ks, k ∈ ndK ns l) (h5 : ks.length ≤ 5) : Sz 1400 ((c : Rat) + (ks.map fun k => (ns.getD k 0 : Rat) * mnU ns c fin (lessK l k)).sum) := by
  obtain ⟨z, e, z0, z1⟩ := part_int g ok hs hl ks hk
  obtain ⟨p0, p1⟩ := pP_lt g ok hp
  rw [e]
  have hbig : (40000 : Int) * 45 ^ 243 < 2 ^ 1400 := by decide +kernel
  have z2 : z ≤ 40000 * pP ns fin (allL needs) := Int.le_trans z1 (Int.mul_le_mul_of_nonneg_right (by omega) (by omega))
  refine sz_div p0 ?_ ?_
  · have : z < 2 ^ 1400 := by omega
    omega
  · have : pP ns fin (allL needs) < 2 ^ 1400 := by omega
    omega
end
end KV

namespace KV
open PySem PySem.Spec PyProof.Rows L2 KGX
/-! ### x.append(y.pop(i)) -/
def sAppPop (i j : Nat) (f : EW) : SW := fun ρ N _ => ∃ xs ys, ρ[i]? = some (some (.ow (.lst xs))) ∧ ρ[j]? = some (some (.ow (.lst ys))) ∧ i ≠ j ∧ xs.length < 1000000 ∧ ys.length < 1000000 ∧
  f ρ fun u => ∃ n k d, u = .int n ∧ ixN ys.length n = some k ∧ ys[k]? = some d ∧ N ((ρ.set j (some (.ow (.lst (ys.eraseIdx k))))).set i (some (.ow (.lst (xs ++ [d])))))
theorem Reps.erase {K : PySem.W.Frag} {F : Hp} : ∀ {xs : List V} {ds : List PV} (k : Nat), Reps K F xs ds → Reps K F (xs.eraseIdx k) (ds.eraseIdx k)
  | [], [], _, h => h
  | _ :: _, _ :: _, 0, h => by rw [Reps] at h; exact h.2
  | _ :: _, _ :: _, k + 1, h => by rw [Reps] at h; exact Reps.cons h.1 (Reps.erase k h.2)
  | [], _ :: _, _, h => by rw [Reps] at h; exact h.elim
  | _ :: _, [], _, h => by rw [Reps] at h; exact h.elim
section
variable {m : Bool} {X : Cx} {e : Expr} {st : Stmt} {pos : Pos} {f : EW}
theorem qs_appPop {i j : Nat} (h : PE X e (tE X.K f) → PS X st (tDrop (tBM X.K "list" rAppend (tVar i) (tCons (tBM X.K "list" rPopAt (tVar j) (tCons (tE X.K f) tNil)) tNil)))) (he : PP X e f) : QS X m st (sAppPop i j f) := PS.weak (h he) fun D σ H ⟨B0, F0, H0, F, ρ, N, R, w, ⟨xs, ys, ei, ej, hij, hx, hy, p⟩, q, r⟩ => by
  obtain ⟨x, e1, a, o, rfl, a1, a2, a3, a4⟩ := w.sl i _ ei
  obtain ⟨y, e2, b, u, rfl, b1, b2, b3, b4⟩ := w.sl j _ ej
  have nab : a ≠ b := fun z => by subst z; exact w.dist i j _ _ a hij ei ej rfl rfl e1 e2
  cases o with
  | lst us =>
    cases u with
    | lst ws =>
      refine ⟨_, e1, .inl ⟨rfl, us, .inl (.inl a3)⟩, _, e2, .inl ⟨rfl, ws, .inl (.inl b3)⟩, _, _, _, _, w.x, p, fun v z F' H' ⟨n, k, d, ev, hk, hd, pv⟩ ex rz => ?_⟩
      subst ev
      rw [Rep] at rz
      subst rz
      have w1 := w.back ex
      obtain ⟨x', f1, a', o', ea, c1, c2, c3, c4⟩ := w1.sl i _ ei
      rw [e1] at f1; cases f1; cases ea
      obtain ⟨y', f2, b', u', eb, d1, d2, d3, d4⟩ := w1.sl j _ ej
      rw [e2] at f2; cases f2; cases eb
      cases o' with
      | lst us' =>
        cases u' with
        | lst ws' =>
          have wl : ws'.length = ys.length := Reps.len d4
          obtain ⟨vy, hvy, rvy⟩ := Reps.at d4 hd
          obtain ⟨s1, s2, s3, s4⟩ := ixN_seq hk
          refine ⟨b, ws', n, k, vy, rfl, rfl, d3, by omega, by omega, by rw [wl]; exact s1, hvy, ?_⟩
          have w2 := w1.write ej e2 (o' := .lst (ws'.eraseIdx k)) (v' := .lst (ys.eraseIdx k)) (Reps.erase k d4)
          have ei2 : (ρ.set j (some (.ow (.lst (ys.eraseIdx k)))))[i]? = some (some (.ow (.lst xs))) := by rw [List.getElem?_set_ne (Ne.symm hij)]; exact ei
          obtain ⟨x2, g1, a2', o2, ea2, k1, k2, k3, k4⟩ := w2.sl i _ ei2
          rw [e1] at g1; cases g1; cases ea2
          cases o2 with
          | lst us2 => exact ⟨a, us2, vy, rfl, rfl, k3, line_lt (by rw [Reps.len k4]; exact hx), q _ _ _ _ pv (w.sc ex) (w2.write ei2 e1 (o' := .lst (us2 ++ [vy])) (Reps.snoc k4 rvy))⟩
          | _ => exact k4.elim
        | _ => exact d4.elim
      | _ => exact c4.elim
    | _ => exact b4.elim
  | _ => exact a4.elim
end
/-- a list of numbers is not empty -/
theorem ne_lints {S T : List Int} {k : PV → Prop} (q : k (.bl (!decide (S = T)))) : mNe (.lst (S.map .int)) (.lst (T.map .int)) k := by
  show oEqD true _ _ k
  refine ⟨.list (S.map PyData.int), .list (T.map PyData.int), by rw [dat, dats_ints]; rfl, by rw [dat, dats_ints]; rfl, shaped_lints S, shaped_lints T, ?_⟩
  rw [show PyData.eqv (.list (S.map PyData.int)) (.list (T.map PyData.int)) = decide (S = T) from eqvAll_ints S T]
  exact q
end KV

namespace KV
open PySem PySem.Spec PyProof.Rows L2 KGX
/-! ### x = x + e, x owned -/
def sCatO (i : Nat) (g : EW) : SW := fun ρ N _ => ∃ xs, ρ[i]? = some (some (.ow (.lst xs))) ∧ g (hide ρ) fun w => ∃ ys, w = .lst ys ∧ xs.length + ys.length ≤ 1000000 ∧ N (ρ.set i (some (.ow (.lst (xs ++ ys)))))
section
variable {m : Bool} {X : Cx} {e : Expr} {st : Stmt} {pos : Pos} {g : EW}
theorem qs_catO {i : Nat} (h : PE X e (tE X.K g) → PS X st (tAsg (tOp rCat (tVar i) (tE X.K g)) (gName i))) (he : PP X e g) : QS X m st (sCatO i g) := PS.weak (h he) fun D σ H ⟨B0, F0, H0, F, ρ, N, R, w, ⟨xs, ei, p⟩, q, r⟩ => by
  obtain ⟨x, e1, a, o, rfl, a1, a2, a3, a4⟩ := w.sl i _ ei
  refine ⟨_, e1, _, F, _, _, w.h, p, fun v y F' H' ⟨ys, ev, hl, pv⟩ ex ry => ?_⟩
  subst ev
  have w1 := w.backH ex
  obtain ⟨x', f1, a', o', ea, c1, c2, c3, c4⟩ := w1.sl i _ ei
  rw [e1] at f1; cases f1; cases ea
  rw [Rep] at ry
  obtain ⟨b, ws, rfl, hb, rw2⟩ := ry
  cases o' with
  | lst us =>
    refine ⟨a, b, us, ws, rfl, rfl, c3, w1.ext.fh _ _ hb, le_line (by rw [Reps.len c4, rw2.len]; exact hl), fun p hp => ?_⟩
    have ex2 : Ext (Bs B0 σ ρ) F' H' F' (upd H' p (.lst (us ++ ws))) := .own w1.ext.fh (fun a b => ((w1.h).bx a b).2) hp
    have w2 := w1.backH ex2
    exact q _ _ _ _ pv ex.ff (w2.setO i (c := .ow (.lst (xs ++ ys))) rfl ⟨p, _, rfl, none_of w1.ext.fh hp, w1.h0 hp, upd_same, Reps.app c4 rw2⟩ fun j d _ e o => w1.noOwner hp j d e o)
  | _ => exact c4.elim
end
/-! ### data with dicts in it, shown -/
mutual
def datQ : PV → Option PyData
  | .non => some .none
  | .bl b => some (.bool b)
  | .int i => some (.int i)
  | .str x => some (.str x)
  | .tup xs => (datsQ xs).map .tuple
  | .cst xs => (datsQ xs).map .tuple
  | .lst _ => none
  | .dic kvs => (datsD kvs).map .dict
  | .dks _ => none
  | .dmx _ => none
  | .scr _ => none
  | .exc _ _ => none
def datsQ : List PV → Option (List PyData)
  | [] => some []
  | d :: ds => (datQ d).bind fun x => (datsQ ds).map fun xs => x :: xs
def datsD : List (PV × PV) → Option (List (PyData × PyData))
  | [] => some []
  | (k, d) :: ds => (datQ k).bind fun y => (datQ d).bind fun x => (datsD ds).map fun xs => (y, x) :: xs
end
section
variable {X : Cx} {pins : List (Addr × Obj)} {σ : L2.St} {F H : Hp} {s : Shared}
mutual
theorem Rep.reads (I : Inv X pins σ H s) (sm : Same F H) : ∀ {x : V} (v : PV) {d : PyData} {u : Value}, Rep X.K F x v → datQ v = some d → RelV x u → ∃ as, Reads s.heap u d as ∧ sysModules ∉ as
  | x, .non, d, u, h, e, r => by
    rw [Rep] at h; rw [datQ] at e; cases e; subst h; cases (show u = Value.none from r)
    exact ⟨_, .none, fun z => nomatch z⟩
  | x, .bl b, d, u, h, e, r => by
    rw [Rep] at h; rw [datQ] at e; cases e; subst h; cases (show u = Value.bool b from r)
    exact ⟨_, .bool b, fun z => nomatch z⟩
  | x, .int i, d, u, h, e, r => by
    rw [Rep] at h; rw [datQ] at e; cases e; subst h; obtain ⟨t, rfl⟩ := (show ∃ t, u = Value.int i t from r)
    exact ⟨_, .int i t, fun z => nomatch z⟩
  | x, .str i, d, u, h, e, r => by
    rw [Rep] at h; rw [datQ] at e; cases e; subst h; obtain ⟨t, rfl⟩ := (show ∃ t, u = Value.str i t from r)
    exact ⟨_, .str i t, fun z => nomatch z⟩
  | x, .tup ds, d, u, h, e, r => by
    rw [Rep] at h; rw [datQ] at e; obtain ⟨a, xs, rfl, q, rr⟩ := h
    obtain ⟨es, e1, rfl⟩ := Option.map_eq_some_iff.mp e
    cases (show u = Value.ref a from r)
    obtain ⟨its, rv, ⟨o, ho, hc, n, hd⟩, _⟩ := I.tuple (q.sq sm)
    obtain ⟨as, hr, hn⟩ := Reps.reads I sm ds rr e1 rv
    exact ⟨_, .tuple ho hc hd (by simpa using hr), hn⟩
  | x, .cst ds, d, u, h, e, r => by
    rw [Rep] at h; rw [datQ] at e; obtain ⟨a, xs, rfl, q, rr⟩ := h
    obtain ⟨es, e1, rfl⟩ := Option.map_eq_some_iff.mp e
    cases (show u = Value.ref a from r)
    obtain ⟨its, rv, ⟨o, ho, hc, n, hd⟩, _⟩ := I.tuple (q.elim (fun z => .inl (Rd.mono sm z)) .inr)
    obtain ⟨as, hr, hn⟩ := Reps.reads I sm ds rr e1 rv
    exact ⟨_, .tuple ho hc hd (by simpa using hr), hn⟩
  | x, .lst ds, d, u, h, e, r => by rw [datQ] at e; exact nomatch e
  | x, .dic ds, d, u, h, e, r => by
    have h' := h
    rw [Rep] at h; rw [datQ] at e; obtain ⟨a, xs, ep, rfl, q, dk, rr⟩ := h
    obtain ⟨es, e1, rfl⟩ := Option.map_eq_some_iff.mp e
    cases (show u = Value.ref a from r)
    obtain ⟨o, ens, ho, hx, hd, he⟩ := (show ObjOk X.prog X.w H s.heap a (.ext (RawD a xs ep)) from I.hok a _ (sm _ _ q)).1
    obtain ⟨as, bs, r1, r2, n1, n2⟩ := RepX.reads I sm (w := X.w) ds rr e1
    refine ⟨_, .dict ho hx.1 hd (by rw [he X.w]; exact r1) (by rw [he X.w]; exact r2), fun z => ?_⟩
    rcases List.mem_append.mp z with z | z
    · rcases List.mem_cons.mp z with z | z
      · have := dk.1
        rw [← z] at this
        simp at this
      · exact n1 z
    · exact n2 z
  | x, .dks ds, d, u, h, e, r => by rw [datQ] at e; exact nomatch e
  | x, .dmx ds, d, u, h, e, r => by rw [datQ] at e; exact nomatch e
  | x, .exc _ _, d, u, h, e, r => by rw [datQ] at e; exact nomatch e
  | x, .scr ds, d, u, h, e, r => by rw [datQ] at e; exact nomatch e
theorem Reps.reads (I : Inv X pins σ H s) (sm : Same F H) : ∀ {xs : List V} (vs : List PV) {ds : List PyData} {us : List Value}, Reps X.K F xs vs → datsQ vs = some ds → Vals xs us → ∃ as, ReadsAll s.heap us ds as ∧ sysModules ∉ as
  | [], [], ds, us, h, e, r => by rw [datsQ] at e; cases e; cases r; exact ⟨_, .nil, fun z => nomatch z⟩
  | x :: xs, v :: vs, ds, us, h, e, r => by
    rw [Reps] at h; rw [datsQ] at e
    obtain ⟨d, e1, e⟩ := Option.bind_eq_some_iff.mp e
    obtain ⟨es, e2, rfl⟩ := Option.map_eq_some_iff.mp e
    cases r with
    | cons r1 r2 =>
      obtain ⟨as, q1, n1⟩ := Rep.reads I sm v h.1 e1 r1
      obtain ⟨bs, q2, n2⟩ := Reps.reads I sm vs h.2 e2 r2
      exact ⟨_, .cons q1 q2, fun z => (List.mem_append.mp z).elim n1 n2⟩
  | [], _ :: _, _, _, h, _, _ => by rw [Reps] at h; exact h.elim
  | _ :: _, [], _, _, h, _, _ => by rw [Reps] at h; exact h.elim
theorem RepX.reads (I : Inv X pins σ H s) (sm : Same F H) {w : World} : ∀ {xs : List Ent} (vs : List (PV × PV)) {ds : List (PyData × PyData)}, RepX X.K F xs vs → datsD vs = some ds →
    ∃ as bs, ReadsAll s.heap ((xs.map (entK w)).map (·.key)) (ds.map (·.1)) as ∧ ReadsAll s.heap ((xs.map (entK w)).map (·.val)) (ds.map (·.2)) bs ∧ sysModules ∉ as ∧ sysModules ∉ bs
  | [], [], ds, h, e => by rw [datsD] at e; cases e; exact ⟨_, _, .nil, .nil, (fun z => nomatch z), fun z => nomatch z⟩
  | x :: xs, (k, v) :: vs, ds, h, e => by
    rw [RepX] at h; rw [datsD] at e
    obtain ⟨y, e1, e⟩ := Option.bind_eq_some_iff.mp e
    obtain ⟨d, e2, e⟩ := Option.bind_eq_some_iff.mp e
    obtain ⟨es, e3, rfl⟩ := Option.map_eq_some_iff.mp e
    obtain ⟨⟨h1, h2, z, h3, h4⟩, h5⟩ := h
    obtain ⟨as, q1, n1⟩ := Rep.reads I sm k h2 e1 rfl
    obtain ⟨bs, q2, n2⟩ := Rep.reads I sm v h4 e2 h3
    obtain ⟨cs, ds', r1, r2, m1, m2⟩ := RepX.reads I sm (w := w) vs h5 e3
    exact ⟨_, _, .cons q1 r1, .cons q2 r2, fun z => (List.mem_append.mp z).elim n1 m1, fun z => (List.mem_append.mp z).elim n2 m2⟩
  | [], _ :: _, _, h, _ => by rw [RepX] at h; exact h.elim
  | _ :: _, [], _, h, _ => by rw [RepX] at h; exact h.elim
end
end
/-- it can be shown -/
def ShowQ (d : PyData) : Prop := d.showable = true ∧ d.depth ≤ 20 ∧ d.shown.length ≤ sizeLine
def cReprQ : CW := fun vs k => ∃ v d, vs = [v] ∧ ((dat v = some d ∧ KG.ShowOk d) ∨ (datQ v = some d ∧ ShowQ d)) ∧ k (.str d.shown)
section
variable {X : Cx} {K : PySem.W.Frag}
def rReprV (K : PySem.W.Frag) : List V → Hp → VK → Prop := fun xs H Q => ∃ x F v d, xs = [x] ∧ Same F H ∧ Rep K F x v ∧ datQ v = some d ∧ ShowQ d ∧ Q (.str d.shown) H
theorem call_reprV {k : Nat} (gd : X.A.guards = some []) (hr : Room k X.A) : CallR X (.builtin "repr") (rReprV X.K) := by
  intro pins s σ H xs us Q I r h
  obtain ⟨x, F, v, d, rfl, sm, rv, hd, ⟨hs, hz, hl⟩, q⟩ := h
  obtain ⟨u, rfl, ru⟩ := vals1 r
  have un := hr.un
  obtain ⟨as, rd, hn⟩ := Rep.reads I sm v rv hd ru
  have big : ∀ a, u = .ref a → wpAny (model X.prog X.w) X.A (call (.builtin "repr") [.ref a]) (EP X pins σ Q) X.xe s := fun a ea => by
    subst ea
    exact repr_of_reads' rd hs (fun _ => hn) gd (by omega) (fun _ _ z => z) (fun h' u tk hk => ⟨.str _, H, I.kept hk, ⟨_, rfl⟩, q⟩) hl
  cases rd with
  | none => exact PySem.P.repr_of_none ⟨.str _, H, I.tok _, ⟨_, rfl⟩, q⟩
  | bool b => exact PySem.P.repr_of_bool ⟨.str _, H, I.tok _, ⟨_, rfl⟩, q⟩
  | int i t => exact PySem.P.repr_of_int (of_decide_eq_true hs) ⟨.str _, H, I.tok _, ⟨_, rfl⟩, q⟩
  | str y t => exact PySem.P.repr_of_str ⟨.str _, H, I.tok _, ⟨_, rfl⟩, q⟩ hl
  | list _ _ _ _ => exact big _ rfl
  | tuple _ _ _ _ => exact big _ rfl
  | dict _ _ _ _ _ => exact big _ rfl
def rRepW (K : PySem.W.Frag) : List V → Hp → VK → Prop := fun xs H Q => KG.rRepr K xs H Q ∨ rReprV K xs H Q
theorem call_repW {k : Nat} (gd : X.A.guards = some []) (hr : Room k X.A) : CallR X (.builtin "repr") (rRepW X.K) := fun pins s σ H xs us Q I r h => h.elim (fun h => KG.call_repr gd hr pins s σ H xs us Q I r h) (fun h => call_reprV gd hr pins s σ H xs us Q I r h)
theorem cv_reprQ : CallV K (rRepW K) cReprQ := by
  rintro xs vs B F H P Q s bx r ⟨v, d, rfl, ⟨e, sh⟩ | ⟨e, sh⟩, p⟩ q
  · obtain h := cv_repr (K := K) xs [v] B F H P Q s bx r ⟨v, d, rfl, e, sh, p⟩ q
    exact .inl h
  · obtain ⟨x, rfl, rx⟩ := r.one
    exact .inr ⟨x, F, v, d, rfl, s, rx, e, sh, q _ _ F H p (.refl s fun a h => (bx a h).2) (by rw [Rep])⟩
end
end KV

namespace KV
open PySem PySem.Spec PyProof.Rows L2 KGX
/-! ### what can be shown -/
def CanShow (v : PV) : Prop := ∃ d, (dat v = some d ∧ KG.ShowOk d) ∨ (datQ v = some d ∧ ShowQ d)
def El (v : PV) : Prop := ∃ d, dat v = some d ∧ Sh 1921 1 d
def ElQ (v : PV) : Prop := ∃ d, datQ v = some d ∧ Small 1921 1 d
theorem el_int {i : Int} (h : i.natAbs < 2 ^ 100) : El (.int i) := ⟨_, rfl, (shI (log_lt100 h)).mono (Nat.le_refl _) (by decide)⟩
theorem el_non : El .non := ⟨.none, rfl, rfl, rfl, by decide, by decide⟩
theorem el_bl (b : Bool) : El (.bl b) := ⟨.bool b, rfl, by cases b <;> exact ⟨rfl, rfl, by decide, by decide⟩⟩
theorem el_l0 : El (.lst [.int 0]) := ⟨.list [.int 0], rfl, by decide +kernel, rfl, by decide, by decide +kernel⟩
theorem elQ_int {i : Int} (h : i.natAbs < 2 ^ 100) : ElQ (.int i) := ⟨_, rfl, (small_int h (by decide) (by decide)).mono (by decide) (by decide)⟩
theorem elQ_dic : ElQ (.dic []) := ⟨.dict [], rfl, by decide +kernel, by decide +kernel, by decide⟩
theorem els : ∀ {xs : List PV}, (∀ v ∈ xs, El v) → ∃ ds, dats xs = some ds ∧ ds.length = xs.length ∧ ∀ d ∈ ds, Sh 1921 1 d
  | [], _ => ⟨[], by rw [dats], rfl, fun _ h => nomatch h⟩
  | v :: vs, h => by
    obtain ⟨d, e1, s1⟩ := h v List.mem_cons_self
    obtain ⟨ds, e2, l2, s2⟩ := els (xs := vs) fun x hx => h x (List.mem_cons_of_mem _ hx)
    refine ⟨d :: ds, by rw [dats, e1, e2]; rfl, by rw [List.length_cons, List.length_cons, l2], fun x hx => ?_⟩
    rcases List.mem_cons.mp hx with rfl | hx
    · exact s1
    · exact s2 x hx
theorem elsQ : ∀ {xs : List PV}, (∀ v ∈ xs, ElQ v) → ∃ ds, datsQ xs = some ds ∧ ds.length = xs.length ∧ ∀ d ∈ ds, Small 1921 1 d
  | [], _ => ⟨[], by rw [datsQ], rfl, fun _ h => nomatch h⟩
  | v :: vs, h => by
    obtain ⟨d, e1, s1⟩ := h v List.mem_cons_self
    obtain ⟨ds, e2, l2, s2⟩ := elsQ (xs := vs) fun x hx => h x (List.mem_cons_of_mem _ hx)
    refine ⟨d :: ds, by rw [datsQ, e1, e2]; rfl, by rw [List.length_cons, List.length_cons, l2], fun x hx => ?_⟩
    rcases List.mem_cons.mp hx with rfl | hx
    · exact s1
    · exact s2 x hx
theorem show_el {v : PV} (h : El v) : CanShow v := by
  obtain ⟨d, e, s⟩ := h
  exact ⟨d, .inl ⟨e, s.ok (by decide) (by decide)⟩⟩
theorem show_tup {xs : List PV} (h : ∀ v ∈ xs, El v) (hl : xs.length ≤ 1000) : CanShow (.tup xs) := by
  obtain ⟨ds, e, l, s⟩ := els h
  exact ⟨.tuple ds, .inl ⟨by rw [dat, e]; rfl, (shT s).ok (by decide) (by omega)⟩⟩
theorem show_lst {xs : List PV} (h : ∀ v ∈ xs, El v) (hl : xs.length ≤ 1000) : CanShow (.lst xs) := by
  obtain ⟨ds, e, l, s⟩ := els h
  exact ⟨.list ds, .inl ⟨by rw [dat, e]; rfl, (shL s).ok (by decide) (by omega)⟩⟩
theorem ShowQ.of {m k : Nat} {d : PyData} (h : Small m k d) (hm : m ≤ 16000000) (hk : k ≤ 20) : ShowQ d := ⟨h.1, Nat.le_trans h.2.2 hk, Nat.le_trans h.2.1 (Nat.le_trans hm (by decide))⟩
theorem show_elQ {v : PV} (h : ElQ v) : CanShow v := by
  obtain ⟨d, e, s⟩ := h
  exact ⟨d, .inr ⟨e, .of s (by decide) (by decide)⟩⟩
theorem show_tupQ {xs : List PV} (h : ∀ v ∈ xs, ElQ v) (hl : xs.length ≤ 1000) : CanShow (.tup xs) := by
  obtain ⟨ds, e, l, s⟩ := elsQ h
  exact ⟨.tuple ds, .inr ⟨by rw [datQ, e]; rfl, .of (small_tup (n := 1000) (by omega) s) (by decide) (by decide)⟩⟩
theorem el_ints {S : List Int} (h : ∀ x ∈ S, x.natAbs < 2 ^ 100) : ∀ v ∈ S.map PV.int, El v := fun v hv => by obtain ⟨x, hx, rfl⟩ := List.mem_map.mp hv; exact el_int (h x hx)
theorem elQ_ints {S : List Int} (h : ∀ x ∈ S, x.natAbs < 2 ^ 100) : ∀ v ∈ S.map PV.int, ElQ v := fun v hv => by obtain ⟨x, hx, rfl⟩ := List.mem_map.mp hv; exact elQ_int (h x hx)
theorem el_strs {x : Str} (h : El (.str x)) : CanShow (.str x) := show_el h
theorem el_s0 : El (.str "0") := ⟨.str "0", rfl, by decide +kernel, rfl, by decide, by decide +kernel⟩
/-- cut off: the last -/
theorem cut_last (xs : List PV) : cutP xs none (some (-1)) = xs.take (xs.length - 1) := by
  unfold cutP
  show (xs.drop 0).take (HT.sIx xs.length xs.length (some (-1)) - 0) = _
  rw [List.drop_zero, Nat.sub_zero]
  congr 1
  unfold HT.sIx
  simp
  omega
end KV

namespace KV
open PySem PySem.Spec PyProof.Rows L2 KGX
/-! ### papers by who is left -/
theorem lookT {f : List Int → PV} {ls : List (List Int)} {l : List Int} (h : l ∈ ls) : lookD (ls.map fun l => (tupI l, f l)) (nK l) = some (f l) := by
  induction ls with
  | nil => exact nomatch h
  | cons a ls ih =>
    rw [List.map_cons, lookD_cons, keyOf_tupI]
    by_cases e : a = l
    · subst e; rw [if_pos rfl]
    · rw [if_neg (fun z => e (nK_inj (Option.some.inj z)))]
      rcases List.mem_cons.mp h with rfl | h
      · exact (e rfl).elim
      · exact ih h
theorem lookN {f : List Int → PV} {ls : List (List Int)} {l : List Int} (h : l ∉ ls) : lookD (ls.map fun l => (tupI l, f l)) (nK l) = none := by
  cases e : lookD (ls.map fun l => (tupI l, f l)) (nK l) with
  | none => rfl
  | some v =>
    obtain ⟨kv, h1, h2, _⟩ := lookD_mem e
    obtain ⟨m, hm, rfl⟩ := List.mem_map.mp h1
    rw [keyOf_tupI] at h2
    rw [nK_inj (Option.some.inj h2)] at hm
    exact (h hm).elim
theorem putN {f : List Int → PV} {ls : List (List Int)} {l : List Int} (h : l ∉ ls) : putD (ls.map fun l => (tupI l, f l)) (tupI l) (nK l) (f l) = (ls ++ [l]).map fun l => (tupI l, f l) := by
  unfold putD
  rw [lookN h, if_neg (by simp), List.map_append]; rfl
theorem lcOther {gw : GW} {ρ : Rho} {S : List Int} {kd : Int} {k : PV → Prop} {t : TW} {f : EW} (hn : S.length ≤ 1000) (h : ∀ d : Int, ∀ (B : Prop) (M : PV → Prop), (d ≠ kd → M (.int d)) → (d = kd → B) → gw (.int d) ρ fun ρ1 => t ρ1 fun b => if b = true then f ρ1 M else B) (q : k (.lst ((S.filter fun j => decide (j ≠ kd)).map .int))) :
    lcW gw t f ρ k (S.map .int) [] := by
  refine lc_filter (fun v => match v with | .int j => decide (j ≠ kd) | _ => false) (fun v => v) (fun d hd A B M hM hB => ?_) (by rw [List.length_map]; show 0 + S.length ≤ _; omega) ?_
  · obtain ⟨j, hj, rfl⟩ := List.mem_map.mp hd
    exact h j B M (fun z => hM (decide_eq_true z)) (fun z => hB (decide_eq_false (fun y => y z)))
  · rw [List.nil_append, List.map_id', List.filter_map]
    exact q
theorem sumRsz {f : Int → Rat} {c : Int} {s : Nat} (hc : c.natAbs < 2 ^ 20) : ∀ (S : List Int), (∀ k ∈ S, Sz s (f k)) → Sz (S.length * (s + 1) + 20) ((c : Rat) + (S.map f).sum)
  | [], _ => by rw [List.map_nil, List.sum_nil, Rat.add_zero]; exact (sz_int hc (by decide)).mono (by simp)
  | k :: S, h => by
    have ih := sumRsz hc S fun x hx => h x (List.mem_cons_of_mem _ hx)
    have e : (c : Rat) + ((k :: S).map f).sum = (c : Rat) + (S.map f).sum + f k := by rw [List.map_cons, List.sum_cons]; grind
    rw [e]
    refine (ih.add (h k List.mem_cons_self)).mono ?_
    rw [List.length_cons, Nat.add_mul]; omega
/-- by those who are in it, with signs -/
theorem fV_all (ns : List Int) (n : Nat) : ((allSub (rg n)).map fun S : List Int => if S.length % 2 = 1 then (ns.sum : Rat) / ((pick ns S).sum : Rat) else if S = [] then 0 else -((ns.sum : Rat) / ((pick ns S).sum : Rat))).sum = fV ns (rg n) := by
  have h := sgn_sum (per (ns.sum : Rat)) ns n (rg n) 0 (rg_len n)
  unfold fV
  rw [← h]
  congr 1
  refine List.map_congr_left fun S _ => ?_
  unfold sgn per
  rw [wts_sum, Rat.zero_add]
  split
  · rfl
  · split
    · rename_i e
      subst e
      show (0 : Rat) = - ((ns.sum : Rat) / ((0 : Int) : Rat))
      rw [show ((0 : Int) : Rat) = 0 from rfl, Rat.div_def, Rat.inv_zero, Rat.mul_zero]; rfl
    · rfl
end KV

namespace KV
open PySem PySem.Spec PyProof.Rows L2 KGX
/-! ### fractions, alike or not -/
theorem eqvF (x y : Rat) : PyData.eqv (frD x) (frD y) = decide (x = y) := by
  by_cases h : x = y
  · rw [decide_eq_true h]; exact fr_ne h
  · rw [decide_eq_false h]
    have e := eqv_ints [x.num, (x.den : Int)] [y.num, (y.den : Int)]
    refine Eq.trans e (decide_eq_false fun z => h ?_)
    injection z with z1 z2
    injection z2 with z2 _
    exact Rat.ext z1 (by omega)
theorem neF {v w : PV} {x y : Rat} {k : PV → Prop} (hv : IsFr v x) (hw : IsFr w y) (q : k (.bl (!decide (x = y)))) : mNe v w k := by
  have go : oEqD true v w k := ⟨_, _, datFr hv, datFr hw, shaped_fr x, shaped_fr y, by rw [if_pos rfl, eqvF]; exact q⟩
  rcases hv with rfl | rfl <;> rcases hw with rfl | rfl <;> exact go
theorem eqF {v w : PV} {x y : Rat} {k : PV → Prop} (hv : IsFr v x) (hw : IsFr w y) (q : k (.bl (decide (x = y)))) : mEq v w k := by
  have go : oEqD false v w k := ⟨_, _, datFr hv, datFr hw, shaped_fr x, shaped_fr y, by rw [if_neg (by decide), eqvF]; exact q⟩
  rcases hv with rfl | rfl <;> rcases hw with rfl | rfl <;> exact go
theorem eqvFs : ∀ xs : List Rat, PyData.eqvAll (xs.map frD) (xs.map frD) = true
  | [] => rfl
  | x :: xs => by
    show (PyData.eqv (frD x) (frD x) && PyData.eqvAll (xs.map frD) (xs.map frD)) = true
    rw [eqvF, eqvFs xs, decide_eq_true rfl]; rfl
theorem layFs : ∀ xs : List Rat, PyData.canLayAll0 (xs.map frD) = true ∧ PyData.depthAll (xs.map frD) ≤ 1
  | [] => ⟨rfl, Nat.zero_le _⟩
  | x :: xs => by
    obtain ⟨h1, h2⟩ := layFs xs
    have h3 : PyData.canLay0 (frD x) = true := rfl
    refine ⟨?_, Nat.max_le.mpr ⟨Nat.le_refl _, h2⟩⟩
    show (PyData.canLay0 (frD x) && PyData.canLayAll0 (xs.map frD)) = true
    rw [h3, h1]; rfl
theorem shapedFs (xs : List Rat) : SeqAt.shaped (.tuple (xs.map frD)) = true := by
  obtain ⟨h1, h2⟩ := layFs xs
  show (PyData.canLayAll0 (xs.map frD) && decide (PyData.depthAll (xs.map frD) + 1 ≤ 64)) = true
  rw [h1, decide_eq_true (by omega)]; rfl
theorem neFT {vs ws : List PV} {xs : List Rat} {k : PV → Prop} (hv : Paired IsFr vs xs) (hw : Paired IsFr ws xs) (q : k (.bl false)) : mNe (.tup vs) (.tup ws) k := by
  show oEqD true _ _ k
  refine ⟨.tuple (xs.map frD), .tuple (xs.map frD), by rw [dat, datsFr hv]; rfl, by rw [dat, datsFr hw]; rfl, shapedFs xs, shapedFs xs, ?_⟩
  rw [if_pos rfl, show PyData.eqv (.tuple (xs.map frD)) (.tuple (xs.map frD)) = true from eqvFs xs]; exact q
/-! ### sums -/
theorem sumR_lt {α : Type} {f h : α → Rat} : ∀ {l : List α}, l ≠ [] → (∀ x ∈ l, f x < h x) → (l.map f).sum < (l.map h).sum
  | [], z, _ => (z rfl).elim
  | [x], _, p => by
    have := p x List.mem_cons_self
    show f x + 0 < h x + 0
    grind
  | x :: y :: l, _, p => by
    have a := p x List.mem_cons_self
    have b := sumR_lt (l := y :: l) (by simp) fun z hz => p z (List.mem_cons_of_mem _ hz)
    rw [List.map_cons, List.sum_cons, List.map_cons, List.sum_cons]
    grind
theorem sumR_le {α : Type} {f h : α → Rat} : ∀ {l : List α}, (∀ x ∈ l, f x ≤ h x) → (l.map f).sum ≤ (l.map h).sum
  | [], _ => by show (0 : Rat) ≤ 0; grind
  | x :: l, p => by
    have a := p x List.mem_cons_self
    have b := sumR_le (l := l) fun z hz => p z (List.mem_cons_of_mem _ hz)
    rw [List.map_cons, List.sum_cons, List.map_cons, List.sum_cons]
    grind
theorem sumR_zero {α : Type} {f : α → Rat} : ∀ {l : List α}, (∀ x ∈ l, f x = 0) → (l.map f).sum = 0
  | [], _ => rfl
  | x :: l, p => by
    rw [List.map_cons, List.sum_cons, p x List.mem_cons_self, sumR_zero fun z hz => p z (List.mem_cons_of_mem _ hz)]; grind
theorem sumR_mulL {α : Type} (c : Rat) (f : α → Rat) : ∀ l : List α, (l.map fun x => c * f x).sum = c * (l.map f).sum
  | [] => by show (0 : Rat) = c * 0; grind
  | x :: l => by rw [List.map_cons, List.sum_cons, List.map_cons, List.sum_cons, sumR_mulL c f l]; grind
theorem sumR_flat {α β : Type} (f : β → Rat) (e : α → List β) : ∀ l : List α, ((l.flatMap e).map f).sum = (l.map fun x => ((e x).map f).sum).sum
  | [] => rfl
  | x :: l => by rw [List.flatMap_cons, List.map_append, sumR_app, sumR_flat f e l]; rfl
theorem castR_sum {α : Type} (f : α → Int) : ∀ l : List α, ((l.map fun x => (f x : Rat)).sum) = (((l.map f).sum : Int) : Rat)
  | [] => rfl
  | x :: l => by rw [List.map_cons, List.sum_cons, List.map_cons, List.sum_cons, castR_sum f l, Rat.intCast_add]
end KV

namespace KV
open PySem PySem.Spec PyProof.Rows L2 KGX
/-! ### x, y = a list -/
def gwLst (n : Nat) (gs : List PV → Rho → (Rho → Prop) → Prop) : GW := fun v ρ N => match v with
  | .lst xs => xs.length = n ∧ gs xs ρ N
  | _ => False
theorem gv_lst {K : PySem.W.Frag} {n : Nat} {gs : TGs} {gws : List PV → Rho → (Rho → Prop) → Prop} (h : GVs K gs gws) : GV K (gLst K n gs) (gwLst n gws) := fun x v B0 F0 H0 F H σ ρ N Q w r hp q => by
  cases v with
  | lst ds =>
    obtain ⟨hl, p⟩ := hp
    rw [Rep] at r
    obtain ⟨a, xs, rfl, sq, rs⟩ := r
    exact ⟨a, xs, rfl, .of (w.ext.fh _ _ sq), by rw [rs.len]; exact hl, h xs ds B0 F0 H0 F H σ ρ N Q w rs p q⟩
  | _ => exact hp.elim
end KV

namespace KV
open PySem PySem.Spec PyProof.Rows L2 KGX
section
variable {X : Cx} {o e : Expr} {pos apos cpos : Pos} {f g : EW}
/-! ### t.index(k), t a tuple of ints, k one of them -/
def tIdx (K : PySem.W.Frag) (to te : TE) : TE := fun σ H Q => to σ H fun x H1 => ∃ (a : Addr) (ns : List Int), x = .ref a ∧ STup H1 a (ns.map V.int) ∧ te σ H1 fun y H2 => ∃ k : Int, y = .int k ∧ k ∈ ns ∧ STup H2 a (ns.map V.int) ∧ Q (.int (ns.idxOf k : Nat)) H2
theorem pe_idx {to te : TE} (ho : PE X o to) (he : PE X e te) (m : M1 X o "index" apos e cpos) : PE X (.Call (.Attribute o "index" apos) [e] [] cpos) (tIdx X.K to te) := by
  refine ⟨fun pins s σ H Q I h => wpAny_Call_method m.base m.few m.line PySem.F.plainAttrs_tuple PySem.F.slot_tuple_index PySem.F.type_tuple_index (thn (ho.run pins s σ H _ I h) fun u s1 ⟨x, H1, I1, rx, a, ns, ex, st, q1⟩ => ?_)⟩
  subst ex; cases rx
  obtain ⟨ob, eo, hn⟩ := id st
  obtain ⟨g1, g2⟩ := (show ObjOk X.prog X.w H1 s1.heap a (.frz ob (.tup _)) from I1.hok a _ eo)
  obtain ⟨us, ru, ht, _⟩ := I1.tuple (st.sq (fun _ _ z => z) : SqT X.K H1 a _)
  refine ⟨ht.typeIs, fun b q => by cases q; exact ⟨ob, g1, hn⟩, ?_⟩
  rw [m.trees]
  refine Calls.callWith_builtin rfl (Calls.evalArgs_plain (Calls.spliced_cons (thn (he.run pins s1 σ H1 _ I1 q1) fun iv s2 ⟨y, H2, I2, ry, k, ey, hk, st2, q2⟩ => Calls.spliced_nil ?_)))
  subst ey
  obtain ⟨t, rfl⟩ := (show ∃ t, iv = Value.int k t from ry)
  obtain ⟨us2, ru2, ht2, _⟩ := I2.tuple (st2.sq (fun _ _ z => z) : SqT X.K H2 a _)
  exact PySem.SeqAt.tuple_index_ints (ns := ns) (show s2.heap.IsTuple a us2.toArray from ht2) (intsAre_of ru2) hk ⟨.int (ns.idxOf k : Nat), H2, I2.tok _, ⟨_, rfl⟩, q2⟩
def eIdx (f g : EW) : EW := fun ρ k => f ρ fun v => match v with
  | .tup xs => ∃ ns, intsOf xs = some ns ∧ g ρ (onI fun i => i ∈ ns ∧ k (.int (ns.idxOf i : Nat)))
  | _ => False
theorem pp_idx (ho : PP X o f) (he : PP X e g) (mm : M1 X o "index" apos e cpos) : PP X (.Call (.Attribute o "index" apos) [e] [] cpos) (eIdx f g) := PE.weak (pe_idx ho he mm) fun σ H Q ⟨B, F, ρ, P, w, p, q⟩ => by
  refine ⟨B, F, ρ, _, w, p, fun v x F1 H1 p1 e1 r1 => ?_⟩
  split at p1
  case h_2 => exact p1.elim
  obtain ⟨ns, hns, p1⟩ := p1
  have w1 := w.ext e1
  rw [Rep, intsOf_eq hns] at r1
  obtain ⟨a, us, rfl, ⟨ob, ea, hn⟩, ru⟩ := r1
  rw [ru.ints] at ea
  refine ⟨a, ns, rfl, ⟨ob, w1.fh _ _ ea, hn⟩, B, F1, ρ, _, w1, p1, fun u y F2 H2 p2 e2 r2 => ?_⟩
  obtain ⟨i, eu, hi, p3⟩ := onI_ex p2
  subst eu; rw [Rep] at r2
  exact ⟨i, r2, hi, ⟨ob, (w1.ext e2).fh _ _ (e2.ff _ _ ea), hn⟩, q _ _ F2 H2 p3 (e1.trans e2) (by rw [Rep])⟩
end
end KV

namespace KV
open PySem PySem.Spec PyProof.Rows L2 KGX
/-! ### a dict of one text and one number -/
def eDispS (x : Str) (i : Int) : EW := fun _ k => k (.dks [(.inr x, .int i)])
section
variable {X : Cx} {pos p1 p2 : Pos} {j1 j2 : Nat}
theorem pe_frz {e : Expr} {te : TE} (h : PE X e te) : PE X e (fun σ H Q => te σ H fun x H1 => ∃ d u, x = .ref d ∧ H1 d = some u ∧ Mut (some u) ∧ ∀ od, Q x (upd H1 d (.frz od u))) := by
  refine ⟨fun pins s σ H Q I q => thn (h.run pins s σ H _ I q) fun v s1 ⟨x, H1, I1, r1, d, u, ex, hd, mu, q1⟩ => ?_⟩
  obtain ⟨od, I2⟩ := I1.lock hd mu
  exact ⟨x, _, I2, r1, q1 od⟩
theorem pf_dispS {x : Str} {i : Int} : PF X (.Dict [some (.Constant (.str x) j1 p1)] [.Constant (.int i) j2 p2] pos) (eDispS x i) := PE.weak (pe_frz (pe_disp (L2.pps_cons (pe_str (x := x)) (pe_int (i := i)) L2.pps_nil) (by rfl) rfl (by simp) (show 1 ≤ 15 by decide))) fun σ H Q ⟨B, F, ρ, P, w, p, q⟩ => fun c hc => by
  refine ⟨upd_same, [(.inr x, .int i)], rfl, (show 1 ≤ 15 by decide), ?_⟩
  rw [upd_upd]
  refine ⟨c, _, rfl, upd_same, trivial, fun od => ?_⟩
  rw [upd_upd]
  refine q _ c _ F _ p (.own w.fh (fun a b => (w.bx a b).2) hc) (none_of w.fh hc) hc upd_same ?_
  show ∃ kvs, HO.dK [((Sum.inr x : Key), V.int i)] = .dK kvs ∧ RepK X.K F kvs [(.inr x, .int i)]
  refine ⟨_, rfl, ?_⟩
  rw [RepK, RepK, Rep]; exact ⟨rfl, rfl, trivial⟩
end
/-! ### all data, shown: what stands at sysModules is not tracked -/
def Sys (base : Heap) : Prop := ∃ o, base.get? sysModules = some o
def intsK : List (Key × PV) → Option (List (Key × Int))
  | [] => some []
  | (k, .int i) :: r => (intsK r).map fun l => (k, i) :: l
  | _ => none
mutual
def datZ : PV → Option PyData
  | .non => some .none
  | .bl b => some (.bool b)
  | .int i => some (.int i)
  | .str x => some (.str x)
  | .tup xs => (datsZ xs).map .tuple
  | .cst xs => (datsZ xs).map .tuple
  | .lst xs => (datsZ xs).map .list
  | .dic kvs => (datsZD kvs).map .dict
  | .dks kvs => (intsK kvs).map fun l => .dict (l.map fun p => (keyD p.1, PyData.int p.2))
  | .dmx kvs => (datsZD kvs).map .dict
  | .scr _ => none
  | .exc _ _ => none
def datsZ : List PV → Option (List PyData)
  | [] => some []
  | d :: ds => (datZ d).bind fun x => (datsZ ds).map fun xs => x :: xs
def datsZD : List (PV × PV) → Option (List (PyData × PyData))
  | [] => some []
  | (k, d) :: ds => (datZ k).bind fun y => (datZ d).bind fun x => (datsZD ds).map fun xs => (y, x) :: xs
end
section
variable {X : Cx} {pins : List (Addr × Obj)} {σ : L2.St} {F H : Hp} {s : Shared}
theorem RepK.ints {K : PySem.W.Frag} : ∀ {xs : List (Key × V)} {ds : List (Key × PV)} {l : List (Key × Int)}, RepK K F xs ds → intsK ds = some l → xs = l.map fun p => (p.1, V.int p.2)
  | [], [], l, h, e => by rw [intsK] at e; cases e; rfl
  | (k, x) :: xs, (k', .int i) :: ds, l, h, e => by
    rw [RepK, Rep] at h; rw [intsK] at e
    obtain ⟨l', e1, rfl⟩ := Option.map_eq_some_iff.mp e
    rw [h.1, h.2.1, RepK.ints h.2.2 e1]; rfl
  | (k, x) :: xs, (k', .non) :: ds, l, h, e => by simp [intsK] at e
  | (k, x) :: xs, (k', .bl _) :: ds, l, h, e => by simp [intsK] at e
  | (k, x) :: xs, (k', .str _) :: ds, l, h, e => by simp [intsK] at e
  | (k, x) :: xs, (k', .tup _) :: ds, l, h, e => by simp [intsK] at e
  | (k, x) :: xs, (k', .cst _) :: ds, l, h, e => by simp [intsK] at e
  | (k, x) :: xs, (k', .lst _) :: ds, l, h, e => by simp [intsK] at e
  | (k, x) :: xs, (k', .dic _) :: ds, l, h, e => by simp [intsK] at e
  | (k, x) :: xs, (k', .dks _) :: ds, l, h, e => by simp [intsK] at e
  | (k, x) :: xs, (k', .scr _) :: ds, l, h, e => by simp [intsK] at e
  | (k, x) :: xs, (k', .dmx _) :: ds, l, h, e => by simp [intsK] at e
  | (k, x) :: xs, (k', .exc _ _) :: ds, l, h, e => by simp [intsK] at e
  | [], _ :: _, _, h, _ => by rw [RepK] at h; exact h.elim
  | _ :: _, [], _, h, _ => by rw [RepK] at h; exact h.elim
theorem Inv.off (I : Inv X pins σ H s) (hs : Sys X.base) {a : Addr} {o : HO} (h : H a = some o) : a ≠ sysModules := fun z => by
  obtain ⟨ob, e⟩ := hs
  have := (I.bs _ _ e).2
  rw [z, this] at h; exact nomatch h
mutual
theorem Rep.readsZ (I : Inv X pins σ H s) (hs : Sys X.base) (sm : Same F H) : ∀ {x : V} (v : PV) {d : PyData} {u : Value}, Rep X.K F x v → datZ v = some d → RelV x u → ∃ as, Reads s.heap u d as ∧ sysModules ∉ as
  | x, .non, d, u, h, e, r => by
    rw [Rep] at h; rw [datZ] at e; cases e; subst h; cases (show u = Value.none from r)
    exact ⟨_, .none, fun z => nomatch z⟩
  | x, .bl b, d, u, h, e, r => by
    rw [Rep] at h; rw [datZ] at e; cases e; subst h; cases (show u = Value.bool b from r)
    exact ⟨_, .bool b, fun z => nomatch z⟩
  | x, .int i, d, u, h, e, r => by
    rw [Rep] at h; rw [datZ] at e; cases e; subst h; obtain ⟨t, rfl⟩ := (show ∃ t, u = Value.int i t from r)
    exact ⟨_, .int i t, fun z => nomatch z⟩
  | x, .str i, d, u, h, e, r => by
    rw [Rep] at h; rw [datZ] at e; cases e; subst h; obtain ⟨t, rfl⟩ := (show ∃ t, u = Value.str i t from r)
    exact ⟨_, .str i t, fun z => nomatch z⟩
  | x, .tup ds, d, u, h, e, r => by
    rw [Rep] at h; rw [datZ] at e; obtain ⟨a, xs, rfl, q, rr⟩ := h
    obtain ⟨es, e1, rfl⟩ := Option.map_eq_some_iff.mp e
    cases (show u = Value.ref a from r)
    obtain ⟨its, rv, ⟨o, ho, hc, n, hd⟩, _⟩ := I.tuple (q.sq sm)
    obtain ⟨as, hr, hn⟩ := Reps.readsZ I hs sm ds rr e1 rv
    exact ⟨_, .tuple ho hc hd (by simpa using hr), hn⟩
  | x, .cst ds, d, u, h, e, r => by
    rw [Rep] at h; rw [datZ] at e; obtain ⟨a, xs, rfl, q, rr⟩ := h
    obtain ⟨es, e1, rfl⟩ := Option.map_eq_some_iff.mp e
    cases (show u = Value.ref a from r)
    obtain ⟨its, rv, ⟨o, ho, hc, n, hd⟩, _⟩ := I.tuple (q.elim (fun z => .inl (Rd.mono sm z)) .inr)
    obtain ⟨as, hr, hn⟩ := Reps.readsZ I hs sm ds rr e1 rv
    exact ⟨_, .tuple ho hc hd (by simpa using hr), hn⟩
  | x, .lst ds, d, u, h, e, r => by
    rw [Rep] at h; rw [datZ] at e; obtain ⟨a, xs, rfl, q, rr⟩ := h
    obtain ⟨es, e1, rfl⟩ := Option.map_eq_some_iff.mp e
    cases (show u = Value.ref a from r)
    obtain ⟨its, rv, ⟨o, n, ho, hc, _, hd⟩, _⟩ := I.list (.inl (.inl (sm _ _ q)))
    obtain ⟨as, hr, hn⟩ := Reps.readsZ I hs sm ds rr e1 rv
    refine ⟨_, .list ho hc hd hr, fun z => ?_⟩
    rcases List.mem_cons.mp z with z | z
    · exact Inv.off I hs (sm _ _ q) z.symm
    · exact hn z
  | x, .dic ds, d, u, h, e, r => by
    have h' := h
    rw [Rep] at h; rw [datZ] at e; obtain ⟨a, xs, ep, rfl, q, dk, rr⟩ := h
    obtain ⟨es, e1, rfl⟩ := Option.map_eq_some_iff.mp e
    cases (show u = Value.ref a from r)
    obtain ⟨o, ens, ho, hx, hd, he⟩ := (show ObjOk X.prog X.w H s.heap a (.ext (RawD a xs ep)) from I.hok a _ (sm _ _ q)).1
    obtain ⟨as, bs, r1, r2, n1, n2⟩ := RepX.readsZ I hs sm (w := X.w) ds rr e1
    refine ⟨_, .dict ho hx.1 hd (by rw [he X.w]; exact r1) (by rw [he X.w]; exact r2), fun z => ?_⟩
    rcases List.mem_append.mp z with z | z
    · rcases List.mem_cons.mp z with z | z
      · exact Inv.off I hs (sm _ _ q) z.symm
      · exact n1 z
    · exact n2 z
  | x, .dks ds, d, u, h, e, r => by
    rw [Rep] at h; rw [datZ] at e; obtain ⟨a, ob, kvs, rfl, q, rr⟩ := h
    obtain ⟨l, e1, rfl⟩ := Option.map_eq_some_iff.mp e
    cases (show u = Value.ref a from r)
    obtain ⟨_, _, hsys, vs, hk, o, es, ep, e1', e2, e3, _, hp, _⟩ := I.hok a _ (sm _ _ q)
    rw [RepK.ints rr e1] at hk
    obtain ⟨r1, r2⟩ := pairs_read (X := X) (h := s.heap) hp hk
    refine ⟨_, .dict e1' e2.1 e3 r1 r2, fun z => ?_⟩
    have z' : sysModules = a := by simpa using z
    exact Inv.off I hs (sm _ _ q) z'.symm
  | x, .dmx ds, d, u, h, e, r => by
    rw [Rep] at h; rw [datZ] at e; obtain ⟨a, es, ep, rfl, q, _, rr⟩ := h
    obtain ⟨zs, e1, rfl⟩ := Option.map_eq_some_iff.mp e
    cases (show u = Value.ref a from r)
    obtain ⟨o, arr, ho, hx, hd, he⟩ := (show ObjOk X.prog X.w H s.heap a (.ext (RawM a es ep)) from I.hok a _ (sm _ _ q)).1
    obtain ⟨as, bs, r1, r2, n1, n2⟩ := RepM.readsZ I hs sm ds rr e1
    refine ⟨_, .dict ho hx.1 hd (by rw [he]; exact r1) (by rw [he]; exact r2), fun z => ?_⟩
    rcases List.mem_append.mp z with z | z
    · rcases List.mem_cons.mp z with z | z
      · exact Inv.off I hs (sm _ _ q) z.symm
      · exact n1 z
    · exact n2 z
  | x, .exc _ _, d, u, h, e, r => by rw [datZ] at e; exact nomatch e
  | x, .scr ds, d, u, h, e, r => by rw [datZ] at e; exact nomatch e
theorem Reps.readsZ (I : Inv X pins σ H s) (hs : Sys X.base) (sm : Same F H) : ∀ {xs : List V} (vs : List PV) {ds : List PyData} {us : List Value}, Reps X.K F xs vs → datsZ vs = some ds → Vals xs us → ∃ as, ReadsAll s.heap us ds as ∧ sysModules ∉ as
  | [], [], ds, us, h, e, r => by rw [datsZ] at e; cases e; cases r; exact ⟨_, .nil, fun z => nomatch z⟩
  | x :: xs, v :: vs, ds, us, h, e, r => by
    rw [Reps] at h; rw [datsZ] at e
    obtain ⟨d, e1, e⟩ := Option.bind_eq_some_iff.mp e
    obtain ⟨es, e2, rfl⟩ := Option.map_eq_some_iff.mp e
    cases r with
    | cons r1 r2 =>
      obtain ⟨as, q1, n1⟩ := Rep.readsZ I hs sm v h.1 e1 r1
      obtain ⟨bs, q2, n2⟩ := Reps.readsZ I hs sm vs h.2 e2 r2
      exact ⟨_, .cons q1 q2, fun z => (List.mem_append.mp z).elim n1 n2⟩
  | [], _ :: _, _, _, h, _, _ => by rw [Reps] at h; exact h.elim
  | _ :: _, [], _, _, h, _, _ => by rw [Reps] at h; exact h.elim
theorem RepX.readsZ (I : Inv X pins σ H s) (hs : Sys X.base) (sm : Same F H) {w : World} : ∀ {xs : List Ent} (vs : List (PV × PV)) {ds : List (PyData × PyData)}, RepX X.K F xs vs → datsZD vs = some ds →
    ∃ as bs, ReadsAll s.heap ((xs.map (entK w)).map (·.key)) (ds.map (·.1)) as ∧ ReadsAll s.heap ((xs.map (entK w)).map (·.val)) (ds.map (·.2)) bs ∧ sysModules ∉ as ∧ sysModules ∉ bs
  | [], [], ds, h, e => by rw [datsZD] at e; cases e; exact ⟨_, _, .nil, .nil, (fun z => nomatch z), fun z => nomatch z⟩
  | x :: xs, (k, v) :: vs, ds, h, e => by
    rw [RepX] at h; rw [datsZD] at e
    obtain ⟨y, e1, e⟩ := Option.bind_eq_some_iff.mp e
    obtain ⟨d, e2, e⟩ := Option.bind_eq_some_iff.mp e
    obtain ⟨es, e3, rfl⟩ := Option.map_eq_some_iff.mp e
    obtain ⟨⟨h1, h2, z, h3, h4⟩, h5⟩ := h
    obtain ⟨as, q1, n1⟩ := Rep.readsZ I hs sm k h2 e1 rfl
    obtain ⟨bs, q2, n2⟩ := Rep.readsZ I hs sm v h4 e2 h3
    obtain ⟨cs, ds', r1, r2, m1, m2⟩ := RepX.readsZ I hs sm (w := w) vs h5 e3
    exact ⟨_, _, .cons q1 r1, .cons q2 r2, fun z => (List.mem_append.mp z).elim n1 m1, fun z => (List.mem_append.mp z).elim n2 m2⟩
  | [], _ :: _, _, h, _ => by rw [RepX] at h; exact h.elim
  | _ :: _, [], _, h, _ => by rw [RepX] at h; exact h.elim
theorem RepM.readsZ (I : Inv X pins σ H s) (hs : Sys X.base) (sm : Same F H) : ∀ {xs : List DictEntry} (vs : List (PV × PV)) {ds : List (PyData × PyData)}, RepM X.K F xs vs → datsZD vs = some ds →
    ∃ as bs, ReadsAll s.heap (xs.map (·.key)) (ds.map (·.1)) as ∧ ReadsAll s.heap (xs.map (·.val)) (ds.map (·.2)) bs ∧ sysModules ∉ as ∧ sysModules ∉ bs
  | [], [], ds, h, e => by rw [datsZD] at e; cases e; exact ⟨_, _, .nil, .nil, (fun z => nomatch z), fun z => nomatch z⟩
  | x :: xs, (k, v) :: vs, ds, h, e => by
    rw [RepM] at h; rw [datsZD] at e
    obtain ⟨y, e1, e⟩ := Option.bind_eq_some_iff.mp e
    obtain ⟨d, e2, e⟩ := Option.bind_eq_some_iff.mp e
    obtain ⟨es, e3, rfl⟩ := Option.map_eq_some_iff.mp e
    obtain ⟨⟨⟨y1, h1, h2⟩, z, h3, h4⟩, h5⟩ := h
    obtain ⟨as, q1, n1⟩ := Rep.readsZ I hs sm k h2 e1 h1
    obtain ⟨bs, q2, n2⟩ := Rep.readsZ I hs sm v h4 e2 h3
    obtain ⟨cs, ds', r1, r2, m1, m2⟩ := RepM.readsZ I hs sm vs h5 e3
    exact ⟨_, _, .cons q1 r1, .cons q2 r2, fun z => (List.mem_append.mp z).elim n1 m1, fun z => (List.mem_append.mp z).elim n2 m2⟩
  | [], _ :: _, _, h, _ => by rw [RepM] at h; exact h.elim
  | _ :: _, [], _, h, _ => by rw [RepM] at h; exact h.elim
end
end
def cReprZ : CW := fun vs k => ∃ v d, vs = [v] ∧ ((dat v = some d ∧ KG.ShowOk d) ∨ (datZ v = some d ∧ ShowQ d)) ∧ k (.str d.shown)
section
variable {X : Cx} {K : PySem.W.Frag}
def rReprZ (K : PySem.W.Frag) : List V → Hp → VK → Prop := fun xs H Q => ∃ x F v d, xs = [x] ∧ Same F H ∧ Rep K F x v ∧ datZ v = some d ∧ ShowQ d ∧ Q (.str d.shown) H
theorem call_reprZ {k : Nat} (hsy : Sys X.base) (gd : X.A.guards = some []) (hr : Room k X.A) : CallR X (.builtin "repr") (rReprZ X.K) := by
  intro pins s σ H xs us Q I r h
  obtain ⟨x, F, v, d, rfl, sm, rv, hd, ⟨hs, hz, hl⟩, q⟩ := h
  obtain ⟨u, rfl, ru⟩ := vals1 r
  have un := hr.un
  obtain ⟨as, rd, hn⟩ := Rep.readsZ I hsy sm v rv hd ru
  have big : ∀ a, u = .ref a → wpAny (model X.prog X.w) X.A (call (.builtin "repr") [.ref a]) (EP X pins σ Q) X.xe s := fun a ea => by
    subst ea
    exact repr_of_reads' rd hs (fun _ => hn) gd (by omega) (fun _ _ z => z) (fun h' u tk hk => ⟨.str _, H, I.kept hk, ⟨_, rfl⟩, q⟩) hl
  cases rd with
  | none => exact PySem.P.repr_of_none ⟨.str _, H, I.tok _, ⟨_, rfl⟩, q⟩
  | bool b => exact PySem.P.repr_of_bool ⟨.str _, H, I.tok _, ⟨_, rfl⟩, q⟩
  | int i t => exact PySem.P.repr_of_int (of_decide_eq_true hs) ⟨.str _, H, I.tok _, ⟨_, rfl⟩, q⟩
  | str y t => exact PySem.P.repr_of_str ⟨.str _, H, I.tok _, ⟨_, rfl⟩, q⟩ hl
  | list _ _ _ _ => exact big _ rfl
  | tuple _ _ _ _ => exact big _ rfl
  | dict _ _ _ _ _ => exact big _ rfl
def rRepZ (K : PySem.W.Frag) : List V → Hp → VK → Prop := fun xs H Q => KG.rRepr K xs H Q ∨ rReprZ K xs H Q
theorem call_repZ {k : Nat} (hsy : Sys X.base) (gd : X.A.guards = some []) (hr : Room k X.A) : CallR X (.builtin "repr") (rRepZ X.K) := fun pins s σ H xs us Q I r h => h.elim (fun h => KG.call_repr gd hr pins s σ H xs us Q I r h) (fun h => call_reprZ hsy gd hr pins s σ H xs us Q I r h)
theorem cv_reprZ : CallV K (rRepZ K) cReprZ := by
  rintro xs vs B F H P Q s bx r ⟨v, d, rfl, ⟨e, sh⟩ | ⟨e, sh⟩, p⟩ q
  · obtain h := cv_repr (K := K) xs [v] B F H P Q s bx r ⟨v, d, rfl, e, sh, p⟩ q
    exact .inl h
  · obtain ⟨x, rfl, rx⟩ := r.one
    exact .inr ⟨x, F, v, d, rfl, s, rx, e, sh, q _ _ F H p (.refl s fun a h => (bx a h).2) (by rw [Rep])⟩
end
/-! ### the end, with what stands at sysModules -/
section
variable {P : Program} {w : World} {K : PySem.W.Frag} {mg mb mm : Str → Option Value} {k : Nat} {fa a : Addr} {fd : FuncData} {x : Str} {sp : Sp} {s₁ : Shared} {vs : List Value} {ns : List Int}
theorem endZ_from {H : Hp} (hsm : s₁.heap.Ns sysModules mm) (KX : K.In s₁.heap) (hns : s₁.heap.Ns mainGlobals mg) (hb : s₁.heap.Ns builtinsNs mb) (hbb : ∀ y : Str, y ≠ "__name__" → mb y = bootBuiltins y) (hlim : s₁.heap.NoLimit) (hg : s₁.gens = #[])
    (ha : ∃ its n, s₁.heap.get? a = some { cls := .type "list", data := .seq its n }) (hr : Room k callerA)
    (F : ∀ base : Heap, K.In base → base.Ns mainGlobals mg → Sys base → KG.FnG P w K mg base k fa fd [x] sp) (hbind : ∀ (s : Shared) (u : Value), BindsTo s fd ⟨[u], []⟩ [(x, u)])
    (hO : Only H) (hok : HOk P w H s₁.heap) (hA : ∀ b, H b ≠ none → b = a) (hK : H a ≠ none → K.lookup a = none)
    (hsp : sp [.ref a] H (fun v _ => v = .bl true) fun _ _ _ => False) : codeAny (model P w) callerA (.call (.ref fa) ⟨[.ref a], []⟩) (KG.EndT s₁) s₁ := by
  obtain ⟨its, n, ha⟩ := ha
  have cases2 : ∀ b, H b = none ∨ (b = a ∧ K.lookup a = none) := fun b => by
    by_cases z : H b = none
    · exact .inl z
    · have e := hA b z
      exact .inr ⟨e, hK (e ▸ z)⟩
  have nsK : ∀ {b : Addr} {m : Str → Option Value}, s₁.heap.Ns b m → (hidT s₁.heap H).Ns b m := by
    rintro b m ⟨o, es, ep, e, d, r⟩
    refine ⟨o, es, ep, hidT_get e ?_, d, r⟩
    rcases cases2 b with z | ⟨rfl, _⟩
    · exact z
    · rw [ha] at e
      cases e
      exact nomatch d
  have hKb : K.In (hidT s₁.heap H) := fun b o e => by
    refine hidT_get (KX b o e) ?_
    rcases cases2 b with z | ⟨rfl, z⟩
    · exact z
    · rw [z] at e
      exact nomatch e
  have hSy : Sys (hidT s₁.heap H) := by
    obtain ⟨o, es, ep, e, _⟩ := nsK hsm
    exact ⟨o, e⟩
  obtain ⟨mc, l1, l2⟩ := hlim
  have hM : Mod K mg (hidT s₁.heap H) := ⟨hKb, nsK hns, ⟨mb, nsK hb, hbb⟩, ⟨mc, nsK l1, l2⟩⟩
  have e0 : Env0 P w K mg (hidT s₁.heap H) callerA [] s₁ H :=
    { frames := rfl, mod := hM, bs := fun b o e => of_hidT e, bsz := Nat.le_of_eq (hidT_size _ _), funs := trivial, frf := (fun b z => nomatch (show b ∈ ([] : List Addr) from z)), hok := hok, bare := .of_eq hg }
  have run := (F _ hKb (nsK hns) hSy).run callerA [] s₁ H ⟨[.ref a], []⟩ [.ref a] [.ref a] (fun v _ => v = .bl true) (fun _ _ _ => False) rfl hr e0 (hbind s₁ (.ref a)) (.cons rfl .nil) hsp
  refine codeAny_mono run ?_
  intro r s' h
  match r, h with
  | .ok (.ret u), ⟨v, H', os, bare, un, hok', r', q⟩ =>
    have q' : v = .bl true := q
    subst q'
    have eu : u = Value.bool true := r'
    subst eu
    refine ⟨rfl, OldK.of_keep ?_, os, bare⟩
    intro b o e
    rcases hO b with z | ⟨ob, xs, z⟩
    · exact un.keep b o e z (fun y => nomatch (show b ∈ ([] : List Addr) from y)) (fun y => nomatch y)
    · have e1 := (hok b _ z).1
      have e2 := (hok' b _ (un.frzs b ob _ z)).1
      rw [e] at e1
      cases e1
      exact e2
theorem endZ (hsm : s₁.heap.Ns sysModules mm) (KX : K.In s₁.heap) (hns : s₁.heap.Ns mainGlobals mg) (hb : s₁.heap.Ns builtinsNs mb) (hbb : ∀ y : Str, y ≠ "__name__" → mb y = bootBuiltins y) (hlim : s₁.heap.NoLimit) (hg : s₁.gens = #[])
    (ha : s₁.heap.get? a = some { cls := .type "list", data := .seq vs.toArray }) (hi : IntsAre vs ns) (hl : ns.length ≤ sizeLine) (hr : Room k callerA)
    (F : ∀ base : Heap, K.In base → base.Ns mainGlobals mg → Sys base → KG.FnG P w K mg base k fa fd [x] sp) (hbind : ∀ (s : Shared) (u : Value), BindsTo s fd ⟨[u], []⟩ [(x, u)])
    (hsp : ∀ H : Hp, Only H → SqL K H a (ns.map V.int) → sp [.ref a] H (fun v _ => v = .bl true) fun _ _ _ => False) :
    codeAny (model P w) callerA (.call (.ref fa) ⟨[.ref a], []⟩) (KG.EndT s₁) s₁ := by
  have rv := vals_ints hi
  cases hk : K.lookup a with
  | some o =>
    have e := KX a o hk
    rw [ha] at e
    cases e
    have sq : SqL K (fun _ => none) a (ns.map V.int) := .inr ⟨_, vs.toArray, _, hk, rfl, rfl, rfl, by rw [List.size_toArray, hi.length]; exact hl, by simpa using rv⟩
    have only : Only (fun _ => none) := fun _ => .inl rfl
    exact endZ_from hsm KX hns hb hbb hlim hg ⟨_, _, ha⟩ hr F hbind only (fun b u z => nomatch (show (none : Option HO) = some u from z)) (fun b z => (z rfl).elim) (fun z => (z rfl).elim) (hsp _ only sq)
  | none =>
    let H0 : Hp := upd (fun _ => none) a (.frz { cls := .type "list", data := .seq vs.toArray } (.lst (ns.map V.int)))
    have at0 : H0 a = some (.frz { cls := .type "list", data := .seq vs.toArray } (.lst (ns.map V.int))) := upd_same
    have off0 : ∀ b, b ≠ a → H0 b = none := fun b z => upd_ne z
    have only : Only H0 := fun b => by
      by_cases z : b = a
      · exact .inr ⟨_, _, z ▸ at0⟩
      · exact .inl (off0 b z)
    refine endZ_from hsm KX hns hb hbb hlim hg ⟨_, _, ha⟩ hr F hbind only ?_ ?_ (fun _ => hk) (hsp _ only (.inl (.inr ⟨_, at0⟩)))
    · intro b u z
      by_cases y : b = a
      · subst y
        rw [at0] at z
        cases z
        exact ⟨ha, by rw [List.length_map]; exact hl, vs, _, rv, ha⟩
      · rw [off0 b y] at z
        exact nomatch z
    · intro b z
      by_cases y : b = a
      · exact y
      · exact (z (off0 b y)).elim
end
theorem walkZ {l : PySem.W.OpenLaw} {n k : Nat} {q : Program} {loose : List Str} {XP : (Str → Option Value) → Heap → Prop} {YP : World → Heap → Prop} {d : DefRec} {K : Params → PySem.W.Frag} {sp : PySem.W.Frag → Sp} {x : Str} (hq : importsNone q = true)
    (hn : l.most = some n) (hn2 : n ≤ sizeLine) (hdf : d.params.defaults = []) (hr : Room k callerA) (hY : ∀ (w : World) (h : Heap), YP w h → (K w.params).In h)
    (F : ∀ (w : World) (mg : Str → Option Value) (fa : Addr) (h : Heap), (K w.params).In h → h.Ns mainGlobals mg → mg d.name = some (.ref fa) →
      ∃ fd : FuncData, (∀ (s : Shared) (u : Value), BindsTo s fd ⟨[u], []⟩ [(x, u)]) ∧ ∀ base : Heap, (K w.params).In base → base.Ns mainGlobals mg → Sys base → KG.FnG l.prog w (K w.params) mg base k fa fd [x] (sp (K w.params)))
    (hsp : ∀ (K : PySem.W.Frag) (H : Hp) (a : Addr) (ns : List Int), ns.length ≤ n → Only H → SqL K H a (ns.map V.int) → sp K [.ref a] H (fun v _ => v = .bl true) fun _ _ _ => False) :
    PySem.W.WalkO q loose XP YP l.row.toRowW d [] (fun f vs => PySem.call f vs) := by
  refine Att.attach_call hn hdf ?_
  intro w s₀ s₁ mg mb fa o pm cd doc a vs ns G Y ho hd hcd hmg hobj hints hlen hg
  obtain ⟨fd, hb, hF⟩ := F w mg fa _ (hY w _ Y) G.T.g hmg
  obtain ⟨mm, hsm, _⟩ := (G.T.seer hq).mods
  exact endZ hsm (hY w _ Y) G.T.g G.T.b G.T.builtins G.T.nolimit hg hobj hints (Nat.le_trans hlen hn2) hr hF hb fun H hO hS => hsp _ H a ns hlen hO hS
end KV

namespace KV
open PySem PySem.Spec PyProof.Rows L2 KGX
/-! ### all data: what can be shown -/
def CanShowZ (v : PV) : Prop := ∃ d, (dat v = some d ∧ KG.ShowOk d) ∨ (datZ v = some d ∧ ShowQ d)
def ElZ (m k : Nat) (v : PV) : Prop := ∃ d, datZ v = some d ∧ Small m k d
theorem ElZ.mono {m k m' k' : Nat} {v : PV} (h : ElZ m k v) (h1 : m ≤ m') (h2 : k ≤ k') : ElZ m' k' v := by
  obtain ⟨d, e, s⟩ := h
  exact ⟨d, e, s.mono h1 h2⟩
theorem ElZ.show {m k : Nat} {v : PV} (h : ElZ m k v) (h1 : m ≤ 16000000) (h2 : k ≤ 20) : CanShowZ v := by
  obtain ⟨d, e, s⟩ := h
  exact ⟨d, .inr ⟨e, .of s h1 h2⟩⟩
theorem elsZ {m k : Nat} : ∀ {xs : List PV}, (∀ v ∈ xs, ElZ m k v) → ∃ ds, datsZ xs = some ds ∧ ds.length = xs.length ∧ ∀ d ∈ ds, Small m k d
  | [], _ => ⟨[], by rw [datsZ], rfl, fun _ h => nomatch h⟩
  | v :: vs, h => by
    obtain ⟨d, e1, s1⟩ := h v List.mem_cons_self
    obtain ⟨ds, e2, l2, s2⟩ := elsZ (xs := vs) fun x hx => h x (List.mem_cons_of_mem _ hx)
    refine ⟨d :: ds, by rw [datsZ, e1, e2]; rfl, by rw [List.length_cons, List.length_cons, l2], fun x hx => ?_⟩
    rcases List.mem_cons.mp hx with rfl | hx
    · exact s1
    · exact s2 x hx
theorem elZ_tup {m k n : Nat} {xs : List PV} (h : ∀ v ∈ xs, ElZ m k v) (hl : xs.length ≤ n) : ElZ ((m + 2) * n + 3) (k + 1) (.tup xs) := by
  obtain ⟨ds, e, l, s⟩ := elsZ h
  exact ⟨.tuple ds, by rw [datZ, e]; rfl, small_tup (by omega) s⟩
theorem elZ_lst {m k n : Nat} {xs : List PV} (h : ∀ v ∈ xs, ElZ m k v) (hl : xs.length ≤ n) : ElZ ((m + 2) * n + 3) (k + 1) (.lst xs) := by
  obtain ⟨ds, e, l, s⟩ := elsZ h
  exact ⟨.list ds, by rw [datZ, e]; rfl, small_lst (by omega) s⟩
theorem elZ_int {i : Int} {n : Nat} (h : i.natAbs < 2 ^ n) (h0 : 0 < n) (hn : n ≤ 1920) : ElZ (n + 1) 0 (.int i) := ⟨_, rfl, small_int h h0 hn⟩
theorem elZ_ints {S : List Int} (h : ∀ x ∈ S, x.natAbs < 2 ^ 100) : ∀ v ∈ S.map PV.int, ElZ 101 0 v := fun v hv => by obtain ⟨x, hx, rfl⟩ := List.mem_map.mp hv; exact elZ_int (h x hx) (by decide) (by decide)
mutual
theorem datZ_any : ∀ {v : PV} {d : PyData}, datZ v = some d → anyV v = true
  | .scr _, d, h => by rw [datZ] at h; exact nomatch h
  | .exc _ _, d, h => by rw [datZ] at h; exact nomatch h
  | .non, _, _ => rfl
  | .bl _, _, _ => rfl
  | .int _, _, _ => rfl
  | .str _, _, _ => rfl
  | .tup _, _, _ => rfl
  | .cst _, _, _ => rfl
  | .lst _, _, _ => rfl
  | .dic _, _, _ => rfl
  | .dks _, _, _ => rfl
  | .dmx _, _, _ => rfl
end
theorem datsZ_any : ∀ {xs : List PV} {ds : List PyData}, datsZ xs = some ds → xs.all anyV = true
  | [], _, _ => rfl
  | x :: xs, ds, h => by
    rw [datsZ] at h
    obtain ⟨d, e1, h⟩ := Option.bind_eq_some_iff.mp h
    obtain ⟨es, e2, _⟩ := Option.map_eq_some_iff.mp h
    rw [List.all_cons, datZ_any e1, datsZ_any e2]; rfl
theorem ElZ.any {m k : Nat} {v : PV} (h : ElZ m k v) (hl : (partsV v).length ≤ 1000) : anyT v := by
  obtain ⟨d, e, _⟩ := h
  refine ⟨datZ_any e, ?_, hl⟩
  cases v with
  | tup xs => rw [datZ] at e; obtain ⟨es, e1, _⟩ := Option.map_eq_some_iff.mp e; exact datsZ_any e1
  | cst xs => rw [datZ] at e; obtain ⟨es, e1, _⟩ := Option.map_eq_some_iff.mp e; exact datsZ_any e1
  | _ => rfl
/-- a thing that is looked at, and shown -/
structure ThingZ (v : PV) : Prop where
  any : anyT v
  shows : CanShowZ v
theorem ElZ.thing {m k : Nat} {v : PV} (h : ElZ m k v) (h1 : m ≤ 16000000) (h2 : k ≤ 20) (hl : (partsV v).length ≤ 1000) : ThingZ v := ⟨h.any hl, h.show h1 h2⟩
end KV
namespace KV
open PySem PySem.Spec PyProof.Rows L2 KGX
/-! ### long displays: no part is starred -/
section
variable {es : List Expr} {E : Env}
theorem sx_const {v : Const} {k : Nat} {p : Pos} : starEach (Expr.Constant v k p :: es) E = (false, eval (.Constant v k p) E) :: starEach es E := rfl
theorem sx_name {x : Str} {p : Pos} : starEach (Expr.Name x p :: es) E = (false, eval (.Name x p) E) :: starEach es E := rfl
theorem sx_tup {xs : List Expr} {k : Nat} {p : Pos} : starEach (Expr.Tuple xs k p :: es) E = (false, eval (.Tuple xs k p) E) :: starEach es E := rfl
theorem sx_lst {xs : List Expr} {p : Pos} : starEach (Expr.List xs p :: es) E = (false, eval (.List xs p) E) :: starEach es E := rfl
theorem sx_dict {xs : List (Option Expr)} {ys : List Expr} {p : Pos} : starEach (Expr.Dict xs ys p :: es) E = (false, eval (.Dict xs ys p) E) :: starEach es E := rfl
theorem sx_bin {a b : Expr} {o : Operator} {p : Pos} : starEach (Expr.BinOp a o b p :: es) E = (false, eval (.BinOp a o b p) E) :: starEach es E := rfl
theorem sx_un {a : Expr} {o : UnaryOp} {p : Pos} : starEach (Expr.UnaryOp o a p :: es) E = (false, eval (.UnaryOp o a p) E) :: starEach es E := rfl
theorem sx_call {f : Expr} {xs : List Expr} {ks : List Keyword} {p : Pos} : starEach (Expr.Call f xs ks p :: es) E = (false, eval (.Call f xs ks p) E) :: starEach es E := rfl
theorem sx_sub {a b : Expr} {p : Pos} : starEach (Expr.Subscript a b p :: es) E = (false, eval (.Subscript a b p) E) :: starEach es E := rfl
theorem sx_cmp {a : Expr} {os : List CmpOp} {xs : List Expr} {p : Pos} : starEach (Expr.Compare a os xs p :: es) E = (false, eval (.Compare a os xs p) E) :: starEach es E := rfl
end
theorem pps_consL {X : Cx} {e : Expr} {es : List Expr} {f : EW} {fa : AW} (h1 : PP X e f) (h2 : PPs X es fa)
    (hs : starEach (e :: es) X.env = (false, eval e X.env) :: starEach es X.env := by first | exact KV.sx_const | exact KV.sx_name | exact KV.sx_tup | exact KV.sx_lst | exact KV.sx_bin | exact KV.sx_un | exact KV.sx_dict | exact KV.sx_call | exact KV.sx_sub | exact KV.sx_cmp | rfl) : PPs X (e :: es) (aCons f fa) := pps_cons h1 h2 hs
end KV

namespace KV
open PySem PySem.Spec PyProof.Rows L2 KGX
/-! ### dict(pairs) -/
def pairsOf : List PV → Option (List (PV × PV))
  | [] => some []
  | .tup [k, v] :: r => (pairsOf r).map fun l => (k, v) :: l
  | _ => none
def KeysOk (ds : List (PV × PV)) : Prop := ds.length ≤ 1000000 ∧ (∀ kv ∈ ds, ∃ k, keyOf kv.1 = some k) ∧ (ds.map fun kv => keyOf kv.1).Nodup
section
variable {X : Cx} {pins : List (Addr × Obj)} {σ : L2.St} {F H : Hp} {s : Shared}
theorem pairs_at (I : Inv X pins σ H s) (sm : Same F H) : ∀ {xs : List V} {its : List Value} (vs : List PV) {ds : List (PV × PV)}, Reps X.K F xs vs → pairsOf vs = some ds → (∀ kv ∈ ds, ∃ k, keyOf kv.1 = some k) → Vals xs its →
    ∃ (ts : List Addr) (es : List Ent), its = ts.map Value.ref ∧ ts.length = es.length ∧ RepX X.K F es ds ∧ ∀ (j : Nat) (t : Addr) (e : Ent), ts[j]? = some t → es[j]? = some e → s.heap.IsTuple t #[.ref e.2.1, e.2.2]
  | [], its, [], ds, h, e, hk, r => by rw [pairsOf] at e; cases e; cases r; exact ⟨[], [], rfl, rfl, (by rw [RepX]; trivial), fun j t e h => by simp at h⟩
  | x :: xs, its, .tup [k, v] :: vs, ds, h, e, hk, r => by
    rw [Reps] at h; rw [pairsOf] at e
    obtain ⟨l, e1, rfl⟩ := Option.map_eq_some_iff.mp e
    cases r with
    | cons r1 r2 =>
      rename_i u us
      obtain ⟨ts, es, a1, a2, a3, a4⟩ := pairs_at I sm vs h.2 e1 (fun kv hkv => hk kv (List.mem_cons_of_mem _ hkv)) r2
      have h1 := h.1
      rw [Rep] at h1
      obtain ⟨a, ys, rfl, st, rr⟩ := h1
      cases (show u = Value.ref a from r1)
      match ys, rr with
      | [y, z], rr =>
        rw [Reps, Reps, Reps] at rr
        obtain ⟨ry, rz, _⟩ := rr
        obtain ⟨kk, hkk⟩ := hk (k, v) List.mem_cons_self
        obtain ⟨b, rfl, ka⟩ := ry.key sm hkk
        obtain ⟨its2, rv, tp, _⟩ := I.tuple (st.sq sm)
        cases rv with
        | cons q1 q2 =>
          rename_i u1 us1
          cases q2 with
          | cons q2 q3 =>
            rename_i u2 us2
            cases q3
            cases (show u1 = Value.ref b from q1)
            refine ⟨a :: ts, (kk, b, u2) :: es, by rw [a1]; rfl, by rw [List.length_cons, List.length_cons, a2], ?_, fun j t e h1 h2 => ?_⟩
            · rw [RepX]; exact ⟨⟨hkk, ry, z, q2, rz⟩, a3⟩
            · match j, h1, h2 with
              | 0, h1, h2 => cases h1; cases h2; exact tp
              | j + 1, h1, h2 => exact a4 j t e h1 h2
      | [], rr => rw [Reps] at rr; exact rr.elim
      | [y], rr => rw [Reps, Reps] at rr; exact rr.2.elim
      | y :: z :: w :: r, rr => rw [Reps, Reps, Reps] at rr; exact rr.2.2.elim
  | [], _, _ :: _, _, h, _, _, _ => by rw [Reps] at h; exact h.elim
  | _ :: _, _, [], _, h, _, _, _ => by rw [Reps] at h; exact h.elim
  | x :: xs, _, .non :: vs, ds, h, e, _, _ => by simp [pairsOf] at e
  | x :: xs, _, .bl _ :: vs, ds, h, e, _, _ => by simp [pairsOf] at e
  | x :: xs, _, .int _ :: vs, ds, h, e, _, _ => by simp [pairsOf] at e
  | x :: xs, _, .str _ :: vs, ds, h, e, _, _ => by simp [pairsOf] at e
  | x :: xs, _, .cst _ :: vs, ds, h, e, _, _ => by simp [pairsOf] at e
  | x :: xs, _, .lst _ :: vs, ds, h, e, _, _ => by simp [pairsOf] at e
  | x :: xs, _, .dic _ :: vs, ds, h, e, _, _ => by simp [pairsOf] at e
  | x :: xs, _, .dks _ :: vs, ds, h, e, _, _ => by simp [pairsOf] at e
  | x :: xs, _, .dmx _ :: vs, ds, h, e, _, _ => by simp [pairsOf] at e
  | x :: xs, _, .scr _ :: vs, ds, h, e, _, _ => by simp [pairsOf] at e
  | x :: xs, _, .exc _ _ :: vs, ds, h, e, _, _ => by simp [pairsOf] at e
  | x :: xs, _, .tup [] :: vs, ds, h, e, _, _ => by simp [pairsOf] at e
  | x :: xs, _, .tup [_] :: vs, ds, h, e, _, _ => by simp [pairsOf] at e
  | x :: xs, _, .tup (_ :: _ :: _ :: _) :: vs, ds, h, e, _, _ => by simp [pairsOf] at e
/-- a new dict of these entries is laid -/
theorem laid_dict (I : Inv X pins σ H s) (sm : Same F H) {es : List Ent} {ds : List (PV × PV)} {h' : Heap} {tk : Nat} {Q : VK} (rx : RepX X.K F es ds) (ok : KeysOk ds) (dd : h'.DictOfH (nestedKind X.prog X.w) s.heap.objs.size es) (hk : ∀ b o, s.heap.get? b = some o → h'.get? b = some o)
    (q : ∀ p o, H p = none → OwnO X.K F p o (.dic ds) → Q (.ref p) (upd H p o)) : EP X pins σ Q (.ref s.heap.objs.size) { s with heap := h', toks := tk } := by
  have hd := I.hok.fresh (Nat.le_refl s.heap.objs.size)
  have nts : ∀ x ∈ es, nt x.1 = true := fun x hx => by
    obtain ⟨kp, h1, h2⟩ := rx.mem x hx
    obtain ⟨b, eb, ka⟩ := h2.key sm h1
    exact ka.1.nt
  obtain ⟨ep, r⟩ := rawD_of dd nts
  exact ⟨.ref s.heap.objs.size, upd H s.heap.objs.size (.ext (RawD s.heap.objs.size es ep)), I.laid hk (Nat.le_refl _) (rawD_ok r), rfl, q _ _ hd ⟨es, ep, rfl, ⟨Inv.notSys I, ok.1, ok.2.2⟩, rx⟩⟩
theorem keys_nodup {es : List Ent} {ds : List (PV × PV)} (rx : RepX X.K F es ds) (hn : (ds.map fun kv => keyOf kv.1).Nodup) : (es.map (·.1)).Nodup := by
  rw [rx.keys, show (es.map fun x => some x.1) = (es.map (·.1)).map some by rw [List.map_map]; rfl] at hn
  exact nodup_some hn
def rDictP (K : PySem.W.Frag) : List V → Hp → VK → Prop := fun xs H Q => ∃ x F vs ds, xs = [x] ∧ Same F H ∧ Rep K F x (.lst vs) ∧ pairsOf vs = some ds ∧ KeysOk ds ∧ ∀ p o, H p = none → OwnO K F p o (.dic ds) → Q (.ref p) (upd H p o)
theorem call_dictP (hc : X.calm = true) (hu : X.A.units + 64 < cLine) : CallR X (.type "dict") (rDictP X.K) := by
  intro pins s σ H xs us Q I r h
  obtain ⟨x, F, vs, ds, rfl, sm, rv, hp, ok, q⟩ := h
  obtain ⟨u, rfl, ru⟩ := vals1 r
  rw [Rep] at rv
  obtain ⟨a, ys, rfl, hF, rr⟩ := rv
  cases (show u = Value.ref a from ru)
  obtain ⟨its, rv', ⟨o, n, ho, hcl, hdn, hdat⟩, hz⟩ := I.list (.inl (.inl (sm _ _ hF)))
  obtain ⟨ts, es, e1, e2, rx, hpt⟩ := pairs_at I sm vs rr hp ok.2.1 rv'
  have hel : es.length = ds.length := rx.len
  have hat : ∀ (j : Nat) (k v : Value), (es.map fun e => (Value.ref e.2.1, e.2.2))[j]? = some (k, v) → its.toArray[j]? = some (.ref (ts.getD j 0)) ∧ PairAt s.heap (ts.getD j 0) k v := fun j k v hj => by
    rw [List.getElem?_map] at hj
    obtain ⟨e, he, ee⟩ := Option.map_eq_some_iff.mp hj
    cases ee
    have hl := (List.getElem?_eq_some_iff.mp he).1
    have ht : ts[j]? = some (ts.getD j 0) := by rw [List.getD_eq_getElem?_getD, List.getElem?_eq_getElem (by omega)]; rfl
    refine ⟨?_, .inl (hpt j _ e ht he)⟩
    rw [List.getElem?_toArray, e1, List.getElem?_map, ht]; rfl
  have nd := keys_nodup rx ok.2.2
  have isk : ∀ x ∈ es, (nestedKind X.prog X.w).is s.heap x.1 x.2.1 := fun x hx => by
    obtain ⟨kp, h1, h2⟩ := rx.mem x hx
    obtain ⟨b, eb, ka⟩ := h2.key sm h1
    cases eb
    exact ka.is I.hok
  refine call_dict_pairsH (knd := nestedKind X.prog X.w) (ps := es) (PairArg.list a its.toArray (fun j => ts.getD j 0) (es.map fun e => (Value.ref e.2.1, e.2.2))) (I.ok.hd hc) ?_ ⟨⟨o, n, ho, hcl, hdn, hdat⟩, ?_, hat⟩ ⟨?_, ?_⟩ ?_ ?_ fun h' tk dd hk => ?_
  · show X.A.units + 1 + 1 + 8 < cLine; omega
  · rw [List.size_toArray, e1, List.length_map, List.length_map, e2]
  · rw [List.length_map]
  · intro i k v hr
    have hr' : (es.map fun e => (Value.ref e.2.1, e.2.2))[i]? = some (k, v) := hr
    rw [List.getElem?_map] at hr'
    obtain ⟨e, he, ee⟩ := Option.map_eq_some_iff.mp hr'
    cases ee
    exact ⟨e.1, e.2.1, he, rfl⟩
  · intro h' hk x hx
    exact HeapKind.Stays.all nestedKind_stays h' (fun b o' _ e => hk b o' (Nat.ne_of_lt (Heap.lt_size e)) (fun z => nomatch z) e) _ _ (isk x hx)
  · rw [List.length_map, hel]; exact Nat.le_trans ok.1 (by decide)
  · rw [storedAllH_nil_of_nodup es nd] at dd
    exact laid_dict I sm rx ok dd (fun b o e => hk b o (fun z => nomatch z) e) q
def mDictP : CW := fun vs k => match vs with
  | [.lst xs] => ∃ ds, pairsOf xs = some ds ∧ KeysOk ds ∧ k (.dic ds)
  | _ => False
theorem pf_dictP {p pos : Pos} {e : Expr} {fa : AW} (hc : X.calm = true) (hu : X.A.units + 64 < cLine) (hg : Gl X "dict") (hm : X.mg "dict" = none) (hv : bootBuiltins "dict" = some (.type "dict")) (ha : PPs X [e] fa) (he : starEach [e] X.env = (false, eval e X.env) :: starEach [] X.env := by rfl) (hpl : (backTo pos (starEach [] X.env)).any (·.1) = false := by rfl) :
    PF X (.Call (.Name "dict" p) [e] [] pos) (eCall mDictP fa) := PE.weak (pe_callTy (call_dictP hc hu) hg hm hv ha (by decide) (by decide) he hpl) fun σ H Q ⟨B, F, ρ, P, w, p, q⟩ => by
  refine ⟨B, F, ρ, _, w, p, fun vs xs F1 H1 p1 e1 r1 => ?_⟩
  unfold mDictP at p1
  split at p1
  case h_2 => exact p1.elim
  obtain ⟨ds, e2, ok, p2⟩ := p1
  obtain ⟨x, rfl, rx⟩ := r1.one
  have w1 := w.ext e1
  exact ⟨x, F1, _, ds, rfl, w1.fh, rx, e2, ok, fun c o hc ho => q _ c o F1 _ p2 (e1.trans (.own w1.fh (fun a b => (w1.bx a b).2) hc)) (none_of w1.fh hc) (e1.none hc) upd_same ho⟩
end
end KV

namespace KV
open PySem PySem.Spec PyProof.Rows L2 KGX
/-! ### sets as rows of noughts and ones -/
def vecW (n : Nat) (S : List Int) : List Int := (rg n).map fun k => if S.contains k = true then 1 else 0
def ndW (n : Nat) (l : List Int) : List Nat := (List.range n).filter fun k => decide (0 < l.getD k 0)
theorem vecW_ok : ((List.range 6).all fun n => (allSub (rg n)).all fun S =>
    decide ((ndW n (vecW n S)).map Int.ofNat = S) && decide (vecW n S ∈ allL (List.replicate n 1)) && S.all fun k => decide (0 ≤ k) && decide (lessK (vecW n S) k.toNat = vecW n (S.filter fun j => decide (j ≠ k)))) = true := by decide +kernel
structure VecW (n : Nat) (S : List Int) : Prop where
  nd : (ndW n (vecW n S)).map Int.ofNat = S
  mem : vecW n S ∈ allL (List.replicate n 1)
  less : ∀ k ∈ S, 0 ≤ k ∧ lessK (vecW n S) k.toNat = vecW n (S.filter fun j => decide (j ≠ k))
theorem vecW_of {n : Nat} {S : List Int} (h : n ≤ 5) (hS : S ∈ allSub (rg n)) : VecW n S := by
  have o := List.all_eq_true.mp vecW_ok n (List.mem_range.mpr (by omega))
  have o1 := List.all_eq_true.mp o S hS
  simp only [Bool.and_eq_true, decide_eq_true_eq, List.all_eq_true] at o1
  exact ⟨o1.1.1, o1.1.2, o1.2⟩
/-- the due number of some kinds by the numbers of fewer -/
def dueQ (ns : List Int) (f : List Int → Rat) (S : List Int) : Rat := ((ns.sum : Rat) + (S.map fun k => (sh ns k : Rat) * f (S.filter fun j => decide (j ≠ k))).sum) * ((1 : Int) / ((pick ns S).sum : Rat))
def vS (ns : List Int) (c : Int) (fin : List Int → Option Rat) (S : List Int) : Rat := mnU ns c fin (vecW ns.length S)
theorem vS_eq {ns S : List Int} {c : Int} {fin : List Int → Option Rat} (hn : ns.length ≤ 5) (hS : S ∈ allSub (rg ns.length)) (hf : fin (vecW ns.length S) = none) :
    vS ns c fin S = ((c : Rat) + (S.map fun k => (sh ns k : Rat) * vS ns c fin (S.filter fun j => decide (j ≠ k))).sum) * ((1 : Int) / ((pick ns S).sum : Rat)) := by
  have v := vecW_of hn hS
  unfold vS
  rw [mnU_eq (allL_nn v.mem) hf]
  have e0 : ndK ns (vecW ns.length S) = ndW ns.length (vecW ns.length S) := rfl
  have em : ∀ {α : Type} (f : Int → α), S.map f = (ndW ns.length (vecW ns.length S)).map fun k => f (Int.ofNat k) := fun {α} f => by
    conv => lhs; rw [← v.nd]
    rw [List.map_map]; rfl
  have e1 : ((ndK ns (vecW ns.length S)).map fun k => (ns.getD k 0 : Rat) * mnU ns c fin (lessK (vecW ns.length S) k)) = S.map fun k => (sh ns k : Rat) * mnU ns c fin (vecW ns.length (S.filter fun j => decide (j ≠ k))) := by
    have : (S.map fun k => (sh ns k : Rat) * mnU ns c fin (vecW ns.length (S.filter fun j => decide (j ≠ k)))) = S.map fun k => (sh ns k : Rat) * mnU ns c fin (lessK (vecW ns.length S) k.toNat) :=
      List.map_congr_left fun k hk => by rw [(v.less k hk).2]
    rw [this, em, e0]
    exact List.map_congr_left fun k _ => rfl
  have e2 : wK ns (vecW ns.length S) = (pick ns S).sum := by
    unfold wK pick
    rw [em, e0]
    rfl
  rw [e1, e2]
/-! ### a plan: W is where one buys -/
def finB (n : Nat) (W : List Int → Bool) (g : Nat → Rat) (l : List Int) : Option Rat :=
  let S := (ndW n l).map Int.ofNat
  if S = [] then some 0 else if W S = true then some (g S.length) else none
/-- the mean cost of a plan -/
def pS (ns : List Int) (pr : Int) (W : List Int → Bool) (S : List Int) : Rat := vS ns ns.sum (finB ns.length W fun _ => 0) S + (pr : Rat) * vS ns 0 (finB ns.length W fun m => (m : Rat)) S
theorem nil_sub : ∀ n : Nat, n ≤ 5 → [] ∈ allSub (rg n) := by decide +kernel
theorem finB_nil {ns : List Int} {W : List Int → Bool} {g : Nat → Rat} (hn : ns.length ≤ 5) : finB ns.length W g (vecW ns.length []) = some 0 := by
  have v := vecW_of hn (nil_sub _ hn)
  unfold finB
  simp only [v.nd]
  rfl
theorem finB_buy {ns S : List Int} {W : List Int → Bool} {g : Nat → Rat} (hn : ns.length ≤ 5) (hS : S ∈ allSub (rg ns.length)) (h0 : S ≠ []) (hw : W S = true) : finB ns.length W g (vecW ns.length S) = some (g S.length) := by
  have v := vecW_of hn hS
  unfold finB
  simp only [v.nd]
  rw [if_neg h0, if_pos hw]
theorem finB_draw {ns S : List Int} {W : List Int → Bool} {g : Nat → Rat} (hn : ns.length ≤ 5) (hS : S ∈ allSub (rg ns.length)) (h0 : S ≠ []) (hw : W S = false) : finB ns.length W g (vecW ns.length S) = none := by
  have v := vecW_of hn hS
  unfold finB
  simp only [v.nd]
  rw [if_neg h0, if_neg (by rw [hw]; decide)]
theorem pS_nil {ns : List Int} {pr : Int} {W : List Int → Bool} (hn : ns.length ≤ 5) : pS ns pr W [] = 0 := by
  unfold pS vS
  rw [mnU_fin (finB_nil hn), mnU_fin (finB_nil hn)]; grind
theorem pS_buy {ns S : List Int} {pr : Int} {W : List Int → Bool} (hn : ns.length ≤ 5) (hS : S ∈ allSub (rg ns.length)) (h0 : S ≠ []) (hw : W S = true) : pS ns pr W S = ((pr * (S.length : Int) : Int) : Rat) := by
  unfold pS vS
  rw [mnU_fin (finB_buy hn hS h0 hw), mnU_fin (finB_buy hn hS h0 hw), Rat.intCast_mul]
  rw [show ((S.length : Int) : Rat) = (S.length : Rat) from rfl]
  grind
theorem pS_draw {ns S : List Int} {pr : Int} {W : List Int → Bool} (hn : ns.length ≤ 5) (hS : S ∈ allSub (rg ns.length)) (h0 : S ≠ []) (hw : W S = false) : pS ns pr W S = dueQ ns (pS ns pr W) S := by
  have e1 := vS_eq (c := ns.sum) hn hS (finB_draw (W := W) (g := fun _ => 0) hn hS h0 hw)
  have e2 := vS_eq (c := 0) hn hS (finB_draw (W := W) (g := fun m => (m : Rat)) hn hS h0 hw)
  unfold pS dueQ
  rw [e1, e2]
  have e3 : (S.map fun k => (sh ns k : Rat) * (vS ns ns.sum (finB ns.length W fun _ => 0) (S.filter fun j => decide (j ≠ k)) + (pr : Rat) * vS ns 0 (finB ns.length W fun m => (m : Rat)) (S.filter fun j => decide (j ≠ k)))).sum
      = (S.map fun k => (sh ns k : Rat) * vS ns ns.sum (finB ns.length W fun _ => 0) (S.filter fun j => decide (j ≠ k))).sum + (pr : Rat) * (S.map fun k => (sh ns k : Rat) * vS ns 0 (finB ns.length W fun m => (m : Rat)) (S.filter fun j => decide (j ≠ k))).sum := by
    have : ∀ T : List Int, (T.map fun k => (sh ns k : Rat) * (vS ns ns.sum (finB ns.length W fun _ => 0) (S.filter fun j => decide (j ≠ k)) + (pr : Rat) * vS ns 0 (finB ns.length W fun m => (m : Rat)) (S.filter fun j => decide (j ≠ k)))).sum
      = (T.map fun k => (sh ns k : Rat) * vS ns ns.sum (finB ns.length W fun _ => 0) (S.filter fun j => decide (j ≠ k))).sum + (pr : Rat) * (T.map fun k => (sh ns k : Rat) * vS ns 0 (finB ns.length W fun m => (m : Rat)) (S.filter fun j => decide (j ≠ k))).sum := by
      intro T
      induction T with
      | nil => simp only [List.map_nil, List.sum_nil]; grind
      | cons k T ih => simp only [List.map_cons, List.sum_cons]; rw [ih]; grind
    exact this S
  rw [e3, show ((0 : Int) : Rat) = 0 from rfl]
  grind
theorem finB_ok {ns : List Int} (g : Good ns) {c : Int} {W : List Int → Bool} {f : Nat → Rat} (h0 : 0 ≤ c) (h1 : c ≤ 45) (hf : ∀ m, m ≤ 5 → ∃ i : Int, f m = i ∧ 0 ≤ i ∧ i ≤ 5) : FinOk ns c (finB ns.length W f) (List.replicate ns.length 1) := by
  have hlen : ∀ l, ((ndW ns.length l).map Int.ofNat).length ≤ 5 := fun l => by
    rw [List.length_map]
    have := List.length_filter_le (fun k => decide (0 < l.getD k 0)) (List.range ns.length)
    rw [List.length_range] at this
    have := g.2.1
    unfold ndW; omega
  refine ⟨h0, h1, fun l hl x h => ?_, fun l hl h z => ?_⟩
  · unfold finB at h
    simp only at h
    split at h
    · cases h; exact ⟨0, rfl, by decide, by decide⟩
    · split at h
      · cases h; exact hf _ (hlen l)
      · exact nomatch h
  · unfold finB at h
    have e : ndW ns.length l = [] := z
    rw [e] at h
    exact nomatch h
theorem onesW : ∀ {n : Nat}, ∀ x ∈ List.replicate n (1 : Int), 0 ≤ x ∧ x ≤ 3 := fun {n} x hx => by have := (List.mem_replicate.mp hx).2; omega
theorem prodL_ones : ∀ n : Nat, prodL (List.replicate n 1) = 2 ^ n
  | 0 => rfl
  | n + 1 => by
    rw [List.replicate_succ]
    show 2 * prodL (List.replicate n 1) = _
    rw [prodL_ones n, Nat.pow_succ, Nat.mul_comm]
theorem sumW15 : ∀ {l : List Int}, (∀ x ∈ l, x ≤ 1) → l.length ≤ 5 → l.sum ≤ 15 := fun {l} h hl => by
  have : ∀ l : List Int, (∀ x ∈ l, x ≤ 1) → l.sum ≤ l.length := by
    intro l
    induction l with
    | nil => intro _; decide
    | cons a l ih =>
      intro h
      have := h a List.mem_cons_self
      have := ih fun x hx => h x (List.mem_cons_of_mem _ hx)
      rw [List.sum_cons, List.length_cons]; omega
  have := this l h
  omega
theorem vecW_le {n : Nat} {S : List Int} : (∀ x ∈ vecW n S, x ≤ 1) ∧ (vecW n S).length = n := by
  unfold vecW
  refine ⟨fun x hx => ?_, by rw [List.length_map, rg_len]⟩
  obtain ⟨k, _, rfl⟩ := List.mem_map.mp hx
  split <;> decide
theorem vS_sz {ns S : List Int} {c : Int} {fin : List Int → Option Rat} (g : Good ns) (ok : FinOk ns c fin (List.replicate ns.length 1)) (hS : S ∈ allSub (rg ns.length)) : Sz 380 (vS ns c fin S) := by
  have hn := g.2.1
  have v := vecW_of hn hS
  refine mnU_sz g ok ?_ (sumW15 (fun x hx => by have := (List.mem_replicate.mp hx).2; omega) (by rw [List.length_replicate]; omega)) (fun x hx => (onesW x hx).1) v.mem (sumW15 vecW_le.1 (by rw [vecW_le.2]; exact hn))
  rw [prodL_ones]
  exact Nat.le_trans (Nat.pow_le_pow_right (by decide) hn) (by decide)
theorem pS_sz {ns S : List Int} {pr : Int} {W : List Int → Bool} (g : Good ns) (h0 : 0 ≤ pr) (h1 : pr ≤ 100) (hS : S ∈ allSub (rg ns.length)) : Sz 768 (pS ns pr W S) := by
  have hs := g.sum_pos
  have a := vS_sz g (finB_ok g (W := W) (f := fun _ => 0) (by omega) hs.2 fun m _ => ⟨0, rfl, by decide, by decide⟩) hS
  have b := vS_sz g (finB_ok g (c := 0) (W := W) (f := fun m => (m : Rat)) (by decide) (by decide) fun m hm => ⟨(m : Int), rfl, by omega, by omega⟩) hS
  exact (a.add ((sz_int (n := 7) (by omega) (by decide)).mul b)).mono (by decide)
/-! ### the least cost -/
def cU (ns : List Int) (pr : Int) : Nat → List Int → Rat
  | 0, _ => 0
  | f + 1, S => if ((pr * (S.length : Int) : Int) : Rat) ≤ dueQ ns (cU ns pr f) S then ((pr * (S.length : Int) : Int) : Rat) else dueQ ns (cU ns pr f) S
def cS (ns : List Int) (pr : Int) (S : List Int) : Rat := cU ns pr S.length S
def buyW (ns : List Int) (pr : Int) (S : List Int) : Bool := decide (((pr * (S.length : Int) : Int) : Rat) ≤ dueQ ns (cS ns pr) S)
theorem cS_nil {ns : List Int} {pr : Int} : cS ns pr [] = 0 := rfl
theorem dueQ_congr {ns S : List Int} {f h : List Int → Rat} (e : ∀ k ∈ S, f (S.filter fun j => decide (j ≠ k)) = h (S.filter fun j => decide (j ≠ k))) : dueQ ns f S = dueQ ns h S := by
  unfold dueQ
  have : (S.map fun k => (sh ns k : Rat) * f (S.filter fun j => decide (j ≠ k))) = S.map fun k => (sh ns k : Rat) * h (S.filter fun j => decide (j ≠ k)) := List.map_congr_left fun k hk => by rw [e k hk]
  rw [this]
theorem filter_len1 : ∀ {S : List Int} {k : Int}, Rise S → k ∈ S → (S.filter fun j => decide (j ≠ k)).length + 1 = S.length
  | [], k, _, h => nomatch h
  | a :: S, k, hr, h => by
    have hr2 := List.pairwise_cons.mp hr
    rw [List.filter_cons]
    by_cases e : a = k
    · subst e
      rw [if_neg (by simp)]
      have : (S.filter fun j => decide (j ≠ a)) = S := List.filter_eq_self.mpr fun x hx => decide_eq_true (by have := hr2.1 x hx; omega)
      rw [this, List.length_cons]
    · rw [if_pos (by simpa using e), List.length_cons, List.length_cons, filter_len1 hr2.2 (by rcases List.mem_cons.mp h with rfl | h <;> first | exact (e rfl).elim | exact h)]
theorem dueQ_cU {ns S : List Int} {pr : Int} {f : Nat} (hr : Rise S) (hl : S.length = f + 1) : dueQ ns (cU ns pr f) S = dueQ ns (cS ns pr) S := dueQ_congr fun k hk => by
  have := filter_len1 hr hk
  unfold cS
  rw [show (S.filter fun j => decide (j ≠ k)).length = f by omega]
theorem cS_eq {ns S : List Int} {pr : Int} (hr : Rise S) (h0 : S ≠ []) : cS ns pr S = if buyW ns pr S = true then ((pr * (S.length : Int) : Int) : Rat) else dueQ ns (cS ns pr) S := by
  have hl := List.length_pos_iff.mpr h0
  obtain ⟨f, hf⟩ : ∃ f, S.length = f + 1 := ⟨S.length - 1, by omega⟩
  unfold buyW
  conv => lhs; unfold cS; rw [hf, cU]
  rw [dueQ_cU hr hf]
  by_cases z : ((pr * (S.length : Int) : Int) : Rat) ≤ dueQ ns (cS ns pr) S
  · rw [if_pos z, if_pos (decide_eq_true z)]
  · rw [if_neg z, if_neg (by simpa using z)]
/-- by the number of kinds -/
theorem sub_ind {n : Nat} {P : List Int → Prop} (hn : n ≤ 5) (nil : P []) (step : ∀ S, S ∈ allSub (rg n) → S ≠ [] → Rise S → (∀ k ∈ S, 0 ≤ k ∧ k < n) → (∀ k ∈ S, P (S.filter fun j => decide (j ≠ k))) → P S) : ∀ (m : Nat) (S : List Int), S.length ≤ m → S ∈ allSub (rg n) → P S
  | 0, S, h, _ => by rw [List.eq_nil_of_length_eq_zero (by omega : S.length = 0)]; exact nil
  | m + 1, S, h, hS => by
    obtain ⟨i, _, _, sa⟩ := sub_all hn hS
    by_cases h0 : S = []
    · subst h0; exact nil
    · refine step S hS h0 sa.rise sa.mem fun k hk => sub_ind hn nil step m _ ?_ (List.mem_of_mem_take (sa.fewer k hk))
      have := filter_len1 sa.rise hk
      omega
theorem sub_indA {n : Nat} {P : List Int → Prop} (hn : n ≤ 5) (nil : P []) (step : ∀ S, S ∈ allSub (rg n) → S ≠ [] → Rise S → (∀ k ∈ S, 0 ≤ k ∧ k < n) → (∀ k ∈ S, P (S.filter fun j => decide (j ≠ k))) → P S) {S : List Int} (hS : S ∈ allSub (rg n)) : P S := sub_ind hn nil step S.length S (Nat.le_refl _) hS
theorem cS_pS {ns : List Int} {pr : Int} (hn : ns.length ≤ 5) {S : List Int} (hS : S ∈ allSub (rg ns.length)) : cS ns pr S = pS ns pr (buyW ns pr) S := by
  refine sub_indA (P := fun S => cS ns pr S = pS ns pr (buyW ns pr) S) hn (by rw [cS_nil, pS_nil hn]) (fun S hS h0 hr _ ih => ?_) hS
  show cS ns pr S = pS ns pr (buyW ns pr) S
  rw [cS_eq hr h0]
  cases e : buyW ns pr S with
  | true => rw [if_pos rfl, pS_buy hn hS h0 e]
  | false => rw [if_neg (by decide), pS_draw hn hS h0 e, dueQ_congr ih]
theorem dueQ_le {ns S : List Int} {f h : List Int → Rat} (g : Good ns) (h0 : S ≠ []) (s1 : ∀ k ∈ S, 0 ≤ k ∧ k < ns.length) (s2 : S.length ≤ 5) (e : ∀ k ∈ S, f (S.filter fun j => decide (j ≠ k)) ≤ h (S.filter fun j => decide (j ≠ k))) : dueQ ns f S ≤ dueQ ns h S := by
  have hw := pick_pos g h0 s1 s2
  have a : (S.map fun k => (sh ns k : Rat) * f (S.filter fun j => decide (j ≠ k))).sum ≤ (S.map fun k => (sh ns k : Rat) * h (S.filter fun j => decide (j ≠ k))).sum := sumR_le fun k hk => by
    have := sh_good g (s1 k hk)
    exact Rat.mul_le_mul_of_nonneg_left (e k hk) (by exact_mod_cast (show 0 ≤ sh ns k by omega))
  unfold dueQ
  have hp : (0 : Rat) < ((pick ns S).sum : Rat) := by exact_mod_cast hw.1
  refine Rat.mul_le_mul_of_nonneg_right (by grind) ?_
  rw [show ((1 : Int) : Rat) = 1 from rfl, rle_div hp]; grind
/-- no plan costs less -/
theorem cS_le {ns : List Int} {pr : Int} {W : List Int → Bool} (g : Good ns) {S : List Int} (hS : S ∈ allSub (rg ns.length)) : cS ns pr S ≤ pS ns pr W S := by
  have hn := g.2.1
  refine sub_indA (P := fun S => cS ns pr S ≤ pS ns pr W S) hn (by rw [cS_nil, pS_nil hn]; exact Rat.le_refl) (fun S hS h0 hr hm ih => ?_) hS
  show cS ns pr S ≤ pS ns pr W S
  have hl : S.length ≤ 5 := by have := allSub_le ns.length (rg ns.length) (rg_len _) S hS; omega
  have hd := dueQ_le (f := cS ns pr) (h := pS ns pr W) g h0 hm hl ih
  rw [cS_eq hr h0]
  cases e : W S with
  | true =>
    rw [pS_buy hn hS h0 e]
    cases e2 : buyW ns pr S with
    | true => rw [if_pos rfl]; exact Rat.le_refl
    | false =>
      rw [if_neg (by decide)]
      have := of_decide_eq_false e2
      exact Rat.le_of_lt (Rat.not_le.mp this)
  | false =>
    rw [pS_draw hn hS h0 e]
    cases e2 : buyW ns pr S with
    | true => rw [if_pos rfl]; exact Rat.le_trans (of_decide_eq_true e2) hd
    | false => rw [if_neg (by decide)]; exact hd
/-- a greater price costs no less -/
theorem cS_mono {ns : List Int} {p q : Int} (g : Good ns) (hpq : p ≤ q) {S : List Int} (hS : S ∈ allSub (rg ns.length)) : cS ns p S ≤ cS ns q S := by
  have hn := g.2.1
  refine sub_indA (P := fun S => cS ns p S ≤ cS ns q S) hn (by rw [cS_nil, cS_nil]; exact Rat.le_refl) (fun S hS h0 hr hm ih => ?_) hS
  show cS ns p S ≤ cS ns q S
  have hl : S.length ≤ 5 := by have := allSub_le ns.length (rg ns.length) (rg_len _) S hS; omega
  have hd := dueQ_le (f := cS ns p) (h := cS ns q) g h0 hm hl ih
  have hb : ((p * (S.length : Int) : Int) : Rat) ≤ ((q * (S.length : Int) : Int) : Rat) := by exact_mod_cast Int.mul_le_mul_of_nonneg_right hpq (by omega)
  rw [cS_eq hr h0, cS_eq hr h0]
  cases e : buyW ns p S with
  | true =>
    rw [if_pos rfl]
    cases e2 : buyW ns q S with
    | true => rw [if_pos rfl]; exact hb
    | false => rw [if_neg (by decide)]; exact Rat.le_trans (of_decide_eq_true e) hd
  | false =>
    rw [if_neg (by decide)]
    cases e2 : buyW ns q S with
    | true => rw [if_pos rfl]; exact Rat.le_trans (Rat.le_of_lt (Rat.not_le.mp (of_decide_eq_false e))) hb
    | false => rw [if_neg (by decide)]; exact hd
theorem fV_due {ns S : List Int} (g : Good ns) (hr : Rise S) (h0 : S ≠ []) (hm : ∀ k ∈ S, 0 ≤ k ∧ k < ns.length) (hl : S.length ≤ 5) : fV ns S = dueQ ns (fV ns) S := by
  have hw := pick_pos g h0 hm hl
  unfold dueQ
  rw [fV_rec hr h0 fun k hk => by have := sh_good g (hm k hk); omega]
  have hne : (((pick ns S).sum : Int) : Rat) ≠ 0 := cast_ne hw.1
  rw [show ((1 : Int) : Rat) = 1 from rfl]
  grind
/-- drawing alone -/
theorem pS_drawn {ns : List Int} {pr : Int} (g : Good ns) {S : List Int} (hS : S ∈ allSub (rg ns.length)) : pS ns pr (fun _ => false) S = fV ns S := by
  have hn := g.2.1
  refine sub_indA (P := fun S => pS ns pr (fun _ => false) S = fV ns S) hn (by rw [pS_nil hn, fV_nil]) (fun S hS h0 hr hm ih => ?_) hS
  show pS ns pr (fun _ => false) S = fV ns S
  have hl : S.length ≤ 5 := by have := allSub_le ns.length (rg ns.length) (rg_len _) S hS; omega
  rw [pS_draw hn hS h0 rfl, dueQ_congr ih, fV_due g hr h0 hm hl]
theorem left_okP : ∀ n : Nat, n ≤ 5 → ((allSub (rg n)).filter fun S => decide (0 < S.length)) = (allSub (rg n)).drop 1 ∧ (allSub (rg n)).take 1 = [[]] := by decide +kernel
theorem cS_sz {ns S : List Int} {pr : Int} (g : Good ns) (p0 : 0 ≤ pr) (p1 : pr ≤ 100) (hS : S ∈ allSub (rg ns.length)) : Sz 768 (cS ns pr S) := by
  rw [cS_pS g.2.1 hS]; exact pS_sz g p0 p1 hS
def valC (ns : List Int) (pr : Int) (S : List Int) : PV := if S = [] then .cst [.int 0, .int 1] else frP (cS ns pr S)
theorem valC_fr {ns : List Int} {pr : Int} (S : List Int) : IsFr (valC ns pr S) (cS ns pr S) := by
  unfold valC
  split
  · rename_i h; subst h; rw [cS_nil]; exact .inr rfl
  · exact .of
theorem buy_if {ns S : List Int} {pr : Int} (hr : Rise S) (h0 : S ≠ []) : (if ((pr * (S.length : Int) : Int) : Rat) ≤ dueQ ns (cS ns pr) S then ((pr * (S.length : Int) : Int) : Rat) else dueQ ns (cS ns pr) S) = cS ns pr S := by
  rw [cS_eq hr h0]
  unfold buyW
  by_cases z : ((pr * (S.length : Int) : Int) : Rat) ≤ dueQ ns (cS ns pr) S
  · rw [if_pos z, if_pos (decide_eq_true z)]
  · rw [if_neg z, if_neg (by simpa using z)]
end KV

namespace KV
open PySem PySem.Spec PyProof.Rows L2 KGX
open PySem.W (AllAlike Sortable dataLe EachIs)
/-! ### dict(d): a new dict of the same entries -/
section
variable {prog : Program} {w : World} {KK : Type} [DecidableEq KK] {knd : HeapKind prog w KK} {A : Around} {E : Value → Shared → Prop} {s : Shared}
theorem dict_of_dict {c : Addr} {es : List (KK × Addr × Value)} {Q : Value → Shared → Prop} (hu : knd.room A.in1.in1) (hs : (c == sysModules) = false) (dc : s.heap.DictOfH knd c es) (his : ∀ h', (∀ b u, s.heap.get? b = some u → h'.get? b = some u) → ∀ x ∈ es, knd.is h' x.1 x.2.1)
    (hty : ∀ x ∈ es, s.TypeIs (.ref x.2.1) "tuple") (hap : (es.map fun x => knd.hash x.1).Nodup) (hz : es.length ≤ sizeLine)
    (fin : ∀ h', h'.DictOfH knd s.heap.objs.size es → (∀ b u, s.heap.get? b = some u → h'.get? b = some u) → Q (.ref s.heap.objs.size) { s with heap := h' }) : wpAny (model prog w) A (call (.type "dict") [.ref c]) Q E s := by
  have old : ∀ b u, s.heap.get? b = some u → (s.heap.push { cls := .type "dict", data := .dict #[] }).get? b = some u := fun b u e => Heap.get?_push_of_some _ e
  have ne : s.heap.objs.size ≠ c := fun z => by
    obtain ⟨u, _, _, g, _⟩ := dc
    exact absurd (Heap.lt_size g) (by rw [z]; exact Nat.lt_irrefl _)
  have dn : (s.heap.push { cls := .type "dict", data := .dict #[] }).DictOfH knd s.heap.objs.size [] := .new s.heap
  have dc' : (s.heap.push { cls := .type "dict", data := .dict #[] }).DictOfH knd c es := dc.at' (fun u e => old c u e) (his _ old)
  have ty' : ∀ x ∈ es, Shared.TypeIs { s with heap := s.heap.push { cls := .type "dict", data := .dict #[] } } (.ref x.2.1) "tuple" := fun x hx => by
    obtain ⟨u, g, q⟩ := hty x hx
    exact ⟨u, old _ u g, q⟩
  refine callType_codes (Q₁ := fun u t => u = .ref s.heap.objs.size ∧ t = { s with heap := s.heap.push { cls := .type "dict", data := .dict #[] } })
    F.kt_called_dict (F.kt_typeCall_dict_1 _)
    F.entry_dict_init (kt_code_dict_new _ ⟨rfl, rfl⟩) fun u t ⟨e1, e2⟩ => ?_
  subst e1 e2
  refine ⟨dn.typeIs, F.args_dict_init_2 _ _, ?_⟩
  unfold Builtin.«dict.__init__»
  refine wpAny_bind ?_
  delta Builtin.Dict.selfAndRest
  refine wpAny_bind (wpAny_notOrdered_dict dn.typeIs ?_)
  refine wpAny_pure ?_
  refine updateFrom_dictH (A := A.in1) (kvs := []) .none hu ne hs dn dc' (.inr ⟨ty', hap⟩) (by simpa using hz) fun h' d' _ sb => ?_
  rw [storedAllH_nil_of_nodup es dc.nodup] at d'
  exact ⟨rfl, fin h' d' fun b u e => sb.extBut b u (Nat.ne_of_lt (Heap.lt_size e)) (old b u e)⟩
end
section
variable {X : Cx} {pins : List (Addr × Obj)} {σ : L2.St} {F H : Hp} {s : Shared}
/-- no two keys hash alike -/
def HashOk (ds : List (PV × PV)) : Prop := ∀ w : World, ((ds.filterMap fun kv => keyOf kv.1).map fun k => k.hash w).Nodup
theorem keys_fm {K : PySem.W.Frag} : ∀ {es : List Ent} {ds : List (PV × PV)}, RepX K F es ds → (ds.filterMap fun kv => keyOf kv.1) = es.map (·.1)
  | [], [], _ => rfl
  | e :: es, (k, d) :: ds, h => by
    rw [RepX] at h
    rw [List.filterMap_cons, h.1.1, List.map_cons, keys_fm h.2]
  | [], _ :: _, h => by rw [RepX] at h; exact h.elim
  | _ :: _, [], h => by rw [RepX] at h; exact h.elim
def rDictC (K : PySem.W.Frag) : List V → Hp → VK → Prop := fun xs H Q => ∃ x F ds, xs = [x] ∧ Same F H ∧ Rep K F x (.dic ds) ∧ HashOk ds ∧ ∀ p o, H p = none → OwnO K F p o (.dic ds) → Q (.ref p) (upd H p o)
theorem call_dictC (hu : X.A.units + 64 < cLine) : CallR X (.type "dict") (rDictC X.K) := by
  intro pins s σ H xs us Q I r h
  obtain ⟨x, F, ds, rfl, sm, rv, hh, q⟩ := h
  obtain ⟨u, rfl, ru⟩ := vals1 r
  obtain ⟨a, es, ep, rfl, hF, md, dk, rx⟩ := rv.dic sm
  cases (show u = Value.ref a from ru)
  have ok : KeysOk ds := ⟨dk.2.1, fun kv hkv => by
    obtain ⟨i, hi⟩ := List.getElem?_of_mem hkv
    have hm := dk.2.2
    rw [rx.keys] at hm
    have e : keyOf kv.1 ∈ ds.map fun kv => keyOf kv.1 := List.mem_map.mpr ⟨kv, hkv, rfl⟩
    rw [rx.keys] at e
    obtain ⟨z, _, ez⟩ := List.mem_map.mp e
    exact ⟨z.1, ez.symm⟩, dk.2.2⟩
  have dd := md.dict I.hok
  have tup : ∀ y ∈ es, s.TypeIs (.ref y.2.1) "tuple" := keyed_apart nestedKind_stays dd
  refine dict_of_dict (knd := nestedKind X.prog X.w) (es := es) (by show X.A.units + 1 + 1 + 8 < cLine; omega) md.2.1 dd (fun h' hk y hy => ?_) tup ?_ md.sz fun h' d' hk => ?_
  · exact HeapKind.Stays.all nestedKind_stays h' (fun b o _ e => hk b o e) _ _ ((md.2.2.2.2 y hy).is I.hok)
  · have := hh X.w
    rw [keys_fm rx, List.map_map] at this
    exact this
  · exact laid_dict (tk := s.toks) I sm rx ok d' hk q
def mDictC : CW := fun vs k => match vs with
  | [.dic ds] => HashOk ds ∧ k (.dic ds)
  | _ => False
theorem pf_dictC {p pos : Pos} {e : Expr} {fa : AW} (hu : X.A.units + 64 < cLine) (hg : Gl X "dict") (hm : X.mg "dict" = none) (hv : bootBuiltins "dict" = some (.type "dict")) (ha : PPs X [e] fa) (he : starEach [e] X.env = (false, eval e X.env) :: starEach [] X.env := by rfl) (hpl : (backTo pos (starEach [] X.env)).any (·.1) = false := by rfl) :
    PF X (.Call (.Name "dict" p) [e] [] pos) (eCall mDictC fa) := PE.weak (pe_callTy (call_dictC hu) hg hm hv ha (by decide) (by decide) he hpl) fun σ H Q ⟨B, F, ρ, P, w, p, q⟩ => by
  refine ⟨B, F, ρ, _, w, p, fun vs xs F1 H1 p1 e1 r1 => ?_⟩
  unfold mDictC at p1
  split at p1
  case h_2 => exact p1.elim
  obtain ⟨ok, p2⟩ := p1
  obtain ⟨x, rfl, rx⟩ := r1.one
  have w1 := w.ext e1
  exact ⟨x, F1, _, rfl, w1.fh, rx, ok, fun c o hc ho => q _ c o F1 _ p2 (e1.trans (.own w1.fh (fun a b => (w1.bx a b).2) hc)) (none_of w1.fh hc) (e1.none hc) upd_same ho⟩
/-! ### list(d), sorted(d): the keys -/
theorem keys_reps {K : PySem.W.Frag} : ∀ {es : List Ent} {ds : List (PV × PV)}, RepX K F es ds → Reps K F (es.map fun e => V.ref e.2.1) (ds.map (·.1))
  | [], [], _ => by rw [List.map_nil, List.map_nil, Reps]; trivial
  | e :: es, (k, d) :: ds, h => by
    rw [RepX] at h
    rw [List.map_cons, List.map_cons, Reps]
    exact ⟨h.1.2.1, keys_reps h.2⟩
  | [], _ :: _, h => by rw [RepX] at h; exact h.elim
  | _ :: _, [], h => by rw [RepX] at h; exact h.elim
theorem vals_refs : ∀ as : List Addr, Vals (as.map V.ref) (as.map Value.ref)
  | [] => .nil
  | a :: as => .cons rfl (vals_refs as)
theorem items_refs {xs : List Ent} {es : Array DictEntry} {acc : Array Value} (hl : es.size = xs.length) (ent : ∀ (i : Nat) (hi : i < es.size), ∃ x, xs[i]? = some x ∧ es[i].key = .ref x.2.1 ∧ es[i].val = x.2.2) (hi : ItemsOf (fun i v => ∃ hi : i < es.size, v = es[i].key) acc es.size) : acc.toList = (xs.map (·.2.1)).map Value.ref := by
  apply List.ext_getElem?
  intro i
  rw [Array.getElem?_toList, List.getElem?_map, List.getElem?_map]
  cases h : acc[i]? with
  | none =>
    have := Array.getElem?_eq_none_iff.mp h
    rw [hi.1, hl] at this
    rw [List.getElem?_eq_none this]; rfl
  | some v =>
    obtain ⟨hi2, ev⟩ := hi.2 i v h
    obtain ⟨x, hx, ek, _⟩ := ent i hi2
    rw [hx, ev, ek]; rfl
def rLstD (K : PySem.W.Frag) : List V → Hp → VK → Prop := fun xs H Q => ∃ x F ds, xs = [x] ∧ Same F H ∧ Rep K F x (.dic ds) ∧ ∀ p us, H p = none → Reps K F us (ds.map (·.1)) → Q (.ref p) (upd H p (.lst us))
theorem call_lstD (hc : X.calm = true) : CallR X (.type "list") (rLstD X.K) := by
  intro pins s σ H xs us Q I r h
  obtain ⟨x, F, ds, rfl, sm, rv, q⟩ := h
  obtain ⟨u, rfl, ru⟩ := vals1 r
  obtain ⟨a, es, ep, rfl, hF, md, dk, rx⟩ := rv.dic sm
  cases (show u = Value.ref a from ru)
  obtain ⟨ees, dr, hl, ent⟩ := MR.raw I (⟨sm _ _ hF, md.2.1⟩ : MR H a es ep)
  have hz : ees.size ≤ sizeLine := by rw [hl]; exact md.sz
  refine PySem.W.kdl_call (KdlSrc.rawDict (es := ees) (ep := ep) md.2.1) (I.ok.hd hc) dr hz fun h' tk acc c hk hg hi => ?_
  have ev := items_refs hl ent hi
  refine ⟨.ref s.heap.objs.size, upd H s.heap.objs.size (.lst (es.map fun e => V.ref e.2.1)), I.laid hk (Nat.le_refl _) ⟨?_, acc.toList, c, ?_, by rw [Array.toArray_toList]; exact hg⟩, rfl, q _ _ (I.hok.fresh (Nat.le_refl _)) (keys_reps rx)⟩
  · rw [List.length_map]; exact md.sz
  · rw [ev, show (es.map fun e => V.ref e.2.1) = (es.map (·.2.1)).map V.ref by rw [List.map_map]; rfl]
    exact vals_refs _
def mLstD : CW := fun vs k => match vs with
  | [.dic ds] => k (.lst (ds.map (·.1)))
  | _ => False
theorem pf_lstD {p pos : Pos} {e : Expr} {fa : AW} (hc : X.calm = true) (hg : Gl X "list") (hm : X.mg "list" = none) (hv : bootBuiltins "list" = some (.type "list")) (ha : PPs X [e] fa) (he : starEach [e] X.env = (false, eval e X.env) :: starEach [] X.env := by rfl) (hpl : (backTo pos (starEach [] X.env)).any (·.1) = false := by rfl) :
    PF X (.Call (.Name "list" p) [e] [] pos) (eCall mLstD fa) := PE.weak (pe_callTy (call_lstD hc) hg hm hv ha (by decide) (by decide) he hpl) fun σ H Q ⟨B, F, ρ, P, w, p, q⟩ => by
  refine ⟨B, F, ρ, _, w, p, fun vs xs F1 H1 p1 e1 r1 => ?_⟩
  unfold mLstD at p1
  split at p1
  case h_2 => exact p1.elim
  obtain ⟨x, rfl, rx⟩ := r1.one
  have w1 := w.ext e1
  exact ⟨x, F1, _, rfl, w1.fh, rx, fun c us hc hr => q _ c _ F1 _ p1 (e1.trans (.own w1.fh (fun a b => (w1.bx a b).2) hc)) (none_of w1.fh hc) (e1.none hc) upd_same hr⟩
end
end KV

namespace KV
open PySem PySem.Spec PyProof.Rows L2 KGX
open PySem.W (AllAlike Sortable dataLe EachIs)
/-! ### sorted of what is walked -/
mutual
theorem Reads.there {h : Heap} : ∀ {v : Value} {d : PyData} {as : List Addr}, Reads h v d as → ∀ a ∈ as, ∃ o, h.get? a = some o
  | _, _, _, .none, a, m => nomatch m
  | _, _, _, .bool _, a, m => nomatch m
  | _, _, _, .int _ _, a, m => nomatch m
  | _, _, _, .str _ _, a, m => nomatch m
  | _, _, _, .list e _ _ r, a, m => by
    rcases List.mem_cons.mp m with rfl | m
    · exact ⟨_, e⟩
    · exact ReadsAll.there r a m
  | _, _, _, .tuple _ _ _ r, a, m => ReadsAll.there r a m
  | _, _, _, .dict e _ _ r1 r2, a, m => by
    rcases List.mem_append.mp m with m | m
    · rcases List.mem_cons.mp m with rfl | m
      · exact ⟨_, e⟩
      · exact ReadsAll.there r1 a m
    · exact ReadsAll.there r2 a m
theorem ReadsAll.there {h : Heap} : ∀ {vs : List Value} {ds : List PyData} {as : List Addr}, ReadsAll h vs ds as → ∀ a ∈ as, ∃ o, h.get? a = some o
  | _, _, _, .nil, a, m => nomatch m
  | _, _, _, .cons r1 r2, a, m => by
    rcases List.mem_append.mp m with m | m
    · exact Reads.there r1 a m
    · exact ReadsAll.there r2 a m
end
/-! ### rows of tuples of which the first is empty -/
section
variable {prog : Program} {w : World} {A : Around} {E : Value → Shared → Prop} {s : Shared}
def TupAt (h : Heap) (v : Value) (items : Array Value) : Prop := ∃ a o n, v = .ref a ∧ h.get? a = some o ∧ o.cls = .type "tuple" ∧ o.data = .seq items n
theorem first_one {v : Value} {items : Array Value} {Q : Option Value → Shared → Prop} (t : TupAt s.heap v items) (h : Q items[0]? s) : wpAny (model prog w) A (firstOfTuple' v) Q E s := by
  obtain ⟨a, o, n, rfl, ho, hc, hd⟩ := t
  rw [PySem.W.kas_first_eq]
  refine wpAny_bind (wpAny_typeOf (T := "tuple") ⟨o, ho, hc⟩ ?_)
  rw [if_neg (by decide)]
  exact wpAny_bind (listItems_at ho hd (wpAny_pure h))
theorem firsts_any : ∀ (vs : List Value) {Q : List (Option Value) → Shared → Prop}, (∀ v ∈ vs, ∃ items, TupAt s.heap v items) → (∀ fs, Q fs s) → wpAny (model prog w) A (vs.mapM firstOfTuple') Q E s
  | [], Q, _, h => by rw [List.mapM_nil]; exact wpAny_pure (h [])
  | v :: vs, Q, ht, h => by
    rw [List.mapM_cons]
    obtain ⟨items, t⟩ := ht v List.mem_cons_self
    exact wpAny_bind (first_one t (wpAny_bind (firsts_any vs (fun u hu => ht u (List.mem_cons_of_mem _ hu)) fun fs => wpAny_pure (h _))))
theorem kind_tup0 {v : Value} {vs : List Value} {Q : SortKind → Shared → Prop} (h0 : TupAt s.heap v #[]) (ht : ∀ u ∈ v :: vs, ∃ items, TupAt s.heap u items) (h : Q oneType' s) : wpAny (model prog w) A (keyKind' (v :: vs).toArray) Q E s := by
  rw [keyKind'_eq]; rw [List.mapM_toArray]; rw [map_eq_pure_bind, List.mapM_cons]
  refine wpAny_bind (wpAny_bind (wpAny_bind (first_one h0 (wpAny_bind (firsts_any vs (fun u hu => ht u (List.mem_cons_of_mem _ hu)) fun fs => wpAny_pure (wpAny_pure ?_))))))
  rw [if_neg (by simp)]; rw [if_neg (by simp)]
  rw [oneTypeOnly'_eq]; rw [List.mapM_toArray]; rw [map_eq_pure_bind]
  have hT : ∀ u ∈ v :: vs, ∀ Q' : Value → Shared → Prop, Q' (.type "tuple") s → wpAny (model prog w) A (typeOf u) Q' E s := fun u hu Q' q => by
    obtain ⟨items, a, o, n, rfl, ho, hc, hd⟩ := ht u hu
    exact wpAny_typeOf (T := "tuple") ⟨o, ho, hc⟩ q
  refine wpAny_bind (wpAny_bind (wpAny_bind (PySem.W.kas_mapM (r := Value.type "tuple") _ hT (wpAny_pure ?_))))
  have all : ((List.map (fun _ => Value.type "tuple") (v :: vs)).toArray.all fun x => x == Value.type "tuple") = true := by
    simp only [List.all_toArray, List.all_map, List.all_eq_true]
    intro _ _; rfl
  have at0 : (List.map (fun _ => Value.type "tuple") (v :: vs)).toArray[0]? = some (Value.type "tuple") := by simp
  rw [at0]; simp only [all, if_true]
  exact wpAny_pure (wpAny_pure h)
open PySem.W PySem.SeqAt in
theorem lt_tups {xs ys : List PyData} {a b : Value} {as bs : List Addr} {Q : Bool → Shared → Prop} (ra : Reads s.heap a (.tuple xs) as) (rb : Reads s.heap b (.tuple ys) bs) (h : alikeAll xs ys = true)
    (hu : A.units + min (PyData.tuple xs).depth (PyData.tuple ys).depth < cLine) (q : Q (dataLt (.tuple xs) (.tuple ys)) s) : wpAny (model prog w) A (keyLt' oneType' a b) Q E s := by
  cases ra with
  | @tuple l o vs n _ _ h1 h2 h3 h4 =>
    cases rb with
    | @tuple l' o' vs' n' _ _ k1 k2 k3 k4 =>
      have n1 : vs.size = xs.length := by simpa using SeqAt.ReadsAll.length _ _ _ h4
      have n2 : vs'.size = ys.length := by simpa using SeqAt.ReadsAll.length _ _ _ k4
      rw [dataLt_tuple] at q; rw [← firstLt_toks xs ys h] at q; rw [← n1, ← n2] at q
      rw [keyLt'_oneType]; rw [oneLt'_eq]; simp only [if_true]
      obtain ⟨cls, dd, data, sl⟩ := o
      obtain ⟨cls2, dd2, data2, sl2⟩ := o'
      simp only at h2 h3 k2 k3
      subst h2 h3 k2 k3
      refine wpAny_bind (wpAny_cRoomFor (room_here hu) (wpAny_bind (wpAny_callSpecialIfBound?_slot (T := "tuple") ⟨_, h1, rfl⟩ PySem.F.slot_tuple_lt
        (call_meets PySem.F.slot_tuple_lt ⟨_, h1, rfl⟩ PySem.F.entry_tuple_lt (PySem.F.args_tuple_lt_2 _ _) (tuple_ltAt l l' vs vs' n n' dd dd2 sl sl2 (pairEq xs ys) (fun j => dataLt (xs.getD j .none) (ys.getD j .none))) ⟨h1, k1, fun j j1 j2 => ?_, fun j j1 j2 hj => ?_, wpAny_truthy_bool q⟩))))
      · have z := eqAt_alikeAll xs ys A.in1 s vs.toList vs'.toList _ _ h4 k4 h (room_in hu) j (by simpa using j1) (by simpa using j2)
        simpa using z
      · have z := rcLt_alikeAll xs ys A.in1 s vs.toList vs'.toList _ _ h4 k4 h (room_in hu) j (by simpa using j1) (by simpa using j2) hj
        simpa using z
/-- what can be sorted -/
def SrtOk (ds : List PyData) : Prop := Sortable ds ∨ ((∀ d ∈ ds, ∃ xs, d = .tuple xs) ∧ ∃ r, ds = .tuple [] :: r)
open PySem.W PySem.SeqAt in
theorem sortsAt_ok {vs : List Value} {ds : List PyData} (e : EachIs (fun v d => ∃ as, Reads s.heap v d as) vs ds) (al : AllAlike ds) (ok : SrtOk ds) (hu : ∀ d, d ∈ ds → A.units + d.depth < cLine) : SortsAt prog w A s (dataKind s.heap ds) vs := by
  rcases ok with ok | ⟨ht, r, rfl⟩
  · exact SortsAt.data e al ok hu
  · refine ⟨fun v hv => ?_, oneType', fun E x y a b Q ha hb q => ?_, fun h2 E Q q => ?_⟩
    · obtain ⟨d, hd, as, rr⟩ := e.left v hv
      exact ⟨_, dataKind_some al hd rr⟩
    · obtain ⟨d, as, hd, ra, rfl⟩ := dataKind_inv ha
      obtain ⟨d', as', hd', rb, rfl⟩ := dataKind_inv hb
      obtain ⟨xs, rfl⟩ := ht d hd
      obtain ⟨ys, rfl⟩ := ht d' hd'
      have hal := al _ hd _ hd'
      exact lt_tups ra rb (by simpa [alike] using hal) (Nat.lt_of_le_of_lt (Nat.add_le_add_left (Nat.min_le_left _ _) _) (hu _ hd)) q
    · cases e with
      | @cons v _ vs' _ he hr =>
        have tupOf : ∀ u d, (∃ as, Reads s.heap u d as) → (∃ xs, d = .tuple xs) → ∃ items, TupAt s.heap u items := fun u d ⟨as, ru⟩ ⟨xs, ed⟩ => by
          subst ed
          cases ru with
          | tuple h1 h2 h3 _ => exact ⟨_, _, _, _, rfl, h1, h2, h3⟩
        refine kind_tup0 (v := v) ?_ (fun u hu => ?_) q
        · obtain ⟨as, ru⟩ := he
          cases ru with
          | tuple g1 g2 g3 g4 =>
            rename_i items n
            have : items.toList = [] := by cases hq : items.toList with
              | nil => rfl
              | cons z zs => rw [hq] at g4; cases g4
            have e0 : items = #[] := by rw [← Array.toArray_toList (xs := items), this]
            subst e0
            exact ⟨_, _, _, rfl, g1, g2, g3⟩
        · have ea : EachIs (fun v d => ∃ as, Reads s.heap v d as) (v :: vs') (.tuple [] :: r) := .cons he hr
          obtain ⟨d, hd, rd⟩ := ea.left u hu
          exact tupOf u d rd (ht d hd)
end
section
variable {prog : Program} {w : World} {A : Around} {E : Value → Shared → Prop} {s : Shared} {β : Type} {enc : β → PyData} {R : Value → β → Prop}
open PySem.W in
theorem list_sort_ok {a : Addr} {n : Nat} {vs : List Value} {bs : List β} {Q : Value → Shared → Prop} (ho : s.heap.get? a = some (seqObj "list" vs.toArray n)) (e : EachIs R vs bs) (er : EachIs (fun v b => ∃ as, Reads s.heap v (enc b) as ∧ a ∉ as) vs bs) (al : AllAlike (bs.map enc)) (ok : SrtOk (bs.map enc)) (hz : bs.length ≤ sizeLine)
    (hu : ∀ b, b ∈ bs → A.units + 1 + (enc b).depth < cLine) (fin : ∀ out, out.length = bs.length → EachIs R out (bs.mergeSort (dataLe false enc)) → Q .none { s with heap := sortedHeap s.heap a vs (List.toArray out) }) :
    wpAny (model prog w) A (call (.builtin "list.sort") [.ref a]) Q E s := by
  have e2 : EachIs (fun v b => ∃ as, Reads (sortingHeap s.heap a vs) v (enc b) as) vs bs := each_keepBut (h' := sortingHeap s.heap a vs) (fun _ _ y q => sortingHeap_old y q) (fun o q => by rw [ho] at q; rw [← Option.some.inj q]) al er
  have so : SortsAt prog w A.in1 { s with heap := sortingHeap s.heap a vs } (dataKind (sortingHeap s.heap a vs) (bs.map enc)) vs := sortsAt_ok (s := { s with heap := sortingHeap s.heap a vs }) (each_map (R := fun v d => ∃ as, Reads (sortingHeap s.heap a vs) v d as) enc e2) al ok fun d hd => by
    obtain ⟨b, hb, rfl⟩ := List.mem_map.mp hd
    exact hu b hb
  refine wpAny_call_entry slot_list_sort ⟨_, ho, rfl⟩ entry_list_sort
    (list_sort_vals ho so (by rw [e.length]; exact hz) ⟨.none, rfl, ?_⟩) (args_list_sort _)
  exact fin _ (by rw [sortVals_length false rfl]; exact e.length)
    (sortVals_data false e e2 al)
end
section
variable {prog : Program} {w : World} {A : Around} {E : Value → Shared → Prop} {s : Shared} {β : Type} {enc : β → PyData} {R : Value → β → Prop} {r : Value} {Q : Value → Shared → Prop}
theorem srt_shell (PS : Heap → List Value → Prop)
    (col : ∀ Rr : List Value → Shared → Prop, (∀ h' tk vs, (∀ b u, s.heap.get? b = some u → h'.get? b = some u) → PS h' vs → Rr vs { s with heap := h', toks := tk }) → wpAny (model prog w) A.in1 (collect r) Rr E s)
    (use : ∀ h' tk vs, (∀ b u, s.heap.get? b = some u → h'.get? b = some u) → PS h' vs → ∃ bs : List β, EachIs R vs bs ∧ EachIs (fun v b => ∃ as, Reads h' v (enc b) as) vs bs ∧ AllAlike (bs.map enc) ∧ SrtOk (bs.map enc) ∧ bs.length ≤ sizeLine ∧ (∀ b ∈ bs, A.units + 2 + (enc b).depth < cLine) ∧
      ∀ h'' a n out, (∀ b u, h'.get? b = some u → h''.get? b = some u) → h'.objs.size ≤ a → h''.get? a = some { cls := .type "list", data := .seq (List.toArray out) n } → EachIs R out (bs.mergeSort (dataLe false enc)) → Q (.ref a) { s with heap := h'', toks := tk }) :
    wpAny (model prog w) A (call (.builtin "sorted") [r]) Q E s := by
  refine PySem.Calls.call_function_entry kind_sorted plain_sorted
    entry_sorted (args_sorted1 _) ?_
  delta Builtin.«sorted»
  refine wpAny_bind (m := checkCount "sorted" 1 1 _)
    (wpAny_pure ?_)
  refine wpAny_bind (col _ fun h' tk vs hk ps => ?_)
  obtain ⟨bs, e1, e2, al, so, hz, hu, fin⟩ := use h' tk vs hk ps
  have hl : vs.length = bs.length := e1.length
  have e3 : EachIs (fun v b => ∃ as, Reads (h'.push { cls := .type "list", data := .seq vs.toArray }) v (enc b) as ∧ h'.objs.size ∉ as) vs bs := e2.mono fun v b ⟨as, q⟩ => by
    refine ⟨as, PyProof.Rows.Reads.keeps (fun _ _ z => Heap.get?_push_of_some _ z) q, fun z => ?_⟩
    obtain ⟨o, ho⟩ := Reads.there q _ z
    exact absurd (Heap.lt_size ho) (Nat.lt_irrefl _)
  have at0 : (h'.push { cls := .type "list", data := .seq vs.toArray }).get? h'.objs.size = some (seqObj "list" vs.toArray 0) := Heap.get?_push_size _ rfl
  have go := list_sort_ok (prog := prog) (w := w) (A := A.in1) (E := E) (s := { s with heap := h'.push { cls := .type "list", data := .seq vs.toArray }, toks := tk }) (Q := fun _ t => Q (.ref h'.objs.size) t) at0 e1 e3 al so hz (fun b hb => by have := hu b hb; show A.units + 1 + 1 + _ < _; omega) fun out ho eo => by
    obtain ⟨n, hn⟩ := sortedHeap_at (vs := vs) (out := List.toArray out) at0
    refine fin _ h'.objs.size n out (fun b u e => ?_) (Nat.le_refl _) hn eo
    have hlt := Heap.lt_size e
    show (sortedHeap (h'.push { cls := .type "list", data := .seq vs.toArray }) h'.objs.size vs (List.toArray out)).get? b = some u
    rw [sortedHeap_old (Nat.ne_of_lt hlt) (by rw [Heap.size_push]; exact Nat.lt_succ_of_lt hlt)]
    exact Heap.get?_push_of_some _ e
  refine wpAny_bind (wpAny_newList ?_ (by rw [hl]; exact hz))
  refine wpAny_bind (wpAny_holding
    (wpAny_mono go (fun _ t x => ?_) fun _ _ z => z))
  exact wpAny_pure ⟨_, rfl, x⟩
end
section
variable {X : Cx} {pins : List (Addr × Obj)} {σ : L2.St} {F H : Hp} {s : Shared}
theorem vals_fst : ∀ {out : List Value} {bs : List (V × PyData)}, EachIs (fun u (b : V × PyData) => RelV b.1 u) out bs → Vals (bs.map Prod.fst) out
  | _, _, .nil => .nil
  | _, _, .cons h1 h2 => .cons h1 (vals_fst h2)
/-! ### sorted(d) -/
def rSrtD (K : PySem.W.Frag) : List V → Hp → VK → Prop := fun xs H Q => ∃ x F ds pds, xs = [x] ∧ Same F H ∧ Rep K F x (.dic ds) ∧ dats (ds.map (·.1)) = some pds ∧ AllAlike pds ∧ SrtOk pds ∧ (∀ d ∈ pds, d.depth ≤ 60) ∧
  ∀ p us, H p = none → Reps K F us (ds.map (·.1)) → Q (.ref p) (upd H p (.lst (srtZ us pds)))
theorem call_srtD (hc : X.calm = true) (hu : X.A.units + 64 < cLine) : CallR X (.builtin "sorted") (rSrtD X.K) := by
  intro pins s σ H xs us Q I r h
  obtain ⟨x, F, ds, pds, rfl, sm, rv, hd, al, so, dp, q⟩ := h
  obtain ⟨u, rfl, ru⟩ := vals1 r
  obtain ⟨a, es, ep, rfl, hF, md, dk, rx⟩ := rv.dic sm
  cases (show u = Value.ref a from ru)
  obtain ⟨ees, dr, hl, ent⟩ := MR.raw I (⟨sm _ _ hF, md.2.1⟩ : MR H a es ep)
  have hz : ees.size ≤ sizeLine := by rw [hl]; exact md.sz
  have rk := keys_reps rx
  refine srt_shell (β := V × PyData) (enc := Prod.snd) (R := fun u b => RelV b.1 u) (fun _ vs => vs = (es.map (·.2.1)).map Value.ref)
    (fun Rr hR => PySem.W.kdu_collect (A := X.A.in1) (KdlSrc.rawDict (es := ees) (ep := ep) md.2.1) (I.ok.hd hc) dr hz fun h' tk acc hk hi => hR h' tk _ hk (items_refs hl ent hi)) ?_
  rintro h' tk _ hk rfl
  have I' : Inv X pins σ H { s with heap := h', toks := tk } := I.kept hk
  have hv : Vals (es.map fun e => V.ref e.2.1) ((es.map (·.2.1)).map Value.ref) := by
    rw [show (es.map fun e => V.ref e.2.1) = (es.map (·.2.1)).map V.ref by rw [List.map_map]; rfl]
    exact vals_refs _
  obtain ⟨hlen, e⟩ := each_dp I' (Reps.dp sm _ rk hd) hv
  have em : ((es.map fun e => V.ref e.2.1).zip pds).map Prod.snd = pds := List.map_snd_zip (by omega)
  have ez : ((es.map fun e => V.ref e.2.1).zip pds).length = es.length := by rw [List.length_zip, List.length_map]; rw [List.length_map] at hlen; omega
  refine ⟨(es.map fun e => V.ref e.2.1).zip pds, e.mono fun _ _ h => h.1, e.mono fun _ _ h => h.2, by rw [em]; exact al, by rw [em]; exact so, by rw [ez]; exact md.sz, fun b hb => ?_, fun h'' p n out hk2 hp hat eo => ?_⟩
  · have : b.2 ∈ pds := by rw [← em]; exact List.mem_map.mpr ⟨b, hb, rfl⟩
    have := dp _ this
    omega
  · have hg : s.heap.get? p = none := by
      cases e : s.heap.get? p with
      | none => rfl
      | some o => exact absurd (Heap.lt_size (hk _ _ e)) (Nat.not_lt.mpr hp)
    have hn := I.hok.gone hg
    refine ⟨.ref p, upd H p (.lst (srtZ (es.map fun e => V.ref e.2.1) pds)), I.laidN (t' := tk) (fun b o e => hk2 b o (hk b o e)) hg hn ⟨?_, out, n, ?_, hat⟩, rfl, q p _ hn rk⟩
    · unfold srtZ
      rw [List.length_map, List.length_mergeSort, ez]
      exact md.sz
    · exact vals_fst eo
def mSrtD : CW := fun vs k => match vs with
  | [.dic ds] => ∃ pds, dats (ds.map (·.1)) = some pds ∧ AllAlike pds ∧ SrtOk pds ∧ (∀ d ∈ pds, d.depth ≤ 60) ∧ k (.lst (srtZ (ds.map (·.1)) pds))
  | _ => False
theorem pf_srtD {p pos : Pos} {e : Expr} {fa : AW} (hc : X.calm = true) (hu : X.A.units + 64 < cLine) (hg : Gl X "sorted") (hm : X.mg "sorted" = none) (hv : bootBuiltins "sorted" = some (.builtin "sorted")) (ha : PPs X [e] fa) (he : starEach [e] X.env = (false, eval e X.env) :: starEach [] X.env := by rfl) (hpl : (backTo pos (starEach [] X.env)).any (·.1) = false := by rfl) :
    PF X (.Call (.Name "sorted" p) [e] [] pos) (eCall mSrtD fa) := PE.weak (pe_callB (call_srtD hc hu) hg hm hv ha (by decide) (by decide) he hpl) fun σ H Q ⟨B, F, ρ, P, w, p, q⟩ => by
  refine ⟨B, F, ρ, _, w, p, fun vs xs F1 H1 p1 e1 r1 => ?_⟩
  unfold mSrtD at p1
  split at p1
  case h_2 => exact p1.elim
  obtain ⟨pds, hd, al, so, dp, p2⟩ := p1
  obtain ⟨x, rfl, rx⟩ := r1.one
  have w1 := w.ext e1
  exact ⟨x, F1, _, pds, rfl, w1.fh, rx, hd, al, so, dp, fun c us hc hr => q _ c _ F1 _ p2 (e1.trans (.own w1.fh (fun a b => (w1.bx a b).2) hc)) (none_of w1.fh hc) (e1.none hc) upd_same (reps_srt hr (dats_len hd))⟩
end
end KV

namespace KV
open PySem PySem.Spec PyProof.Rows L2 KGX
/-! ### for x in list(d), d owned and written -/
section
variable {m : Bool} {X : Cx} {K : PySem.W.Frag}
def rLstO (K : PySem.W.Frag) : List V → Hp → VK → Prop := fun vs H Q => ∃ a xs ep F ds, vs = [.ref a] ∧ MR H a xs ep ∧ xs.length ≤ sizeLine ∧ RepX K F xs ds ∧ ∀ p us, H p = none → Reps K F us (ds.map (·.1)) → Q (.ref p) (upd H p (.lst us))
theorem call_lstO (hc : X.calm = true) : CallR X (.type "list") (rLstO X.K) := by
  intro pins s σ H xs us Q I r h
  obtain ⟨a, es, ep, F, ds, rfl, mr, hsz, rx, q⟩ := h
  obtain ⟨u, rfl, ru⟩ := vals1 r
  cases (show u = Value.ref a from ru)
  obtain ⟨ees, dr, hl, ent⟩ := mr.raw I
  refine PySem.W.kdl_call (KdlSrc.rawDict (es := ees) (ep := ep) mr.2) (I.ok.hd hc) dr (by rw [hl]; exact hsz) fun h' tk acc c hk hg hi => ?_
  have ev := items_refs hl ent hi
  refine ⟨.ref s.heap.objs.size, upd H s.heap.objs.size (.lst (es.map fun e => V.ref e.2.1)), I.laid hk (Nat.le_refl _) ⟨?_, acc.toList, c, ?_, by rw [Array.toArray_toList]; exact hg⟩, rfl, q _ _ (I.hok.fresh (Nat.le_refl _)) (keys_reps rx)⟩
  · rw [List.length_map]; exact hsz
  · rw [ev, show (es.map fun e => V.ref e.2.1) = (es.map (·.2.1)).map V.ref by rw [List.map_map]; rfl]
    exact vals_refs _
def tLstO (K : PySem.W.Frag) (i : Nat) : TE := fun σ H Q => ∃ y, σ[i]? = some (some y) ∧ rLstO K [y] H Q
theorem pe_lstO {p pos : Pos} {e : Expr} {i : Nat} (hc : X.calm = true) (hg : Gl X "list") (hm : X.mg "list" = none) (hv : bootBuiltins "list" = some (.type "list")) (ha : PE X e (tVar i)) (he : starEach [e] X.env = (false, eval e X.env) :: starEach [] X.env := by rfl) (hpl : (backTo pos (starEach [] X.env)).any (·.1) = false := by rfl) :
    PE X (.Call (.Name "list" p) [e] [] pos) (tLstO X.K i) := PE.weak (pe_callTy (call_lstO hc) hg hm hv (pa_cons ha pa_nil he) (by decide) (by decide) he hpl) fun σ H Q ⟨y, e1, h⟩ => ⟨y, e1, h⟩
def sForLO (i : Nat) (g : GW) (s : SW) : SW := fun ρ N R => ∃ kvs, ρ[i]? = some (some (.ow (.dic kvs))) ∧ forW g s (kvs.map (·.1)) ρ N R
theorem qs_forLO {tg l : Expr} {pos : Pos} {body : List Stmt} {g : TG} {gw : GW} {sb : SW} {i : Nat} (hp : PassesOwn (model X.prog X.w) X.A X.env X.xe) (hc : X.calm = true) (hl : PE X l (tLstO X.K i)) (hg : PG X tg g) (gv : GV X.K g gw) (hb : QSs X m body sb) (hs : ∀ x, foldedSetIterable l X.env x = pure x := by intro _; rfl) : QS X m (.For tg l body [] pos) (sForLO i gw sb) :=
  PS.weak (ps_for hp hc (pi_seq hl) hg hb hs) fun D σ H ⟨B0, F0, H0, F, ρ, N, R, w, ⟨kvs, ei, pf0⟩, q, r⟩ => by
  obtain ⟨y, e1, a, o, rfl, a1, a2, a3, a4⟩ := w.sl i _ ei
  cases o with
  | ext φ =>
    obtain ⟨xs, ep, rfl, dk, rx⟩ := a4
    refine ⟨_, e1, a, xs, ep, F, kvs, rfl, ⟨a3, dk.1⟩, by rw [rx.len]; exact le_line dk.2.1, rx, fun p us hp0 hr => ?_⟩
    have ex : Ext (Bs B0 σ ρ) F H (upd F p (.lst us)) (upd H p (.lst us)) := .laid w.ext.fh (fun a b => ((w.h).bx a b).2) hp0
    have w1 := w.backH ex
    have hsq : ∀ H2, Same (upd F p (.lst us)) H2 → SqL X.K H2 p us := fun H2 s2 => .inl (.inl (s2 _ _ upd_same))
    have iv : ItV X.K (Itl X.K p) (upd F p (.lst us)) (kvs.map (·.1)) := itv_list hsq (hr.mono ex.ff)
    refine ⟨p, rfl, .inl ⟨us, hsq _ w1.ext.fh, ?_⟩⟩
    generalize upd F p (.lst us) = F1 at ex w1 iv
    generalize upd H p (.lst us) = H1 at ex w1
    generalize kvs.map (·.1) = ds at pf0 iv
    refine ⟨fun j n σ' H' => n = ds.length - j ∧ j ≤ ds.length ∧ ∃ F2 ρ', Same F1 F2 ∧ Ws X.K B0 F0 H0 F2 H' σ' ρ' ∧ forW gw sb (ds.drop j) ρ' N R, ⟨_, rfl, Nat.zero_le _, F1, ρ, fun _ _ z => z, w1, pf0⟩, ?_⟩
    rintro j n σ' H' ⟨em, hj, F2, ρ', s12, w2, pf⟩
    by_cases hl : j = ds.length
    · subst hl
      rw [List.drop_length] at pf
      exact .inl ⟨iv.stops H' (s12.trans w2.ext.fh), q _ _ _ _ pf (ex.ff.trans s12) w2⟩
    · have hlt : j < ds.length := by omega
      refine .inr ⟨iv.goes j H' (s12.trans w2.ext.fh) hlt, fun σ3 H3 => ∃ F3 ρ3, Same F1 F3 ∧ Ws X.K B0 F0 H0 F3 H3 σ3 ρ3 ∧ forW gw sb (ds.drop (j + 1)) ρ3 N R, ?_, ?_⟩
      · rintro σ3 H3 ⟨F3, ρ3, s3, w3, p3⟩
        exact ⟨_, by omega, rfl, hlt, F3, ρ3, s3, w3, p3⟩
      · intro x H3 yy
        obtain ⟨d, ed, yv⟩ := iv.yields j H' x H3 (s12.trans w2.ext.fh) hlt yy
        obtain ⟨F3, s23, w3, rx3⟩ := w2.yv s12 yv
        have edrop : ds.drop j = d :: ds.drop (j + 1) := by
          rw [List.drop_eq_getElem_cons hlt]
          rw [List.getElem?_eq_getElem hlt] at ed
          rw [Option.some.inj ed]
        rw [edrop] at pf
        refine gv x d _ _ _ _ _ _ _ _ _ w3 rx3 pf fun ρ4 σ4 p4 w4 => ?_
        exact ⟨B0, F0, H0, F3, ρ4, _, R, w4, p4, fun ρ5 σ5 F5 H5 p5 s5 w5 => ⟨F5, ρ5, (s12.trans s23).trans s5, w5, p5⟩, r⟩
  | _ => exact a4.elim
/-! ### is None -/
def isNonP : PV → Bool
  | .non => true
  | _ => false
theorem rep_non {F : Hp} {x : V} {v : PV} (h : Rep K F x v) : decide (x = .non) = isNonP v := by
  cases v <;> rw [Rep] at h <;> first
    | (subst h; rfl)
    | (obtain ⟨a, h⟩ := h; first | (obtain ⟨b, c, rfl, _⟩ := h; rfl) | (obtain ⟨b, rfl, _⟩ := h; rfl) | (obtain ⟨rfl, _⟩ := h; rfl))
    | exact h.elim
def mNotN : OW := fun v w k => match w with
  | .non => k (.bl (!isNonP v))
  | _ => False
theorem opv_notN : OpV K rNotN mNotN := by
  rintro x y v w B F H P Q s bx r1 r2 p q
  unfold mNotN at p
  split at p
  case h_2 => exact p.elim
  rw [Rep] at r2
  refine ⟨r2, ?_⟩
  rw [rep_non r1]
  exact q _ _ F H p (.refl s fun a h => (bx a h).2) (by rw [Rep])
def mIsN : OW := fun v w k => match w with
  | .non => k (.bl (isNonP v))
  | _ => False
theorem opv_isN : OpV K rIsN mIsN := by
  rintro x y v w B F H P Q s bx r1 r2 p q
  unfold mIsN at p
  split at p
  case h_2 => exact p.elim
  rw [Rep] at r2
  refine ⟨r2, ?_⟩
  rw [rep_non r1]
  exact q _ _ F H p (.refl s fun a h => (bx a h).2) (by rw [Rep])
/-! ### any, and rows of whole numbers -/
theorem any_lc {gw : GW} {f : EW} {ρ : Rho} {k : PV → Prop} {ds : List PV} (p : PV → Bool) (h : ∀ d ∈ ds, ∀ M : PV → Prop, M (.bl (p d)) → gw d ρ fun ρ1 => f ρ1 M) (hl : ds.length ≤ 1000) (q : k (.bl (ds.any p))) : lcW gw tYesW f ρ (fun v => cAll true [v] k) ds [] := by
  refine lc_map (fun d => .bl (p d)) h (by show 0 + _ ≤ _; omega) ⟨_, ds.map p, rfl, ?_, ?_⟩
  · rw [List.nil_append, show (ds.map fun d => PV.bl (p d)) = (ds.map p).map .bl by rw [List.map_map]; rfl]; exact blsOf_map _
  · show k (.bl ((ds.map p).any id))
    rw [any_bls]; exact q
theorem shaped_tints (S : List Int) (h : S.length ≤ 1000) : SeqAt.shaped (.tuple (S.map PyData.int)) = true := by
  have h := shaped_ints S
  exact h
theorem ne_tups {S T : List Int} {k : PV → Prop} (h1 : S.length ≤ 1000) (h2 : T.length ≤ 1000) (q : k (.bl (!decide (S = T)))) : mNe (tupI S) (tupI T) k := by
  show oEqD true _ _ k
  refine ⟨.tuple (S.map PyData.int), .tuple (T.map PyData.int), by show dat (.tup (S.map .int)) = _; rw [dat, dats_ints]; rfl, by show dat (.tup (T.map .int)) = _; rw [dat, dats_ints]; rfl, shaped_tints S h1, shaped_tints T h2, ?_⟩
  rw [if_pos rfl, show PyData.eqv (.tuple (S.map PyData.int)) (.tuple (T.map PyData.int)) = decide (S = T) from eqvAll_ints S T]
  exact q
/-- a value put where one stands -/
theorem putO {f : List Int → PV} {ls : List (List Int)} {l : List Int} {v : PV} (h : l ∈ ls) : putD (ls.map fun l => (tupI l, f l)) (tupI l) (nK l) v = ls.map fun t => (tupI t, if t = l then v else f t) := by
  unfold putD
  rw [lookT h, if_pos (by rfl), List.map_map]
  refine List.map_congr_left fun t _ => ?_
  show (if keyOf (tupI t) = some (nK l) then (tupI t, v) else (tupI t, f t)) = _
  rw [keyOf_tupI]
  by_cases e : t = l
  · subst e; rw [if_pos rfl, if_pos rfl]
  · rw [if_neg (fun z => e (nK_inj (Option.some.inj z))), if_neg e]
/-! ### means by who is left: more left takes longer -/
theorem sum_split {g : Int → Rat} : ∀ {S : List Int} {k : Int}, Rise S → k ∈ S → (S.map g).sum = ((S.filter fun j => decide (j ≠ k)).map g).sum + g k
  | [], _, _, h => nomatch h
  | a :: S, k, hr, h => by
    have h2 := List.pairwise_cons.mp hr
    rw [List.filter_cons, List.map_cons, List.sum_cons]
    by_cases e : a = k
    · subst e
      rw [if_neg (by simp)]
      have : (S.filter fun j => decide (j ≠ a)) = S := List.filter_eq_self.mpr fun x hx => decide_eq_true (by have := h2.1 x hx; omega)
      rw [this]; grind
    · rw [if_pos (by simpa using e), List.map_cons, List.sum_cons, sum_split h2.2 (by rcases List.mem_cons.mp h with rfl | h <;> first | exact (e rfl).elim | exact h)]
      grind
theorem fil_comm (S : List Int) (j k : Int) : ((S.filter fun i => decide (i ≠ j)).filter fun i => decide (i ≠ k)) = (S.filter fun i => decide (i ≠ k)).filter fun i => decide (i ≠ j) := by
  rw [List.filter_filter, List.filter_filter]
  refine List.filter_congr fun i _ => ?_
  exact Bool.and_comm _ _
theorem pick_cast (ns S : List Int) : (((pick ns S).sum : Int) : Rat) = (S.map fun k => (sh ns k : Rat)).sum := by
  unfold pick
  induction S with
  | nil => rfl
  | cons k S ih => rw [List.map_cons, List.sum_cons, List.map_cons, List.sum_cons, Rat.intCast_add, ih]; rfl
theorem sum_sub {α : Type} (f h : α → Rat) : ∀ l : List α, (l.map fun x => f x - h x).sum = (l.map f).sum - (l.map h).sum
  | [] => by simp only [List.map_nil, List.sum_nil]; grind
  | x :: l => by simp only [List.map_cons, List.sum_cons]; rw [sum_sub f h l]; grind
theorem fV_lt {ns : List Int} (g : Good ns) {S : List Int} (hS : S ∈ allSub (rg ns.length)) : ∀ k ∈ S, fV ns (S.filter fun j => decide (j ≠ k)) < fV ns S := by
  have hn := g.2.1
  have hs := g.sum_pos
  refine sub_indA (P := fun S => ∀ k ∈ S, fV ns (S.filter fun j => decide (j ≠ k)) < fV ns S) hn (fun k h => nomatch h) (fun S hS h0 hr hm ih => ?_) hS
  intro k hk
  have hl : S.length ≤ 5 := by have := allSub_le ns.length (rg ns.length) (rg_len _) S hS; omega
  have sg : ∀ j ∈ S, 0 < sh ns j := fun j hj => by have := sh_good g (hm j hj); omega
  have r1 := fV_rec hr h0 sg
  have hw := pick_pos g h0 hm hl
  have hp : (0 : Rat) < ((pick ns S).sum : Rat) := by exact_mod_cast hw.1
  have ht : (0 : Rat) < (ns.sum : Rat) := by exact_mod_cast hs.1
  by_cases e : (S.filter fun j => decide (j ≠ k)) = []
  · rw [e, fV_nil]
    have a : 0 ≤ (S.map fun j => (sh ns j : Rat) * fV ns (S.filter fun i => decide (i ≠ j))).sum := sum_rat_nn fun j hj => by
      have h1 : S = [k] := by
        have := filter_len1 hr hk
        rw [e] at this
        obtain ⟨x, hx⟩ := List.length_eq_one_iff.mp (show S.length = 1 from this.symm)
        rw [hx] at hk ⊢
        rw [List.mem_singleton.mp hk]
      have h2 : j = k := by rw [h1] at hj; exact List.mem_singleton.mp hj
      rw [h2, e, fV_nil]; grind
    have b : 0 < ((pick ns S).sum : Rat) * fV ns S := by rw [← r1]; grind
    by_cases z : 0 < fV ns S
    · exact z
    · exfalso
      have z2 := Rat.not_lt.mp z
      have := Rat.mul_le_mul_of_nonneg_left z2 (Rat.le_of_lt hp)
      grind
  · have hr2 : Rise (S.filter fun j => decide (j ≠ k)) := hr.filter _
    have r2 := fV_rec hr2 e fun j hj => sg j (List.mem_filter.mp hj).1
    rw [sum_split hr hk] at r1
    rw [pick_cast, sum_split (g := fun j => (sh ns j : Rat)) hr hk, ← pick_cast] at r1
    have d : 0 < ((S.filter fun j => decide (j ≠ k)).map fun j => (sh ns j : Rat) * fV ns (S.filter fun i => decide (i ≠ j)) - (sh ns j : Rat) * fV ns ((S.filter fun i => decide (i ≠ k)).filter fun i => decide (i ≠ j))).sum := by
      have : ∀ T : List Int, T ≠ [] → (∀ j ∈ T, j ∈ S ∧ j ≠ k) → 0 < (T.map fun j => (sh ns j : Rat) * fV ns (S.filter fun i => decide (i ≠ j)) - (sh ns j : Rat) * fV ns ((S.filter fun i => decide (i ≠ k)).filter fun i => decide (i ≠ j))).sum := by
        intro T h1 h2
        have c := sumR_lt (f := fun _ : Int => (0 : Rat)) (h := fun j => (sh ns j : Rat) * fV ns (S.filter fun i => decide (i ≠ j)) - (sh ns j : Rat) * fV ns ((S.filter fun i => decide (i ≠ k)).filter fun i => decide (i ≠ j))) h1 fun j hj => by
          obtain ⟨hjS, hjk⟩ := h2 j hj
          have i1 := ih j hjS k (List.mem_filter.mpr ⟨hk, decide_eq_true (fun z => hjk z.symm)⟩)
          rw [fil_comm] at i1
          have i2 : (0 : Rat) < (sh ns j : Rat) := by exact_mod_cast sg j hjS
          have i3 := Rat.mul_lt_mul_of_pos_left i1 i2
          grind
        rw [sumR_zero (fun _ _ => rfl)] at c
        exact c
      exact this _ e fun j hj => ⟨(List.mem_filter.mp hj).1, of_decide_eq_true (List.mem_filter.mp hj).2⟩
    rw [sum_sub] at d
    have i4 : (0 : Rat) < (sh ns k : Rat) := by exact_mod_cast sg k hk
    have p2 : (0 : Rat) < ((pick ns (S.filter fun j => decide (j ≠ k))).sum : Rat) := by
      have := pick_pos g e (fun j hj => hm j (List.mem_filter.mp hj).1) (Nat.le_trans (List.length_filter_le _ _) hl)
      exact_mod_cast this.1
    generalize ((S.filter fun j => decide (j ≠ k)).map fun j => (sh ns j : Rat) * fV ns (S.filter fun i => decide (i ≠ j))).sum = A at r1 d
    generalize ((S.filter fun j => decide (j ≠ k)).map fun j => (sh ns j : Rat) * fV ns ((S.filter fun i => decide (i ≠ k)).filter fun i => decide (i ≠ j))).sum = B at r2 d
    generalize fV ns (S.filter fun j => decide (j ≠ k)) = x at *
    generalize fV ns S = y at *
    generalize ((pick ns (S.filter fun j => decide (j ≠ k))).sum : Rat) = a at *
    generalize (sh ns k : Rat) = b at *
    by_cases z : x < y
    · exact z
    · exfalso
      have z2 := Rat.mul_le_mul_of_nonneg_left (Rat.not_lt.mp z) (show 0 ≤ a + b by grind)
      grind
theorem fV_one {ns : List Int} (g : Good ns) {k : Int} (hk : 0 ≤ k ∧ k < ns.length) : fV ns [k] = (ns.sum : Rat) / (sh ns k : Rat) := by
  have hg := sh_good g hk
  have r := fV_rec (ns := ns) (S := [k]) (List.pairwise_singleton _ _) (by simp) fun j hj => by rw [List.mem_singleton.mp hj]; omega
  have e : ([k].filter fun j => decide (j ≠ k)) = [] := by simp
  have e2 : (pick ns [k]).sum = sh ns k := by unfold pick; simp; rfl
  rw [List.map_cons, List.map_nil, List.sum_cons, List.sum_nil, e, fV_nil, e2] at r
  have hne : (sh ns k : Rat) ≠ 0 := cast_ne (by omega)
  grind
end
end KV

namespace KV
open PySem PySem.Spec PyProof.Rows L2 KGX
open PySem.W (AllAlike dataLe EachIs)
/-! ### sorted(d.items()): a new list of new pairs -/
section
variable {X : Cx} {pins : List (Addr × Obj)} {σ : L2.St} {F H : Hp} {s : Shared}
def ItO (r a : Addr) : HO := .ext fun h => h.IsItemsView r a
def tItems (td : TE) : TE := fun σ H Q => td σ H fun x H1 => ∃ a xs ep, x = .ref a ∧ MR H1 a xs ep ∧ ∀ r, H1 r = none → Q (.ref r) (upd H1 r (ItO r a))
theorem pe_items {e : Expr} {td : TE} {apos cpos : Pos} (he : PE X e td) (hb : attributeBase e "items" X.env (eval e X.env) = eval e X.env := by rfl) (hl : (apos.endLine == cpos.line) = true := by rfl) : PE X (.Call (.Attribute e "items" apos) [] [] cpos) (tItems td) := by
  refine ⟨fun pins s σ H Q I h => wpAny_Call_method (T := "dict") (id := "dict.items") hb rfl hl F.plainAttrs_dict F.slot_dict_items F.type_dict_items (thn (he.run pins s σ H _ I h) fun u s1 ⟨x, H1, I1, rx, a, xs, ep, ex, d, q⟩ => ?_)⟩
  subst ex; cases rx
  obtain ⟨es, dr, hl, ent⟩ := d.raw I1
  obtain ⟨o, ho, hx, hdt⟩ := id dr
  refine ⟨dr.typeIs, fun b q => by cases q; exact ⟨o, ho, hx.2.1⟩, ?_⟩
  have fin : EP X pins σ Q (.ref s1.heap.objs.size) { s1 with heap := s1.heap.push { cls := .type "dict_items", data := .fields #[.ref a] } } := by
    refine ⟨.ref s1.heap.objs.size, upd H1 s1.heap.objs.size (ItO s1.heap.objs.size a), I1.laid (a := s1.heap.objs.size) (t' := s1.toks) (fun _ _ q => Heap.get?_push_of_some _ q) (Nat.le_refl _) ?_, rfl, q _ (I1.hok.fresh (Nat.le_refl _))⟩
    exact ⟨⟨_, Heap.get?_push_size _ rfl, rfl, rfl⟩, ⟨_, Heap.get?_push_size _ rfl⟩, fun g1 g2 ⟨o, e1, e2⟩ k => ⟨o, k o e1, e2⟩⟩
  show wpAny _ _ (callWith cpos (.builtin "dict.items") [.ref a] [] []) _ X.xe s1
  exact method_meetsIn F.slot_dict_items F.entry_dict_items rfl (PySem.evalArgs_none ⟨rfl, dr.typeIs, F.args_dict_items_1 _, _, meets_dict_items_raw a d.2, ⟨es, ep, dr⟩, fin⟩)
def prsD (ds : List (PV × PV)) : List PV := ds.map fun kv => .cst [kv.1, kv.2]
def rSrtI (K : PySem.W.Frag) : List V → Hp → VK → Prop := fun vs H Q => ∃ (r a : Addr) (xs : List Ent) (ep : Nat) (F : Hp) (ds : List (PV × PV)) (pds : List PyData), vs = [.ref r] ∧ H r = some (ItO r a) ∧ MR H a xs ep ∧ xs.length ≤ sizeLine ∧ Same F H ∧ RepX K F xs ds ∧ dats (prsD ds) = some pds ∧ AllAlike pds ∧ SrtOk pds ∧ (∀ d ∈ pds, d.depth ≤ 60) ∧
  ∀ p us F' H', Same F F' → Same F' H' → (∀ b o, H b = some o → H' b = some o) → (∀ b, H b ≠ none → F b = none → F' b = none) → H p = none → F' p = none → H' p = some (.lst (srtZ us pds)) → Reps K F' us (prsD ds) → Q (.ref p) H'
theorem repX_at {K : PySem.W.Frag} : ∀ {es : List Ent} {ds : List (PV × PV)} {i : Nat} {e : Ent}, RepX K F es ds → es[i]? = some e → ∃ kv y, ds[i]? = some kv ∧ Rep K F (.ref e.2.1) kv.1 ∧ RelV y e.2.2 ∧ Rep K F y kv.2
  | [], [], _, _, _, h => by simp at h
  | e :: es, (k, d) :: ds, 0, _, h, he => by
    rw [RepX] at h; simp at he; subst he
    obtain ⟨⟨_, h2, y, h3, h4⟩, _⟩ := h
    exact ⟨_, y, rfl, h2, h3, h4⟩
  | e :: es, (k, d) :: ds, i + 1, _, h, he => by
    rw [RepX] at h
    obtain ⟨kv, y, e1, r⟩ := repX_at (i := i) h.2 (by simpa using he)
    exact ⟨kv, y, by simpa using e1, r⟩
  | [], _ :: _, _, _, h, _ => by rw [RepX] at h; exact h.elim
  | _ :: _, [], _, _, h, _ => by rw [RepX] at h; exact h.elim
theorem reps_ix {K : PySem.W.Frag} : ∀ {xs : List V} {vs : List PV}, xs.length = vs.length → (∀ (i : Nat) x v, xs[i]? = some x → vs[i]? = some v → Rep K F x v) → Reps K F xs vs
  | [], [], _, _ => by rw [Reps]; trivial
  | x :: xs, v :: vs, hl, h => by
    rw [Reps]
    exact ⟨h 0 x v rfl rfl, reps_ix (by simpa using hl) fun i y u h1 h2 => h (i + 1) y u (by simpa using h1) (by simpa using h2)⟩
  | [], _ :: _, hl, _ => nomatch hl
  | _ :: _, [], hl, _ => nomatch hl
open Classical in
theorem call_srtI (hc : X.calm = true) (hu : X.A.units + 64 < cLine) : CallR X (.builtin "sorted") (rSrtI X.K) := by
  intro pins s σ H xs us Q I rr h
  obtain ⟨r, a, es, ep, F, ds, pds, rfl, hr, mr, hz, sm, rx, hd, al, so, dp, q⟩ := h
  obtain ⟨u, rfl, ru⟩ := vals1 rr
  cases (show u = Value.ref r from ru)
  obtain ⟨ees, dr, hl, ent⟩ := mr.raw I
  have vw : s.heap.IsItemsView r a := (show ObjOk X.prog X.w H s.heap r (ItO r a) from I.hok r _ hr).1
  have hz2 : ees.size ≤ sizeLine := by rw [hl]; exact hz
  refine srt_shell (β := V × PyData) (enc := Prod.snd) (R := fun u b => RelV b.1 u) (fun h' vs => ∃ as, vs = as.map Value.ref ∧ as.length = ees.size ∧ DT.Made ees s.heap.objs.size h' as)
    (fun Rr hR => DT.collectI (A := X.A.in1) (I.ok.hd hc) vw dr hz2 fun h' tk as hk hlt hla mk => hR h' tk _ hk ⟨as, rfl, hla, mk⟩) ?_
  rintro h' tk _ hk ⟨as, rfl, hla, mk⟩
  have I' : Inv X pins σ H { s with heap := h', toks := tk } := I.kept hk
  have hlds : es.length = ds.length := rx.len
  have fresh : ∀ c ∈ as, s.heap.objs.size ≤ c ∧ H c = none := fun c hc => by
    have := Nat.le_of_lt (mk.above c hc)
    exact ⟨this, I.hok.fresh this⟩
  have nd : as.Nodup := mk.rise.imp fun h => Nat.ne_of_lt h
  obtain ⟨H2, I2, up, tr⟩ := L2.DX.takeT (P := fun c vs => ∀ j, as[j]? = some c → ∃ (e : Ent) (y : V), es[j]? = some e ∧ RelV y e.2.2 ∧ (∃ kv : PV × PV, ds[j]? = some kv ∧ Rep X.K F (.ref e.2.1) kv.1 ∧ Rep X.K F y kv.2) ∧ vs = [.ref e.2.1, y]) I as H I' nd fun c hc => by
    obtain ⟨j, hj⟩ := List.getElem?_of_mem hc
    obtain ⟨de, hde, hg⟩ := mk.pairs j c hj
    have hji : j < ees.size := by
      rcases Nat.lt_or_ge j ees.size with z | z
      · exact z
      · rw [Array.getElem?_eq_none z] at hde; exact nomatch hde
    obtain ⟨x, hx, ek, ev⟩ := ent j hji
    rw [Array.getElem?_eq_getElem hji] at hde
    cases hde
    obtain ⟨kv, y, hkv, r1, r2, r3⟩ := repX_at rx hx
    refine ⟨(fresh c hc).1, (fresh c hc).2, [.ref x.2.1, y], fun i hi => ?_, fun H3 => ⟨by show 2 ≤ sizeLine; rw [sizeLine_eq]; decide, [.ref x.2.1, x.2.2], .cons rfl (.cons r2 .nil), ?_⟩⟩
    · have : i = j := by
        obtain ⟨hi1, hi2⟩ := List.getElem?_eq_some_iff.mp hi
        obtain ⟨hj1, hj2⟩ := List.getElem?_eq_some_iff.mp hj
        have pw := List.pairwise_iff_getElem.mp mk.rise
        rcases Nat.lt_trichotomy i j with z | z | z
        · have := pw i j hi1 hj1 z
          rw [hi2, hj2] at this
          exact absurd this (Nat.lt_irrefl _)
        · exact z
        · have := pw j i hj1 hi1 z
          rw [hi2, hj2] at this
          exact absurd this (Nat.lt_irrefl _)
      subst this
      exact ⟨x, y, hx, r2, ⟨kv, hkv, r1, r3⟩, rfl⟩
    · rw [ek, ev] at hg
      exact ⟨_, hg, rfl, 0, rfl⟩
  let F' : Hp := fun c => if c ∈ as then H2 c else F c
  have sFF : Same F F' := fun c o e => by
    show (if c ∈ as then H2 c else F c) = some o
    have : c ∉ as := fun z => by
      have := sm c o e
      rw [(fresh c z).2] at this; exact nomatch this
    rw [if_neg this]; exact e
  have sF2 : Same F' H2 := fun c o e => by
    have e' : (if c ∈ as then H2 c else F c) = some o := e
    by_cases z : c ∈ as
    · rw [if_pos z] at e'; exact e'
    · rw [if_neg z] at e'; exact up _ _ (sm _ _ e')
  have rk : Reps X.K F' (as.map V.ref) (prsD ds) := reps_ix (by unfold prsD; rw [List.length_map, List.length_map, hla, hl, hlds]) fun i x v h1 h2 => by
    rw [List.getElem?_map] at h1
    obtain ⟨c, hc, rfl⟩ := Option.map_eq_some_iff.mp h1
    have hcm := List.mem_of_getElem? hc
    obtain ⟨vs, hP, h2c⟩ := tr c hcm
    obtain ⟨e, y, he, ry, ⟨kv, hkv, r1, r3⟩, rfl⟩ := hP i hc
    unfold prsD at h2
    rw [List.getElem?_map, hkv] at h2
    cases h2
    rw [Rep]
    refine ⟨c, [.ref e.2.1, y], rfl, .inl (.inl (show F' c = some (.tup [.ref e.2.1, y]) from ?_)), ?_⟩
    · show (if c ∈ as then H2 c else F c) = _
      rw [if_pos hcm]; exact h2c
    · rw [Reps, Reps, Reps]
      exact ⟨Rep.mono sFF _ r1, Rep.mono sFF _ r3, trivial⟩
  obtain ⟨hlen, e⟩ := each_dp I2 (Reps.dp sF2 _ rk hd) (vals_refs as)
  have em : ((as.map V.ref).zip pds).map Prod.snd = pds := List.map_snd_zip (by omega)
  have ez : ((as.map V.ref).zip pds).length = es.length := by rw [List.length_zip]; rw [List.length_map] at hlen ⊢; omega
  refine ⟨(as.map V.ref).zip pds, e.mono fun _ _ h => h.1, e.mono fun _ _ h => h.2, by rw [em]; exact al, by rw [em]; exact so, by rw [ez]; exact hz, fun b hb => ?_, fun h'' p n out hk2 hp hat eo => ?_⟩
  · have : b.2 ∈ pds := by rw [← em]; exact List.mem_map.mpr ⟨b, hb, rfl⟩
    have := dp _ this
    omega
  · have hn2 : H2 p = none := I2.hok.fresh hp
    have hn : H p = none := by
      cases z : H p with
      | none => rfl
      | some o => rw [up _ _ z] at hn2; exact nomatch hn2
    have hnF : F' p = none := none_of sF2 hn2
    refine ⟨.ref p, upd H2 p (.lst (srtZ (as.map V.ref) pds)), I2.laid (t' := tk) hk2 hp ⟨?_, out, n, ?_, hat⟩, rfl, q p (as.map V.ref) F' _ sFF (fun c o z => ?_) (fun b o z => ?_) (fun b h1 h2 => ?_) hn hnF upd_same rk⟩
    · unfold srtZ
      rw [List.length_map, List.length_mergeSort, ez]
      exact hz
    · exact vals_fst eo
    · rw [upd_ne (fun y => by rw [y, hnF] at z; exact nomatch z)]
      exact sF2 _ _ z
    · rw [upd_ne (fun y => by rw [y, hn] at z; exact nomatch z)]
      exact up _ _ z
    · show (if b ∈ as then H2 b else F b) = none
      rw [if_neg (fun z => h1 (fresh b z).2)]; exact h2
def eSrtI (f : EW) : EW := fun ρ k => f ρ fun v => match v with
  | .dic ds => ∃ pds, dats (prsD ds) = some pds ∧ AllAlike pds ∧ SrtOk pds ∧ (∀ d ∈ pds, d.depth ≤ 60) ∧ k (.lst (srtZ (prsD ds) pds))
  | _ => False
theorem pf_srtI {l : Expr} {f : EW} {p pos apos cpos : Pos} (hc : X.calm = true) (hu : X.A.units + 64 < cLine) (hg : Gl X "sorted") (hm : X.mg "sorted" = none) (hv : bootBuiltins "sorted" = some (.builtin "sorted")) (hd : PP X l f) (hbase : attributeBase l "items" X.env (eval l X.env) = eval l X.env := by rfl) (hline : (apos.endLine == cpos.line) = true := by rfl)
    (he : starEach [.Call (.Attribute l "items" apos) [] [] cpos] X.env = (false, eval (.Call (.Attribute l "items" apos) [] [] cpos) X.env) :: starEach [] X.env := by rfl) (hpl : (backTo pos (starEach [] X.env)).any (·.1) = false := by rfl) :
    PF X (.Call (.Name "sorted" p) [.Call (.Attribute l "items" apos) [] [] cpos] [] pos) (eSrtI f) := PE.weak (pe_callB (call_srtI hc hu) hg hm hv (pa_cons (pe_items hd hbase hline) pa_nil he) (by decide) (by decide) he hpl) fun σ H Q ⟨B, F, ρ, P, w, p, q⟩ => by
  refine ⟨B, F, ρ, _, w, p, fun v x F1 H1 hv ex rx => ?_⟩
  split at hv
  case h_2 => exact hv.elim
  obtain ⟨pds, h1, h2, h3, h4, hp⟩ := hv
  have w1 := w.ext ex
  obtain ⟨a, xs, ep, rfl, e, md, dk, rr⟩ := rx.dic w1.fh
  have mr : MR H1 a xs ep := ⟨ex.fh _ _ e, dk.1⟩
  refine ⟨a, xs, ep, rfl, mr, fun r0 hr0 => ?_⟩
  have hne : a ≠ r0 := fun z => by rw [← z, mr.1] at hr0; exact nomatch hr0
  have up0 : ∀ b o, H1 b = some o → upd H1 r0 (ItO r0 a) b = some o := fun b o z => by rw [upd_ne (fun y => by rw [y, hr0] at z; exact nomatch z)]; exact z
  refine ⟨r0, a, xs, ep, F1, _, pds, rfl, upd_same, ⟨by rw [upd_ne hne]; exact mr.1, mr.2⟩, md.sz, fun b o z => up0 b o (w1.fh b o z), rr, h1, h2, h3, h4, fun p us F' H' s1 s2 u1 u2 hp0 hpF hat rk => ?_⟩
  have hp1 : H1 p = none := by
    cases z : H1 p with
    | none => rfl
    | some o => rw [up0 _ _ z] at hp0; exact nomatch hp0
  have ext : Ext B F1 H1 F' H' := ⟨s1, s2, fun c fc nt => u2 c (fun z => by
      cases y : H1 c with
      | none => exact nt.1 y
      | some o => rw [up0 _ _ y] at z; exact nomatch z) fc, fun c o _ z => u1 _ _ (up0 _ _ z), fun c hb => by
      obtain ⟨n, z⟩ := (w1.bx c hb).2
      exact ⟨n, u1 _ _ (up0 _ _ z)⟩⟩
  exact q _ p _ F' H' hp (ex.trans ext) hpF (ex.none hp1) hat (reps_srt rk (dats_len h1))
/-! ### d.clear(), d owned -/
def tClear (td : TE) : TE := fun σ H Q => td σ H fun x H1 => ∃ a xs, x = .ref a ∧ MD H1 a xs ∧ ∀ ep, Q .non (upd H1 a (.ext (RawD a [] ep)))
theorem pe_clear {e : Expr} {td : TE} {apos cpos : Pos} (he : PE X e td) (hb : attributeBase e "clear" X.env (eval e X.env) = eval e X.env := by rfl) (hl : (apos.endLine == cpos.line) = true := by rfl) : PE X (.Call (.Attribute e "clear" apos) [] [] cpos) (tClear td) := by
  refine ⟨fun pins s σ H Q I h => wpAny_Call_method (T := "dict") (id := "dict.clear") hb rfl hl F.plainAttrs_dict F.slot_dict_clear F.type_dict_clear (thn (he.run pins s σ H _ I h) fun u s1 ⟨x, H1, I1, rx, a, xs, ex, d, q⟩ => ?_)⟩
  subst ex; cases rx
  have dd := d.dict I1.hok
  obtain ⟨es, ep, dr, hl, _⟩ := Heap.DictKeyed.walk (knd := nestedKind X.prog X.w) ⟨xs, dd, rfl⟩
  obtain ⟨o, ho, hx, hdt⟩ := id dr
  refine ⟨dr.typeIs, fun b q => by cases q; exact ⟨o, ho, hx.2.1⟩, ?_⟩
  show wpAny _ _ (callWith cpos (.builtin "dict.clear") [.ref a] [] []) _ X.xe s1
  refine method_meetsIn F.slot_dict_clear F.entry_dict_clear rfl (PySem.evalArgs_none ⟨rfl, dr.typeIs, F.args_dict_clear_1 _, _, meets_dict_clear_raw a, ⟨es, ep, dr, ?_, fun h' hr' hs' => ?_⟩⟩)
  · rw [hl, pairsH_length]; exact d.sz
  · obtain ⟨o2, ho2, hc2, hd2⟩ := hr'
    have d2 : h'.DictOfH (nestedKind X.prog X.w) a [] := ⟨o2, #[], ep + 1, ho2, hc2, hd2, rfl, (fun x hx => nomatch hx), List.nodup_nil⟩
    obtain ⟨ep2, I3⟩ := md_write (t' := s1.toks) I1 d d2 hs' fun x hx => nomatch hx
    exact ⟨.non, _, I3, rfl, q ep2⟩
def sClear (i : Nat) : SW := fun ρ N _ => ∃ kvs, ρ[i]? = some (some (.ow (.dic kvs))) ∧ N (ρ.set i (some (.ow (.dic []))))
theorem qs_clear {m : Bool} {st : Stmt} {i : Nat} {e : Expr} {apos cpos : Pos} (h : PE X e (tVar i)) (hs : PE X (.Call (.Attribute e "clear" apos) [] [] cpos) (tClear (tVar i)) → PS X st (tDrop (tClear (tVar i)))) (hb : attributeBase e "clear" X.env (eval e X.env) = eval e X.env := by rfl) (hl : (apos.endLine == cpos.line) = true := by rfl) : QS X m st (sClear i) :=
  PS.weak (hs (pe_clear h hb hl)) fun D σ H ⟨B0, F0, H0, F, ρ, N, R, w, ⟨kvs, e, p⟩, q, r⟩ => by
  obtain ⟨x, e1, a, o, rfl, h1, h2, h3, h4⟩ := w.sl i _ e
  cases o with
  | ext φ =>
    obtain ⟨xs, ep, rfl, dk, rx⟩ := h4
    exact ⟨_, e1, a, xs, rfl, rx.md w.ext.fh dk h3, fun ep' => q _ _ _ _ p (fun _ _ z => z) (w.write e e1 (o' := .ext (RawD a [] ep')) ⟨[], ep', rfl, ⟨dk.1, by decide, List.nodup_nil⟩, by rw [RepX]; trivial⟩)⟩
  | _ => exact h4.elim
/-! ### what is sorted, as data -/
theorem dats_zip : ∀ {zs : List (PV × PyData)}, (∀ z ∈ zs, dat z.1 = some z.2) → dats (zs.map (·.1)) = some (zs.map (·.2))
  | [], _ => rfl
  | z :: zs, h => by
    rw [List.map_cons, dats, h z List.mem_cons_self, dats_zip fun y hy => h y (List.mem_cons_of_mem _ hy)]; rfl
theorem zip_dat : ∀ {xs : List PV} {ds : List PyData}, dats xs = some ds → ∀ z ∈ xs.zip ds, dat z.1 = some z.2
  | [], ds, h, z, hz => by simp at hz
  | x :: xs, ds, h, z, hz => by
    rw [dats] at h
    obtain ⟨d, h1, h⟩ := Option.bind_eq_some_iff.mp h
    obtain ⟨es, h2, rfl⟩ := Option.map_eq_some_iff.mp h
    rw [List.zip_cons_cons] at hz
    rcases List.mem_cons.mp hz with rfl | hz
    · exact h1
    · exact zip_dat h2 z hz
theorem dats_srt {xs : List PV} {ds : List PyData} (h : dats xs = some ds) : dats (srtZ xs ds) = some (ds.mergeSort (dataLe false id)) := by
  have hl := dats_len h
  have em : (xs.zip ds).map Prod.snd = ds := List.map_snd_zip (by omega)
  have m2 := List.map_mergeSort (r := dataLe false (Prod.snd : PV × PyData → PyData)) (s := dataLe false id) (f := Prod.snd) (l := xs.zip ds) (fun a _ b _ => rfl)
  unfold srtZ
  have := dats_zip (zs := (xs.zip ds).mergeSort (dataLe false Prod.snd)) fun z hz => zip_dat h z ((List.mergeSort_perm _ _).mem_iff.mp hz)
  rw [show ((xs.zip ds).mergeSort (dataLe false Prod.snd)).map (·.2) = ds.mergeSort (dataLe false id) by rw [← em, ← m2, em]] at this
  exact this
end
end KV

namespace KV
open PySem PySem.Spec PyProof.Rows L2 KGX
/-! ### x = tuple([y.pop(i) for c in ..]) -/
def popW (j c : Nat) (f : EW) (ρ : Rho) (N : List PV → List PV → Prop) : List PV → List PV → List PV → Prop
  | [], xs, acc => N xs acc
  | d :: ds, xs, acc => xs.length < 1000000 ∧ acc.length < 1000000 ∧ f (((ρ.set c none).set j (some (.ow (.lst xs)))).set c (some (.fr d))) fun u => ∃ n k y, u = .int n ∧ ixN xs.length n = some k ∧ xs[k]? = some y ∧
    popW j c f ρ N ds (xs.eraseIdx k) (acc ++ [y])
def sTupPop (i j c : Nat) (fi : AW) (f : EW) : SW := fun ρ N _ => fi (hide ρ) fun ds => ∃ xs, ρ[j]? = some (some (.ow (.lst xs))) ∧ j ≠ c ∧ c < ρ.length ∧ popW j c f ρ (fun xs' acc => N (((ρ.set c none).set j (some (.ow (.lst xs')))).set i (some (.fr (.tup acc))))) ds xs []
section
variable {K : PySem.W.Frag} {B B0 : Addr → Prop} {F0 H0 F H F' H' : Hp} {σ : L2.St} {ρ : Rho}
theorem get_set_some {α : Type} {l : List (Option α)} {c i : Nat} {x : α} (h : (l.set c none)[i]? = some (some x)) : i ≠ c ∧ l[i]? = some (some x) := by
  by_cases z : c = i
  · subst z
    by_cases hl : c < l.length
    · rw [List.getElem?_set_self hl] at h; cases h
    · rw [List.getElem?_eq_none (by simpa using hl)] at h; cases h
  · rw [List.getElem?_set_ne z] at h; exact ⟨fun y => z y.symm, h⟩
/-- a slot of which nothing is known any longer: it may hold anything -/
theorem Ws.drop (w : Ws K B0 F0 H0 F H σ ρ) (c : Nat) (v : Option V) : Ws K B0 F0 H0 F H (σ.set c v) (ρ.set c none) := by
  refine ⟨w.ext, w.b0, fun i d e => ?_, by rw [List.length_set, List.length_set]; exact w.len, fun i j d1 d2 a hij e1 e2 o1 o2 s1 s2 => ?_⟩
  · obtain ⟨hi, e'⟩ := get_set_some e
    rw [List.getElem?_set_ne (Ne.symm hi)]
    exact w.sl i d e'
  · obtain ⟨h1, e1'⟩ := get_set_some e1
    obtain ⟨h2, e2'⟩ := get_set_some e2
    rw [List.getElem?_set_ne (Ne.symm h1)] at s1
    rw [List.getElem?_set_ne (Ne.symm h2)] at s2
    exact w.dist i j d1 d2 a hij e1' e2' o1 o2 s1 s2
theorem Ws.snoc (w : Ws K B0 F0 H0 F H σ ρ) {D : Addr} (hD : H D = none) : Ws K B0 F0 H0 F (upd H D (.lst [])) (σ ++ [some (.ref D)]) (ρ ++ [some (.ow (.lst []))]) := by
  have w1 : Ws K B0 F0 H0 F (upd H D (.lst [])) σ ρ := w.backH (.own w.ext.fh (fun a h => (w.h.bx a h).2) hD)
  have at' : ∀ {i : Nat} {c : Cell}, (ρ ++ [some (.ow (.lst []))])[i]? = some (some c) → (i < ρ.length ∧ ρ[i]? = some (some c) ∧ (σ ++ [some (.ref D)])[i]? = σ[i]?) ∨ (i = ρ.length ∧ c = .ow (.lst []) ∧ (σ ++ [some (.ref D)])[i]? = some (some (.ref D))) := fun {i c} e => by
    by_cases hi : i < ρ.length
    · rw [List.getElem?_append_left hi] at e
      exact .inl ⟨hi, e, List.getElem?_append_left (by rw [← w.len]; exact hi)⟩
    · rw [List.getElem?_append_right (by omega)] at e
      by_cases hz : i = ρ.length
      · subst hz
        rw [Nat.sub_self] at e; cases e
        refine .inr ⟨rfl, rfl, ?_⟩
        rw [w.len, List.getElem?_append_right (by omega), Nat.sub_self]; rfl
      · rw [List.getElem?_eq_none (by simp; omega)] at e; cases e
  refine ⟨w1.ext, w1.b0, fun i c e => ?_, by rw [List.length_append, List.length_append, w.len]; rfl, fun i k c d a hik e1 e2 o1 o2 s1 s2 => ?_⟩
  · rcases at' e with ⟨hi, e1, es⟩ | ⟨hi, rfl, es⟩
    · rw [es]; exact w1.sl i c e1
    · exact ⟨_, es, D, .lst [], rfl, none_of w.ext.fh hD, w.h0 hD, upd_same, (show Reps K F [] [] from Reps.nil)⟩
  · rcases at' e1 with ⟨h1, e1', es1⟩ | ⟨h1, rfl, es1⟩ <;> rcases at' e2 with ⟨h2, e2', es2⟩ | ⟨h2, rfl, es2⟩
    · rw [es1] at s1; rw [es2] at s2; exact w.dist i k c d a hik e1' e2' o1 o2 s1 s2
    · rw [es1] at s1; rw [es2] at s2; cases s2; exact w.noOwner hD i c e1' o1 s1
    · rw [es1] at s1; rw [es2] at s2; cases s1; exact w.noOwner hD k d e2' o2 s2
    · exact hik (h1.trans h2.symm)
theorem Ws.init {x : Option V} {y : Option Cell} (w : Ws K B0 F0 H0 F H (σ ++ [x]) (ρ ++ [y])) : Ws K B0 F0 H0 F H σ ρ := by
  have hl : ρ.length = σ.length := by have := w.len; rw [List.length_append, List.length_append] at this; simpa using this
  have at' : ∀ {i : Nat} {c : Cell}, ρ[i]? = some (some c) → (ρ ++ [y])[i]? = some (some c) ∧ (σ ++ [x])[i]? = σ[i]? := fun {i c} e => by
    have hi := (List.getElem?_eq_some_iff.mp e).1
    exact ⟨by rw [List.getElem?_append_left hi]; exact e, List.getElem?_append_left (by rw [← hl]; exact hi)⟩
  refine ⟨w.ext, w.b0, fun i c e => ?_, hl, fun i k c d a hik e1 e2 o1 o2 s1 s2 => ?_⟩
  · obtain ⟨e1, es⟩ := at' e
    have := w.sl i c e1
    rw [es] at this; exact this
  · obtain ⟨g1, k1⟩ := at' e1
    obtain ⟨g2, k2⟩ := at' e2
    exact w.dist i k c d a hik g1 g2 o1 o2 (by rw [k1]; exact s1) (by rw [k2]; exact s2)
theorem Wx.init {x : Option V} {y : Option Cell} (w : Wx K B F H (σ ++ [x]) (ρ ++ [y])) : Wx K B F H σ ρ := by
  have hl : ρ.length = σ.length := by have := w.len; rw [List.length_append, List.length_append] at this; simpa using this
  refine ⟨w.fh, w.bx, fun i c e => ?_, hl⟩
  have hi := (List.getElem?_eq_some_iff.mp e).1
  have := w.sl i c (by rw [List.getElem?_append_left hi]; exact e)
  rw [List.getElem?_append_left (by rw [← hl]; exact hi)] at this; exact this
end
section
variable {m : Bool} {X : Cx} {elt iter : Expr} {st : Stmt} {pos spos : Pos} {fi : AW} {f : EW}
theorem qs_tupPop {i j c : Nat} {scope : Scope} {own : List (Str × Nat)} {tg : Expr} {lpos cpos p : Pos} (hc : X.calm = true) (hN : X.N.Nodup) (hi : QI X tg iter fi) (ok : BlkOk X.N X.env.scope scope own) (ho : own.map (·.2) = [c])
    (hg : ∀ (s : Shared) (H : Hp) (C : Addr) (cl : List (Str × Addr)) (fp : List Addr), PG (X.blk s H scope (compEnvC scope cl C X.env) fp) tg (gName c))
    (he : ∀ (s : Shared) (H : Hp) (C : Addr) (cl : List (Str × Addr)) (fp : List Addr), PE (X.blk s H scope (compEnvC scope cl C X.env) fp) elt (tBM X.K "list" rPopAt (tVar j) (tCons (tE X.K f) tNil)))
    (hs : PE X (.Call (.Name "tuple" p) [.ListComp elt [⟨tg, iter, [], 0⟩] scope lpos] [] cpos) (tCB (rTupS X.K) (tCons (tLc (tI X.K fi) (gName c) tYes (tBM X.K "list" rPopAt (tVar j) (tCons (tE X.K f) tNil)) (own.map (·.2))) tNil)) →
      PS X st (tAsg (tCB (rTupS X.K) (tCons (tLc (tI X.K fi) (gName c) tYes (tBM X.K "list" rPopAt (tVar j) (tCons (tE X.K f) tNil)) (own.map (·.2))) tNil)) (gName i)))
    (hgl : Gl X "tuple") (hm : X.mg "tuple" = none) (hv : bootBuiltins "tuple" = some (.type "tuple"))
    (hse : ∀ x, foldedSetIterable iter X.env x = pure x := by intro _; rfl)
    (hst : starEach [Expr.ListComp elt [⟨tg, iter, [], 0⟩] scope lpos] X.env = (false, eval (.ListComp elt [⟨tg, iter, [], 0⟩] scope lpos) X.env) :: starEach [] X.env := by rfl) (hpl : (backTo cpos (starEach [] X.env)).any (·.1) = false := by rfl) : QS X m st (sTupPop i j c fi f) :=
  PS.weak (hs (pe_callTy call_tupleS hgl hm hv (pa_cons (pe_lc (tt := tYes) hc hN hi ok hg (fun _ _ _ _ _ => pts_nil) he hse) pa_nil hst) (by decide) (by decide) hst hpl)) fun E σ H ⟨B0, F0, H0, F, ρ, N, R, w, p, q, r⟩ => by
  rw [ho]
  refine ⟨_, F, _, _, w.h, p, fun ds J F1 H1 ⟨xs, ej, hjc, hcl, pd⟩ ex iv D hD => ?_⟩
  have w1 := w.backH ex
  have hjl : j < ρ.length := (List.getElem?_eq_some_iff.mp ej).1
  let σw : L2.St := σ.set c none
  let rw' : List PV → Rho := fun xs => (ρ.set c none).set j (some (.ow (.lst xs)))
  have hlen : ∀ xs, (rw' xs).length = ρ.length := fun xs => by show ((ρ.set c none).set j _).length = _; rw [List.length_set, List.length_set]
  have hr0 : rw' xs = ρ.set c none := by
    show (ρ.set c none).set j _ = _
    refine List.ext_getElem? fun k => ?_
    by_cases z : j = k
    · subst z
      rw [List.getElem?_set_self (by rw [List.length_set]; exact hjl), List.getElem?_set_ne (Ne.symm hjc), ej]
    · rw [List.getElem?_set_ne z]
  have hrj : ∀ xs, (rw' xs)[j]? = some (some (.ow (.lst xs))) := fun xs => by
    show ((ρ.set c none).set j _)[j]? = _
    exact List.getElem?_set_self (by rw [List.length_set]; exact hjl)
  have hrset : ∀ xs ys, (rw' xs).set j (some (.ow (.lst ys))) = rw' ys := fun xs ys => by
    show ((ρ.set c none).set j _).set j _ = _
    rw [List.set_set]
  have hrc : ∀ xs (v : Option Cell), ((rw' xs).set c v).set c none = rw' xs := fun xs v => by
    rw [List.set_set]
    show ((ρ.set c none).set j _).set c none = (ρ.set c none).set j _
    rw [List.set_comm _ _ hjc, List.set_set]
  have hsl : σw.length = ρ.length := by show (σ.set c none).length = _; rw [List.length_set]; exact w.len.symm
  let NN : List PV → List PV → Prop := fun xs' acc => N (((ρ.set c none).set j (some (.ow (.lst xs')))).set i (some (.fr (.tup acc))))
  refine ⟨fun t mm H' => mm = ds.length - t ∧ t ≤ ds.length ∧ ∃ F2 xs acc, Same F1 F2 ∧ Ws X.K B0 F0 H0 F2 H' (σw ++ [some (.ref D)]) (rw' xs ++ [some (.ow (.lst acc))]) ∧ popW j c f ρ NN (ds.drop t) xs acc,
    ⟨_, rfl, Nat.zero_le _, F1, xs, [], fun _ _ z => z, by rw [hr0]; exact (w1.drop c none).snoc hD, pd⟩, ?_⟩
  rintro t mm H' ⟨em, ht, F2, xs, acc, s12, w2, pf⟩
  by_cases hl : t = ds.length
  · subst hl
    rw [List.drop_length] at pf
    refine .inl ⟨iv.stops H' (s12.trans w2.ext.fh), ?_⟩
    obtain ⟨x, e1, a, o, rfl, a1, a2, a3, a4⟩ := w2.sl ρ.length (.ow (.lst acc)) (by rw [List.getElem?_append_right (by rw [hlen]; exact Nat.le_refl _), hlen, Nat.sub_self]; rfl)
    rw [List.getElem?_append_right (by rw [hsl]; exact Nat.le_refl _), hsl, Nat.sub_self] at e1
    cases e1
    cases o with
    | lst us =>
      refine ⟨D, us, rfl, .inl ⟨.inl (.inl a3), fun T o hT od => ?_⟩⟩
      have w3 := w2.init
      have w4 : Ws X.K B0 F0 H0 F2 H' σ (rw' xs) := by
        have := w3.drop c (σ[c]?.getD none)
        have e1 : σw.set c (σ[c]?.getD none) = σ := by
          show (σ.set c none).set c _ = σ
          rw [List.set_set]
          refine List.ext_getElem? fun k => ?_
          by_cases z : c = k
          · subst z
            have hc2 : c < σ.length := by rw [← w.len]; exact hcl
            rw [List.getElem?_set_self hc2, List.getElem?_eq_getElem hc2]; rfl
          · rw [List.getElem?_set_ne z]
        have e2 : (rw' xs).set c none = rw' xs := by
          show ((ρ.set c none).set j _).set c none = (ρ.set c none).set j _
          rw [List.set_comm _ _ hjc, List.set_set]
        rw [e1, e2] at this; exact this
      have fT : F2 T = none := none_of w2.ext.fh hT
      have w5 := (w4.lay (o := .frz o (.tup us)) hT).set i (x := .ref T) (v := .tup acc) (by rw [Rep]; exact ⟨T, us, rfl, .new od, Reps.mono (same_new fT) _ a4⟩)
      exact q _ _ _ _ pf (ex.ff.trans (s12.trans (same_new fT))) w5
    | _ => exact a4.elim
  · have hlt : t < ds.length := by omega
    refine .inr ⟨iv.goes t H' (s12.trans w2.ext.fh) hlt, fun H3 => ∃ F3 xs acc, Same F1 F3 ∧ Ws X.K B0 F0 H0 F3 H3 (σw ++ [some (.ref D)]) (rw' xs ++ [some (.ow (.lst acc))]) ∧ popW j c f ρ NN (ds.drop (t + 1)) xs acc, ?_, ?_⟩
    · rintro H3 ⟨F3, xs, acc, h⟩
      exact ⟨_, by omega, rfl, hlt, F3, xs, acc, h⟩
    · intro x H3 y
      obtain ⟨d, ed, yv⟩ := iv.yields t H' x H3 (s12.trans w2.ext.fh) hlt y
      obtain ⟨F3, s23, w3, rx⟩ := w2.yv s12 yv
      have edrop : ds.drop t = d :: ds.drop (t + 1) := by
        rw [List.drop_eq_getElem_cons hlt]
        rw [List.getElem?_eq_getElem hlt] at ed
        rw [Option.some.inj ed]
      rw [edrop] at pf
      obtain ⟨hx, hacc, pf⟩ := pf
      have hcσ : c < σw.length := by rw [hsl]; exact hcl
      have hcr : c < (rw' xs).length := by rw [hlen]; exact hcl
      have w4 := w3.set c rx
      rw [List.set_append_left _ _ hcσ, List.set_append_left _ _ hcr] at w4
      have ej4 : ((rw' xs).set c (some (.fr d)) ++ [some (.ow (.lst acc))])[j]? = some (some (.ow (.lst xs))) := by
        rw [List.getElem?_append_left (by rw [List.length_set, hlen]; exact hjl), List.getElem?_set_ne (Ne.symm hjc)]; exact hrj xs
      have sj4 : (σw.set c (some x) ++ [some (.ref D)])[j]? = (σw.set c (some x))[j]? := List.getElem?_append_left (by rw [List.length_set, hsl]; exact hjl)
      obtain ⟨x1, e1, a, o, rfl, a1, a2, a3, a4⟩ := w4.sl j _ ej4
      cases o with
      | lst us =>
        refine ⟨by show (σw.set c (some x)).set c none = _; rw [List.set_set]; show (σ.set c none).set c none = σ.set c none; rw [List.set_set], ?_⟩
        show tBM X.K "list" rPopAt (tVar j) (tCons (tE X.K f) tNil) (σw.set c (some x)) H3 _
        refine ⟨.ref a, by rw [← sj4]; exact e1, .inl ⟨rfl, us, .inl (.inl a3)⟩, _, _, _, _, w4.x.init, pf, fun v z F' H4 ⟨n, k, yy, ev, hk, hy, pv⟩ ex4 rz => ?_⟩
        subst ev
        rw [Rep] at rz
        subst rz
        have w5 := w4.back ex4
        have s5 := w4.sc ex4
        obtain ⟨x2, f1, b, o', eb, c1, c2, c3, c4⟩ := w5.sl j _ ej4
        rw [e1] at f1; cases f1; cases eb
        cases o' with
        | lst us' =>
          have wl : us'.length = xs.length := Reps.len c4
          obtain ⟨vy, hvy, rvy⟩ := Reps.at c4 hy
          obtain ⟨s1, s2, s3, s4⟩ := ixN_seq hk
          refine ⟨a, us', n, k, vy, rfl, rfl, c3, by omega, by omega, by rw [wl]; exact s1, hvy, ?_⟩
          have w6 := w5.write ej4 e1 (o' := .lst (us'.eraseIdx k)) (v' := .lst (xs.eraseIdx k)) (Reps.erase k c4)
          rw [List.set_append_left _ _ (by rw [List.length_set, hlen]; exact hjl), List.set_comm _ _ (Ne.symm hjc), hrset] at w6
          have eD : ((rw' (xs.eraseIdx k)).set c (some (.fr d)) ++ [some (.ow (.lst acc))])[ρ.length]? = some (some (.ow (.lst acc))) := by
            rw [List.getElem?_append_right (by rw [List.length_set, hlen]; exact Nat.le_refl _), List.length_set, hlen, Nat.sub_self]; rfl
          have sD : (σw.set c (some x) ++ [some (.ref D)])[ρ.length]? = some (some (.ref D)) := by
            rw [List.getElem?_append_right (by rw [List.length_set, hsl]; exact Nat.le_refl _), List.length_set, hsl, Nat.sub_self]; rfl
          obtain ⟨x3, g1, a', o3, ea3, k1, k2, k3, k4⟩ := w6.sl ρ.length _ eD
          rw [sD] at g1; cases g1; cases ea3
          cases o3 with
          | lst ws =>
            refine ⟨ws, k3, line_lt (by rw [Reps.len k4]; exact hacc), _, xs.eraseIdx k, acc ++ [yy], s12.trans (s23.trans s5), ?_, pv⟩
            have w7 := (w6.write eD sD (o' := .lst (ws ++ [vy])) (v' := .lst (acc ++ [yy])) (Reps.snoc k4 rvy)).drop c none
            have hl1 : ((rw' (xs.eraseIdx k)).set c (some (.fr d))).length = ρ.length := by rw [List.length_set, hlen]
            have eA : ((rw' (xs.eraseIdx k)).set c (some (Cell.fr d)) ++ [some (Cell.ow (.lst acc))]).set ρ.length (some (Cell.ow (.lst (acc ++ [yy])))) = (rw' (xs.eraseIdx k)).set c (some (Cell.fr d)) ++ [some (Cell.ow (.lst (acc ++ [yy])))] := by
              rw [List.set_append_right _ _ (by rw [hl1]; exact Nat.le_refl _), hl1, Nat.sub_self]; rfl
            rw [eA, List.set_append_left _ _ (by rw [List.length_set]; exact hcσ), List.set_append_left _ _ (by rw [hl1]; exact hcl), hrc, List.set_set, List.set_set] at w7
            have e4 : σw.set c (some x) = σ.set c (some x) := by show (σ.set c none).set c _ = _; rw [List.set_set]
            rw [e4]; exact w7
          | _ => exact k4.elim
        | _ => exact c4.elim
      | _ => exact a4.elim
end
/-! ### min of a list of numbers -/
def cMinL : CW := fun vs k => ∃ v xs ns, vs = [v] ∧ v = .lst xs ∧ intsOf xs = some ns ∧ 0 < ns.length ∧ ∀ m, m ∈ ns → (∀ y, y ∈ ns → m ≤ y) → k (.int m)
theorem cv_minL {K : PySem.W.Frag} : CallV K (rMin K) cMinL := by
  rintro xs vs B F H P Q s bx r ⟨v, ds, ns, rfl, rfl, e2, hne, p⟩ q
  obtain ⟨x, rfl, rx⟩ := r.one
  obtain ⟨a, us, rfl, sq, ru⟩ := rx.seq (v := .lst ds) s rfl
  rw [Rep] at rx
  obtain ⟨a', us', ea, e', ru'⟩ := rx
  cases ea
  rw [intsOf_eq e2] at ru'
  rw [ru'.ints] at e'
  exact ⟨a, ns, rfl, .inl (.inl (s _ _ e')), hne, fun m h1 h2 => q _ _ F H (p m h1 h2) (.refl s fun a h => (bx a h).2) (by rw [Rep])⟩
end KV

namespace KV
open PySem PySem.Spec PyProof.Rows L2 KGX
/-! ### {k: 0 for k in rows}: a new dict that has nought for each key, keys that are tuples -/
section
variable {X : Cx} {pins : List (Addr × Obj)} {σ : L2.St} {H : Hp} {s : Shared}
theorem keys_are {h h' : Heap} (hk : ∀ b o, h.get? b = some o → h'.get? b = some o) {k : NestedKey} {a : Addr} (i : (nestedKind X.prog X.w).is h k a) : (nestedKind X.prog X.w).is h' k a :=
  HeapKind.Stays.all nestedKind_stays h' (fun b o _ e => hk b o e) _ _ i
/-- what the loop has so far -/
def Noughts (X : Cx) (s : Shared) (ks : List (NestedKey × Addr)) (D C i : Nat) (t : Shared) : Prop :=
  ∃ h tk m es, t = { s with heap := h, toks := tk } ∧ h.Ns C m ∧ (∀ b o, s.heap.get? b = some o → h.get? b = some o) ∧ h.DictOfH (nestedKind X.prog X.w) D es ∧ es.map (fun e : Ent => (e.1, e.2.1)) = ks.take i ∧ ∀ e ∈ es, ∃ u, e.2.2 = Value.int 0 u
theorem noughts_run {env : Env} {E : Value → Shared → Prop} {Q : Value → Shared → Prop} {x : Str} {px pk pz : Pos} {k2 : Nat} {scope : Scope} {cl : List (Str × Addr)} {ks : List (NestedKey × Addr)} {oI : Obj} {a : Addr} {use : Option (Value → Sem Unit)} {St : Nat → Heap → Prop} {xv : Value}
    (hu : X.A.units + 64 < cLine) (hd : (x == ("__debug__" : Str)) = false) (hx : scope.names.lookup x = some .local) (hkind : scope.kind = .function)
    (hz : ks.length ≤ 1000000) (nd : (ks.map (·.1)).Nodup) (ki : ∀ k ∈ ks, (nestedKind X.prog X.w).is s.heap k.1 k.2) (ha : a < s.heap.objs.size)
    (hit : ∀ Q', Q' (.ref s.heap.objs.size) { s with heap := s.heap.push oI } → wpAny (model X.prog X.w) X.A (pyIter xv) Q' E s)
    (W : Walks X.prog X.w X.A s.heap.objs.size [s.heap.objs.size, a] [s.heap.objs.size] ks.length (fun i v => ∃ k, ks[i]? = some k ∧ v = .ref k.2) St) (st0 : St 0 (s.heap.push oI))
    (q : ∀ D C h tk m es, s.heap.objs.size < D → s.heap.objs.size < C → C ≠ D → h.Ns C m → (∀ b o, s.heap.get? b = some o → h.get? b = some o) → h.DictOfH (nestedKind X.prog X.w) D es → es.map (fun e : Ent => (e.1, e.2.1)) = ks → (∀ e ∈ es, ∃ u, e.2.2 = Value.int 0 u) →
      compEnds (model X.prog X.w) X.A E use Q (.ref D) (compEnvC scope cl C env) (.ok .next) { s with heap := h, toks := tk }) :
    wpAny (model X.prog X.w) X.A (pyIter xv) (DcGoes X.prog X.w X.A E env scope cl (.Name x px) [] (.Name x pk) (.Constant (.int 0) k2 pz) use Q) E s := by
  refine hit _ ?_
  have sz : (s.heap.push oI).objs.size = s.heap.objs.size + 1 := Heap.size_push ..
  have old1 : ∀ b o, s.heap.get? b = some o → (s.heap.push oI).get? b = some o := fun b o e => Heap.get?_push_of_some _ e
  refine ⟨s.heap.objs.size, _, _, ks.length, _, St, rfl, Goes.ofWalks W (fun i v s Q E _ q => by
    show wpAny _ _ (letOwnedTupleGo (.Name x px) _ _) _ _ _
    unfold letOwnedTupleGo
    exact wpAny_pure q), st0, fun D C s3 cb hD => ?_⟩
  have nD : s.heap.objs.size < D := by have := cb.newD; rw [show ({ s with heap := s.heap.push oI } : Shared).heap.objs.size = s.heap.objs.size + 1 from sz] at this; omega
  have nC : s.heap.objs.size < C := by have := cb.newC; rw [show ({ s with heap := s.heap.push oI } : Shared).heap.objs.size = s.heap.objs.size + 1 from sz] at this; omega
  obtain ⟨h3, tk3, rfl⟩ := cb.only
  have lt : ∀ {b : Addr} {o : Obj}, s.heap.get? b = some o → b < s.heap.objs.size := fun e => Heap.lt_size e
  have nI : ∀ {b : Addr}, s.heap.objs.size < b → b ∉ [s.heap.objs.size] := fun {b} h z => by
    rw [List.mem_singleton] at z; rw [z] at h; exact Nat.lt_irrefl _ h
  have nO : ∀ {b : Addr} {o : Obj}, s.heap.get? b = some o → b ∉ [s.heap.objs.size] := fun {b o} e z => by
    have h := lt e
    rw [List.mem_singleton] at z; rw [z] at h; exact Nat.lt_irrefl _ h
  have nCo : ∀ {b : Addr} {o : Obj}, s.heap.get? b = some o → b ≠ C := fun {b o} e z => by
    have h := lt e
    rw [z] at h; exact Nat.lt_asymm h nC
  have nDo : ∀ {b : Addr} {o : Obj}, s.heap.get? b = some o → b ≠ D := fun {b o} e z => by
    have h := lt e
    rw [z] at h; exact Nat.lt_asymm h nD
  have hkc : ∀ b : Bool, (scope.kind == .class || (scope.kind == .module && b)) = false := fun b => by rw [hkind]; cases b <;> rfl
  refine ⟨fun i t => Noughts X s ks D C i t, ?_, ?_, ?_, ?_⟩
  · exact ⟨h3, tk3, _, [], rfl, cb.names, fun b o e => cb.old b o (old1 b o e), ⟨_, #[], 0, hD, ⟨rfl, rfl, rfl⟩, rfl, rfl, (fun _ h => nomatch h), List.nodup_nil⟩, rfl, fun _ h => nomatch h⟩
  · rintro i s1 h' tk ⟨h, tk0, m, es, rfl, hn, old, dd, em, ez⟩ hk htk
    have old' : ∀ b o, s.heap.get? b = some o → h'.get? b = some o := fun b o e => hk b o (nO e) (old b o e)
    refine ⟨h', tk, m, es, rfl, hn.at fun o e => hk C o (nI nC) e, old', dd.at' (fun o e => hk D o (nI nD) e) (fun y hy => ?_), em, ez⟩
    have : (y.1, y.2.1) ∈ ks := List.mem_of_mem_take (by rw [← em]; exact List.mem_map_of_mem hy)
    exact keys_are old' (ki _ this)
  · rintro i v s1 hi ⟨k, hk, rfl⟩ st ⟨h, tk0, m, es, rfl, hn, old, dd, em, ez⟩
    refine wpAny_assign_Name (wpAny_storeName_local (m := m) (lookup_relabel_local hx) hn (fun h2 hn2 sb => ?_) (hkc _))
    refine wpAny_pure ?_
    rw [if_pos rfl, eval_Name _ _ _ hd]
    refine wpAny_bind (wpAny_standAt (wpAny_loadName_local hkind (lookup_relabel_local hx) hn2 (if_pos rfl) ?_))
    refine wpAny_Constant_int ?_
    have kin : k ∈ ks := List.mem_of_getElem? hk
    have old2 : ∀ b o, s.heap.get? b = some o → h2.get? b = some o := fun b o e => sb.extBut b o (nCo e) (old b o e)
    have dd2 : h2.DictOfH (nestedKind X.prog X.w) D es := dd.at' (fun o e => sb.extBut D o cb.ne e) fun y hy => by
      have : (y.1, y.2.1) ∈ ks := List.mem_of_mem_take (by rw [← em]; exact List.mem_map_of_mem hy)
      exact keys_are old2 (ki _ this)
    have hes : es.length ≤ 1000000 := by
      have := congrArg List.length em
      rw [List.length_map, List.length_take] at this; omega
    refine wpAny_dictSet_heap (hsz := Nat.le_trans hes (by decide)) (by show X.A.units + 8 < cLine; omega) (keys_are old2 (ki k kin)) dd2 fun h4 dd4 sb4 => ?_
    have old4 : ∀ b o, s.heap.get? b = some o → h4.get? b = some o := fun b o e => sb4.extBut b o (nDo e) (old2 b o e)
    have hno : atKey es k.1 = none := atKey_none_of_get fun j p hj => by
      have e1 : (es.map fun e : Ent => (e.1, e.2.1))[j]? = some (k.1, p.1) := by rw [List.getElem?_map, hj]; rfl
      rw [em, List.getElem?_take] at e1
      split at e1
      · rename_i hji
        have e2 : (ks.map (·.1))[i]? = (ks.map (·.1))[j]? := by rw [List.getElem?_map, List.getElem?_map, hk, e1]; rfl
        have := (List.getElem?_inj (by rw [List.length_map]; exact hi) nd).mp e2
        omega
      · exact nomatch e1
    refine ⟨⟨h4, _, _, _, rfl, hn2.sameBut sb4 (Ne.symm cb.ne), old4, dd4, ?_, ?_⟩, ?_⟩
    · rw [storedH_new hno, List.map_append, em, List.take_add_one, hk]; rfl
    · rw [storedH_new hno]
      intro e he
      rcases List.mem_append.mp he with he | he
      · exact ez e he
      · rw [List.mem_singleton] at he; subst he; exact ⟨_, rfl⟩
    · refine W.frame _ _ _ st fun b hb o e => ?_
      have hlt : b ≤ s.heap.objs.size := by
        rcases List.mem_cons.mp hb with hb | hb
        · rw [hb]; exact Nat.le_refl _
        · rw [List.mem_singleton] at hb; rw [hb]; exact Nat.le_of_lt ha
      exact sb4.extBut b o (fun z => by rw [z] at hlt; exact Nat.not_le.mpr nD hlt) (sb.extBut b o (fun z => by rw [show b = C from z] at hlt; exact Nat.not_le.mpr nC hlt) e)
  · rintro s1 ⟨h, tk0, m, es, rfl, hn, old, dd, em, ez⟩
    exact q D C h tk0 m es nD nC (Ne.symm cb.ne) hn old dd (by rw [em, List.take_length]) ez
theorem vals_at {α : Type} (f : α → Addr) : ∀ {ks : List α} {its : List Value}, Vals (ks.map fun k => V.ref (f k)) its → its = ks.map fun k => Value.ref (f k)
  | [], its, r => by rw [List.map_nil] at r; cases r; rfl
  | k :: ks, its, r => by
    rw [List.map_cons] at r
    cases r with
    | cons r1 r2 =>
      rename_i u us
      cases (show u = Value.ref (f k) from r1)
      rw [vals_at f r2]; rfl
/-- rows that are keys -/
theorem key_rows {K : PySem.W.Frag} {F H : Hp} (sm : Same F H) : ∀ {us : List V} {vs : List PV}, Reps K F us vs → (∀ v ∈ vs, ∃ k, keyOf v = some k) →
    ∃ ks : List (NestedKey × Addr), us = ks.map (fun k => V.ref k.2) ∧ vs.map keyOf = ks.map (fun k => some k.1) ∧ (∀ k ∈ ks, KeyAt H k.1 k.2) ∧ ∀ es : List Ent, es.map (fun e : Ent => (e.1, e.2.1)) = ks → (∀ e ∈ es, ∃ u, e.2.2 = Value.int 0 u) → RepX K F es (vs.map fun v => (v, .int 0))
  | [], [], _, _ => ⟨[], rfl, rfl, (fun _ h => nomatch h), fun es h _ => by rw [List.map_eq_nil_iff.mp h, List.map_nil, RepX]; trivial⟩
  | u :: us, v :: vs, r, hk => by
    rw [Reps] at r
    obtain ⟨ks, e1, e2, e3, e4⟩ := key_rows sm r.2 fun w hw => hk w (List.mem_cons_of_mem _ hw)
    obtain ⟨k, ek⟩ := hk v List.mem_cons_self
    obtain ⟨b, rfl, ka⟩ := r.1.key sm ek
    refine ⟨(k, b) :: ks, by rw [e1]; rfl, by rw [List.map_cons, List.map_cons, e2, ek], fun q hq => ?_, fun es h hz => ?_⟩
    · rcases List.mem_cons.mp hq with rfl | hq
      · exact ka
      · exact e3 q hq
    · match es, h with
      | e :: es, h =>
        rw [List.map_cons] at h
        injection h with h1 h2
        have a1 : e.1 = k := congrArg Prod.fst h1
        have a2 : e.2.1 = b := congrArg Prod.snd h1
        obtain ⟨t, et⟩ := hz e List.mem_cons_self
        rw [List.map_cons, RepX, a1, a2, et]
        exact ⟨⟨ek, r.1, .int 0, ⟨t, rfl⟩, by rw [Rep]⟩, e4 es h2 fun e' h' => hz e' (List.mem_cons_of_mem _ h')⟩
  | [], _ :: _, h, _ => by rw [Reps] at h; exact h.elim
  | _ :: _, [], h, _ => by rw [Reps] at h; exact h.elim
def noughtsOf (vs : List PV) : List (PV × PV) := vs.map fun v => (v, .int 0)
/-- what there is to go through -/
def RowsAt (K : PySem.W.Frag) (H1 : Hp) (xv : V) (vs : List PV) (F : Hp) : Prop := Same F H1 ∧ (Rep K F xv (.lst vs) ∨ ∃ kvs, Rep K F xv (.dic kvs) ∧ vs = kvs.map (·.1))
def tDZ (K : PySem.W.Frag) (te : TE) : TE := fun σ H Q => te σ H fun xv H1 => ∃ F vs, RowsAt K H1 xv vs F ∧ KeysOk (noughtsOf vs) ∧ ∀ p o, H1 p = none → OwnO K F p o (.dic (noughtsOf vs)) → Q (.ref p) (upd H1 p o)
theorem noughts_iter {env : Env} {E : Value → Shared → Prop} {Q : Value → Shared → Prop} {x : Str} {px pk pz : Pos} {k2 : Nat} {scope : Scope} {cl : List (Str × Addr)} {xv : V} {u : Value} {F : Hp} {vs : List PV} {use : Option (Value → Sem Unit)}
    (I : Inv X pins σ H s) (hc : X.calm = true) (hu : X.A.units + 64 < cLine) (hd : (x == ("__debug__" : Str)) = false) (hx : scope.names.lookup x = some .local) (hkind : scope.kind = .function) (rx : RelV xv u) (hr : RowsAt X.K H xv vs F) (ok : KeysOk (noughtsOf vs))
    (q : ∀ D C m o h tk, H D = none → s.heap.objs.size < C → C ≠ D → h.Ns C m → OwnO X.K F D o (.dic (noughtsOf vs)) → Inv X pins σ (upd H D o) { s with heap := h, toks := tk } →
      compEnds (model X.prog X.w) X.A E use Q (.ref D) (compEnvC scope cl C env) (.ok .next) { s with heap := h, toks := tk }) :
    wpAny (model X.prog X.w) X.A (pyIter u) (DcGoes X.prog X.w X.A E env scope cl (.Name x px) [] (.Name x pk) (.Constant (.int 0) k2 pz) use Q) E s := by
  obtain ⟨sm, hr⟩ := hr
  have hz : vs.length ≤ 1000000 := by have := ok.1; unfold noughtsOf at this; rwa [List.length_map] at this
  have keys : ∀ v ∈ vs, ∃ k, keyOf v = some k := fun v hv => ok.2.1 (v, .int 0) (List.mem_map_of_mem hv)
  have nd0 : (vs.map keyOf).Nodup := by have := ok.2.2; unfold noughtsOf at this; rwa [List.map_map] at this
  have lenK : ∀ ks : List (NestedKey × Addr), vs.map keyOf = ks.map (fun k => some k.1) → ks.length = vs.length := fun ks e => by
    have := congrArg List.length e
    rw [List.length_map, List.length_map] at this; exact this.symm
  have nodK : ∀ ks : List (NestedKey × Addr), vs.map keyOf = ks.map (fun k => some k.1) → (ks.map (·.1)).Nodup := fun ks e => by
    rw [e, show (ks.map fun k => some k.1) = (ks.map (·.1)).map some by rw [List.map_map]; rfl] at nd0
    exact nodup_some nd0
  -- the ends are alike
  have fin : ∀ ks : List (NestedKey × Addr), (∀ k ∈ ks, KeyAt H k.1 k.2) → (∀ es : List Ent, es.map (fun e : Ent => (e.1, e.2.1)) = ks → (∀ e ∈ es, ∃ u, e.2.2 = Value.int 0 u) → RepX X.K F es (vs.map fun v => (v, .int 0))) →
      ∀ D C h tk m es, s.heap.objs.size < D → s.heap.objs.size < C → C ≠ D → h.Ns C m → (∀ b o, s.heap.get? b = some o → h.get? b = some o) → h.DictOfH (nestedKind X.prog X.w) D es → es.map (fun e : Ent => (e.1, e.2.1)) = ks → (∀ e ∈ es, ∃ u, e.2.2 = Value.int 0 u) →
      compEnds (model X.prog X.w) X.A E use Q (.ref D) (compEnvC scope cl C env) (.ok .next) { s with heap := h, toks := tk } := fun ks hks hrx D C h tk m es nD nC nCD hn old dd em ez => by
    have nts : ∀ y ∈ es, nt y.1 = true := fun y hy => (hks (y.1, y.2.1) (by rw [← em]; exact List.mem_map_of_mem hy)).1.nt
    obtain ⟨ep, r⟩ := rawD_of dd nts
    refine q D C m (.ext (RawD D es ep)) h tk (I.hok.fresh (Nat.le_of_lt nD)) nC nCD hn ⟨es, ep, rfl, ⟨beq_eq_false_iff_ne.mpr (Nat.ne_of_gt (Nat.lt_trans I.big nD)), ok.1, ok.2.2⟩, hrx es em ez⟩ (I.laid old (Nat.le_of_lt nD) (rawD_ok r))
  rcases hr with hr | ⟨kvs, hr, rfl⟩
  · rw [Rep] at hr
    obtain ⟨a, us, rfl, hF, rr⟩ := hr
    cases (show u = Value.ref a from rx)
    obtain ⟨its, rv, il, _⟩ := I.list (.inl (.inl (sm _ _ hF)))
    obtain ⟨ks, e1, e2, e3, e4⟩ := key_rows sm rr keys
    subst e1
    have ei := vals_at (fun k : NestedKey × Addr => k.2) rv
    have il' := il.isList
    have W := Walks.list (prog := X.prog) (w := X.w) (A := X.A) (I.ok.hd hc) s.heap.objs.size a (by
      obtain ⟨o, n, ho, _⟩ := il
      exact Nat.ne_of_lt (Heap.lt_size ho)) its.toArray
    have eP : (fun (i : Nat) (v : Value) => its.toArray[i]? = some v) = fun i v => ∃ k, ks[i]? = some k ∧ v = .ref k.2 := by
      funext i v
      rw [ei, List.getElem?_toArray, List.getElem?_map]
      cases ks[i]? with
      | none => exact propext ⟨(fun h => nomatch h), fun ⟨_, h, _⟩ => nomatch h⟩
      | some k => exact propext ⟨fun h => ⟨k, rfl, (Option.some.inj h).symm⟩, fun ⟨k', h, e⟩ => by cases h; rw [e]; rfl⟩
    have eN : its.toArray.size = ks.length := by rw [ei, List.size_toArray, List.length_map]
    rw [eP, eN] at W
    refine noughts_run (ks := ks) hu hd hx hkind (by rw [lenK ks e2]; exact hz) (nodK ks e2) (fun k hk => (e3 k hk).is I.hok) (by
      obtain ⟨o, n, ho, _⟩ := il
      exact Heap.lt_size ho) (fun Q' hq => wpAny_pyIter_list il' hq) W ⟨⟨_, Heap.get?_push_size _ rfl, rfl, rfl⟩, Heap.IsList.at il' fun o e => Heap.get?_push_of_some _ e⟩ (fin ks e3 e4)
  · obtain ⟨a, es, ep, rfl, hF, md, dk, rr⟩ := hr.dic sm
    cases (show u = Value.ref a from rx)
    obtain ⟨ees, dr, hl, ent⟩ := MR.raw I (⟨sm _ _ hF, md.2.1⟩ : MR H a es ep)
    obtain ⟨ks, e1, e2, e3, e4⟩ := key_rows sm (keys_reps rr) keys
    obtain ⟨oI, St, hit, W, st⟩ := (KdlSrc.rawDict (prog := X.prog) (w := X.w) (es := ees) (ep := ep) md.2.1).iter X.A s (I.ok.hd hc) dr
    have lk : ks.length = es.length := by have := congrArg List.length e1; rw [List.length_map, List.length_map] at this; exact this.symm
    have eP : (fun (i : Nat) (v : Value) => ∃ hi : i < ees.size, v = ees[i].key) = fun i v => ∃ k, ks[i]? = some k ∧ v = .ref k.2 := by
      funext i v
      refine propext ⟨fun ⟨hi, ev⟩ => ?_, fun ⟨k, hk, ev⟩ => ?_⟩
      · obtain ⟨y, hy, ek, _⟩ := ent i hi
        have h1 : (es.map fun e => V.ref e.2.1)[i]? = some (V.ref y.2.1) := by rw [List.getElem?_map, hy]; rfl
        rw [e1, List.getElem?_map] at h1
        obtain ⟨k, hk, e⟩ := Option.map_eq_some_iff.mp h1
        injection e with e
        exact ⟨k, hk, by rw [ev, ek, e]⟩
      · have hi : i < ees.size := by rw [hl, ← lk]; exact (List.getElem?_eq_some_iff.mp hk).1
        obtain ⟨y, hy, ek, _⟩ := ent i hi
        have h1 : (es.map fun e => V.ref e.2.1)[i]? = some (V.ref y.2.1) := by rw [List.getElem?_map, hy]; rfl
        rw [e1, List.getElem?_map, hk] at h1
        injection h1 with h1
        injection h1 with h1
        exact ⟨hi, by rw [ev, ek, h1]⟩
    rw [eP, hl, ← lk] at W
    refine noughts_run (ks := ks) hu hd hx hkind (by rw [lenK ks e2]; exact hz) (nodK ks e2) (fun k hk => (e3 k hk).is I.hok) (by
      obtain ⟨o, ho, _⟩ := dr
      exact Heap.lt_size ho) (fun Q' hq => hit _ _ hq) W st (fin ks e3 e4)
/-- the closure of a block -/
theorem blk_closure {scope : Scope} {own : List (Str × Nat)} (I : Inv X pins σ H s) (ok : BlkOk X.N X.env.scope scope own) : closureFor scope X.env = pure (cloFrom X.env.cells scope.names []) :=
  closure_ok fun y hy e => by
    rcases ok.free y hy e with k | k
    · exact I.ok.has _ (.inl k)
    · exact I.ok.has _ (.inr k)
/-- as a value -/
theorem pe_dictZ {te : TE} {x : Str} {px pk pz pos : Pos} {iter : Expr} {k2 : Nat} {scope : Scope} {own : List (Str × Nat)} (hc : X.calm = true) (hu : X.A.units + 64 < cLine) (he : PE X iter te) (ok : BlkOk X.N X.env.scope scope own) (hcell : ∀ y ∈ scope.names, y.2 ≠ .cell)
    (hx : scope.names.lookup x = some .local) (hd : (x == ("__debug__" : Str)) = false := by decide) (hs : ∀ x, foldedSetIterable iter X.env x = pure x := by intro _; rfl) :
    PE X (.DictComp (.Name x pk) (.Constant (.int 0) k2 pz) [⟨.Name x px, iter, [], 0⟩] scope pos) (tDZ X.K te) := by
  refine ⟨fun pins s σ H Q I h => ?_⟩
  refine DictComp_goes (blk_closure I ok) hcell ok.kind (fun y hy e => by rw [ok.uniq y hy, e]) (thn (he.run pins s σ H _ I h) fun u s1 ⟨xv, H1, I1, rx, F, vs, hr, ok2, q⟩ => ?_) hs
  refine noughts_iter I1 hc hu hd hx ok.kind rx hr ok2 fun D C m o hh tk hD nC nCD hn ow I2 => ?_
  refine ⟨m, hn, fun h' sb => ?_⟩
  have nC2 : (upd H1 D o) C = none := by rw [upd_ne nCD]; exact I1.hok.fresh (Nat.le_of_lt nC)
  obtain ⟨f0, f1, f2, f3, f4, f5⟩ := I1.fpOk (H' := upd H1 D o) (Nat.le_of_lt nC) nC2
  exact ⟨.ref D, upd H1 D o, I2.turned (t' := tk) (fun b u hb e => sb.2 b hb |>.trans e) f0 f1 f3 f4 f5, rfl, q D o hD ow⟩
theorem sw_dict {kx vx : Expr} {gs : List Comprehension} {scope : Scope} {pos py : Pos} {y : Str} {l : Nat} {env : Env} (hk : env.scope.kind = .function) (hy : env.scope.names.lookup y = some .local) (hl : (py.line == pos.line) = true)
    (ha : (scope.names.any fun (n, k) => n == y && (k == .local || k == .cell)) = false) : swapsWith (.DictComp kx vx gs scope pos) (some (.Name y py)) l env = pure true := by
  show (pure (env.blockKind == .function && env.kindOf y == some .local && py.line == pos.line && !(scope.names.any fun (n, k) => n == y && (k == .local || k == .cell))) : Sem Bool) = pure true
  have h1 : env.blockKind = .function := by unfold Env.blockKind; rw [hk]; rfl
  have h2 : env.kindOf y = some .local := hy
  rw [h1, h2, hl, ha]; rfl
/-- y = {..} on one line -/
theorem ps_dictZ {te : TE} {i : Nat} {x y : Str} {px pk pz py pos spos : Pos} {iter : Expr} {k2 : Nat} {scope : Scope} {own : List (Str × Nat)} (hc : X.calm = true) (hu : X.A.units + 64 < cLine) (hN : X.N.Nodup) (hy : X.N[i]? = some y) (hyl : X.env.scope.names.lookup y = some .local)
    (hsw : swapsWith (.DictComp (.Name x pk) (.Constant (.int 0) k2 pz) [⟨.Name x px, iter, [], 0⟩] scope pos) (some (.Name y py)) spos.line X.env = pure true)
    (he : PE X iter te) (ok : BlkOk X.N X.env.scope scope own) (hcell : ∀ y ∈ scope.names, y.2 ≠ .cell)
    (hx : scope.names.lookup x = some .local) (hd : (x == ("__debug__" : Str)) = false := by decide) (hs : ∀ x, foldedSetIterable iter X.env x = pure x := by intro _; rfl) :
    PS X (.Assign [.Name y py] (.DictComp (.Name x pk) (.Constant (.int 0) k2 pz) [⟨.Name x px, iter, [], 0⟩] scope pos) spos) (tAsg (tDZ X.K te) (gName i)) := by
  refine ⟨fun pins s σ H D0 I h => ?_⟩
  rw [exec_Assign_Name_used _ _ _ _ hsw]
  refine wpAny_bind (wpAny_standAt (wpAny_bind ?_))
  show wpAny _ X.A (do let _ ← comprehension (.DictComp (.Name x pk) (.Constant (.int 0) k2 pz) [⟨.Name x px, iter, [], 0⟩] scope pos) scope X.env _ newDict false (eval iter X.env) (some (assign (.Name y py) X.env))) _ _ s
  refine wpAny_bind (wpAny_mono (comprehension_at (use := some (assign (.Name y py) X.env)) (Q := fun _ s' => SP X pins D0 .next s') rfl hs (blk_closure I ok) ok.kind (fun y hy e => by rw [ok.uniq y hy, e])
    (thn (he.run pins s σ H _ I h) fun u s1 ⟨xv, H1, I1, rx, F, vs, hr, ok2, q⟩ => wpAny_mono (noughts_iter I1 hc hu hd hx ok.kind rx hr ok2 fun D C m o hh tk hD nC nCD hn ow I2 => ?_) (fun it s2 h2 => compBlock_dict hcell ok.kind h2) fun _ _ e => e)) (fun _ s' hq => wpAny_pure (wpAny_pure hq)) fun _ _ e => e)
  have nC2 : (upd H1 D o) C = none := by rw [upd_ne nCD]; exact I1.hok.fresh (Nat.le_of_lt nC)
  obtain ⟨f0, f1, f2, f3, f4, f5⟩ := I1.fpOk (H' := upd H1 D o) (Nat.le_of_lt nC) nC2
  show wpAny _ _ (assign (.Name y py) X.env (.ref D)) _ _ _
  refine wpAny_assign_Name (store_ok2 (v := V.ref D) I2 hN hy (.inl hyl) rfl (fun s3 I3 ⟨a, sb, ha⟩ => ?_) (.inr hyl))
  have hCa : C ≠ a := by
    rcases ha with z | z
    · rw [z]; exact f1
    · exact fun e => f4 y a z e.symm
  refine ⟨m, hn.sameBut sb hCa, fun h3 sb3 => ?_⟩
  exact ⟨_, upd H1 D o, I3.turned (t' := s3.toks) (fun b u hb e => (sb3.2 b hb).trans e) f0 f1 f3 f4 f5, q D o hD ow⟩
/-! by values -/
def eDictZ (f : EW) : EW := fun ρ k => f ρ fun v => match v with
  | .lst vs => KeysOk (noughtsOf vs) ∧ k (.dic (noughtsOf vs))
  | .dic kvs => KeysOk (noughtsOf (kvs.map (·.1))) ∧ k (.dic (noughtsOf (kvs.map (·.1))))
  | _ => False
theorem dz_le {K : PySem.W.Frag} {f : EW} {σ : L2.St} {H : Hp} {Q : VK} (h : tF K (eDictZ f) σ H Q) : tDZ K (tE K f) σ H Q := by
  obtain ⟨B, F, ρ, P, w, p, q⟩ := h
  refine ⟨B, F, ρ, _, w, p, fun v x F1 H1 hv ex rx => ?_⟩
  have w1 := w.ext ex
  split at hv
  · obtain ⟨ok, hp⟩ := hv
    exact ⟨F1, _, ⟨w1.fh, .inl rx⟩, ok, fun p' o hp' ow => q _ p' o F1 _ hp (ex.trans (.own w1.fh (fun a b => (w1.bx a b).2) hp')) (none_of w1.fh hp') (ex.none hp') upd_same ow⟩
  · obtain ⟨ok, hp⟩ := hv
    exact ⟨F1, _, ⟨w1.fh, .inr ⟨_, rx, rfl⟩⟩, ok, fun p' o hp' ow => q _ p' o F1 _ hp (ex.trans (.own w1.fh (fun a b => (w1.bx a b).2) hp')) (none_of w1.fh hp') (ex.none hp') upd_same ow⟩
  · exact hv.elim
theorem ps_dictZE {f : EW} {i : Nat} {x y : Str} {px pk pz py pos spos : Pos} {iter : Expr} {k2 : Nat} {scope : Scope} {own : List (Str × Nat)} (hc : X.calm = true) (hu : X.A.units + 64 < cLine) (hN : X.N.Nodup) (hy : X.N[i]? = some y) (hyl : X.env.scope.names.lookup y = some .local)
    (hsw : swapsWith (.DictComp (.Name x pk) (.Constant (.int 0) k2 pz) [⟨.Name x px, iter, [], 0⟩] scope pos) (some (.Name y py)) spos.line X.env = pure true)
    (he : PP X iter f) (ok : BlkOk X.N X.env.scope scope own) (hcell : ∀ y ∈ scope.names, y.2 ≠ .cell)
    (hx : scope.names.lookup x = some .local) (hd : (x == ("__debug__" : Str)) = false := by decide) (hs : ∀ x, foldedSetIterable iter X.env x = pure x := by intro _; rfl) :
    PS X (.Assign [.Name y py] (.DictComp (.Name x pk) (.Constant (.int 0) k2 pz) [⟨.Name x px, iter, [], 0⟩] scope pos) spos) (tAsg (tF X.K (eDictZ f)) (gName i)) :=
  PS.weak (ps_dictZ hc hu hN hy hyl hsw he ok hcell hx hd hs) (asg_mono fun _ _ _ => dz_le)
end
/-! ### d[k] += e, keys that are tuples -/
def sAugT (i : Nat) (fk f : EW) : SW := fun ρ N _ => ∃ kvs, ρ[i]? = some (some (.ow (.dic kvs))) ∧ fk ρ fun u => ∃ ks n, keyOf u = some ks ∧ lookD kvs ks = some (.int n) ∧ kvs.length < 1000000 ∧ f ρ fun w => ∃ j, w = .int j ∧ N (ρ.set i (some (.ow (.dic (putD kvs u ks (.int (n + j)))))))
section
variable {m : Bool} {X : Cx} {e a : Expr} {st : Stmt} {f fk : EW}
theorem qs_augT {i : Nat} (h : PE X e (tE X.K f) → PE X a (tE X.K fk) → PS X st (sAugM (tVar i) (tE X.K fk) (tE X.K f) rAdd)) (he : PP X e f) (hi : PP X a fk) : QS X m st (sAugT i fk f) := PS.weak (h he hi) fun D σ H ⟨B0, F0, H0, F, ρ, N, R, w, ⟨kvs, e, p⟩, q, r⟩ => by
  obtain ⟨y, ey, a0, o0, rfl, _⟩ := w.sl i _ e
  refine ⟨_, ey, _, _, _, _, w.x, p, fun u z F2 H2 ⟨ks, n, hk, hl, hlen, pv⟩ ex2 rz => ?_⟩
  have w2 := w.back ex2
  obtain ⟨y', e1, b, o, rfl, h1, h2, h3, h4⟩ := w2.sl i _ e
  rw [ey] at e1; cases e1
  have fz : flat u = true := by
    obtain ⟨hn, _⟩ := keyOf_nk hk
    exact flat_nk u hn
  have rz2 := w.flatR ex2 fz rz
  obtain ⟨c, rfl, ka⟩ := rz2.key w2.ext.fh hk
  cases o with
  | ext φ =>
    obtain ⟨xs, ep0, rfl, dk, rx⟩ := h4
    obtain ⟨p0, v0, hp0, rv0, rr0⟩ := rx.look.1 _ hl
    rw [Rep] at rr0; subst rr0
    refine ⟨_, c, xs, ks, p0, .int n, rfl, rfl, rx.md w2.ext.fh dk h3, ka, hp0, rv0, _, _, _, _, w2.x, pv, fun v2 y2 F3 H3 ⟨j, ej, pn⟩ ex3 ry => ?_⟩
    subst ej
    rw [Rep] at ry; subst ry
    have w3 := w2.back ex3
    have rz3 := Rep.mono (w2.sc ex3) _ rz2
    obtain ⟨c', ec, ka3⟩ := rz3.key w3.ext.fh hk
    cases ec
    have nb : ¬ Bs B0 σ ρ _ := fun z => z.elim (fun z => (w2.b0 _ z).2.1 h2) fun z => w2.apart z ⟨i, _, e, ey⟩
    have hs := ex3.keep _ _ nb h3
    have rx3 := RepX.mono (w2.sc ex3) _ rx
    refine ⟨n, j, rfl, rfl, rx3.md w3.ext.fh dk hs, ka3, fun u' ep ru => ?_⟩
    exact q _ _ _ _ pn ((w.sc ex2).trans (w2.sc ex3)) (w3.write e ey (o' := .ext (RawD _ (storedH xs ks c u') ep)) ⟨_, ep, rfl, dk.put hk hlen, rx3.put hk rz3 ru (by rw [Rep])⟩)
  | _ => exact h4.elim
end
end KV

namespace KV
open PySem PySem.Spec PyProof.Rows L2 KGX
/-! ### d.pop(k), d owned, keys that are tuples -/
def tPopM (td ty : TE) : TE := fun σ H Q => td σ H fun x H1 => ∃ a xs, x = .ref a ∧ MD H1 a xs ∧ ty σ H1 fun y H2 => ∃ b k p v, y = .ref b ∧ MD H2 a xs ∧ KeyAt H2 k b ∧ atKey xs k = some p ∧ RelV v p.2 ∧ ∀ ep, Q v (upd H2 a (.ext (RawD a (withoutH xs k) ep)))
section
variable {X : Cx} {o e : Expr} {td ty : TE} {apos cpos : Pos}
theorem pe_popM (hu : X.A.units + 64 < cLine) (ho : PE X o td) (he : PE X e ty) (m : M1 X o "pop" apos e cpos) : PE X (.Call (.Attribute o "pop" apos) [e] [] cpos) (tPopM td ty) := by
  refine ⟨fun pins s σ H Q I h => wpAny_Call_method m.base m.few m.line PySem.F.plainAttrs_dict PySem.F.slot_dict_pop PySem.F.type_dict_pop (thn (ho.run pins s σ H _ I h) fun u s1 ⟨x, H1, I1, rx, a, xs, ex, d, q1⟩ => ?_)⟩
  subst ex; cases rx
  refine ⟨(d.dict I1.hok).typeIs, d.noDict I1, ?_⟩
  rw [m.trees]
  refine Calls.callWith_builtin rfl (Calls.evalArgs_plain (Calls.spliced_cons (thn (he.run pins s1 σ H1 _ I1 q1) fun iv s2 ⟨y, H2, I2, ry, b, k, p, v, ey, d2, ka, hp, rv, q2⟩ => Calls.spliced_nil ?_)))
  subst ey; cases ry
  refine call_pop_heap (hsz := d2.sz) (.inl rfl) (F.args_dict_pop_2 _ _) (room9 hu) (ka.is I2.hok) d2.2.1 (d2.dict I2.hok) hp fun h' dd hs => ?_
  obtain ⟨ep, I3⟩ := md_write (t' := s2.toks + (nestedKind X.prog X.w).draws k) I2 d2 dd hs fun x hx => (d2.2.2.2.2 x (mem_withoutH hx)).1.nt
  exact ⟨v, _, I3, rv, q2 ep⟩
end
def dropD (kvs : List (PV × PV)) (ks : NestedKey) : List (PV × PV) := kvs.filter fun kv => decide (keyOf kv.1 ≠ some ks)
theorem RepX.drop {K : PySem.W.Frag} {F : Hp} {ks : NestedKey} : ∀ {xs : List Ent} {ds : List (PV × PV)}, RepX K F xs ds → RepX K F (withoutH xs ks) (dropD ds ks)
  | [], [], h => h
  | e :: xs, (k, d) :: ds, h => by
    rw [RepX] at h
    have ih := RepX.drop (ks := ks) h.2
    unfold withoutH dropD at ih ⊢
    rw [List.filter_cons, List.filter_cons, h.1.1]
    by_cases z : e.1 = ks
    · rw [if_neg (by simp [z]), if_neg (by simp [z])]; exact ih
    · rw [if_pos (by simp [z]), if_pos (by simp [z]), RepX]; exact ⟨h.1, ih⟩
  | [], _ :: _, h => by rw [RepX] at h; exact h.elim
  | _ :: _, [], h => by rw [RepX] at h; exact h.elim
theorem DOk.drop {a : Addr} {kvs : List (PV × PV)} {ks : NestedKey} (h : DOk a kvs) : DOk a (dropD kvs ks) :=
  ⟨h.1, Nat.le_trans (List.length_filter_le _ _) h.2.1, h.2.2.sublist (List.filter_sublist.map _)⟩
def sPopD (i : Nat) (fk : EW) : SW := fun ρ N _ => ∃ kvs, ρ[i]? = some (some (.ow (.dic kvs))) ∧ fk ρ fun u => ∃ ks d, keyOf u = some ks ∧ lookD kvs ks = some d ∧ N (ρ.set i (some (.ow (.dic (dropD kvs ks)))))
section
variable {m : Bool} {X : Cx} {a : Expr} {st : Stmt} {fk : EW}
theorem qs_popD {i : Nat} (h : PE X a (tE X.K fk) → PS X st (tDrop (tPopM (tVar i) (tE X.K fk)))) (hi : PP X a fk) : QS X m st (sPopD i fk) := PS.weak (h hi) fun D σ H ⟨B0, F0, H0, F, ρ, N, R, w, ⟨kvs, e, p⟩, q, r⟩ => by
  obtain ⟨y, ey, a0, o0, rfl, h1, h2, h3, h4⟩ := w.sl i _ e
  cases o0 with
  | ext φ =>
    obtain ⟨xs, ep0, rfl, dk, rx⟩ := h4
    refine ⟨_, ey, _, xs, rfl, rx.md w.ext.fh dk h3, _, _, _, _, w.x, p, fun u z F2 H2 ⟨ks, d, hk, hl, pv⟩ ex2 rz => ?_⟩
    have w2 := w.back ex2
    have nb : ¬ Bs B0 σ ρ _ := fun z => z.elim (fun z => (w.b0 _ z).2.1 h2) fun z => w.apart z ⟨i, _, e, ey⟩
    have hs := ex2.keep _ _ nb h3
    have rx2 := RepX.mono (w.sc ex2) _ rx
    have fz : flat u = true := by
      obtain ⟨hn, _⟩ := keyOf_nk hk
      exact flat_nk u hn
    have rz2 := w.flatR ex2 fz rz
    obtain ⟨c, rfl, ka⟩ := rz2.key w2.ext.fh hk
    obtain ⟨p0, v0, hp0, rv0, rr0⟩ := rx2.look.1 _ hl
    refine ⟨c, ks, p0, v0, rfl, rx2.md w2.ext.fh dk hs, ka, hp0, rv0, fun ep => ?_⟩
    exact q _ _ _ _ pv (w.sc ex2) (w2.write e ey (o' := .ext (RawD _ (withoutH xs ks) ep)) ⟨_, ep, rfl, dk.drop, rx2.drop⟩)
  | _ => exact h4.elim
/-- d[k] = d.pop(l) -/
def sPutPop (i : Nat) (fk fp : EW) : SW := fun ρ N _ => ∃ kvs, ρ[i]? = some (some (.ow (.dic kvs))) ∧ fp ρ fun u => ∃ ks d, keyOf u = some ks ∧ lookD kvs ks = some d ∧
  fk (ρ.set i (some (.ow (.dic (dropD kvs ks))))) fun w => ∃ ks2, keyOf w = some ks2 ∧ (dropD kvs ks).length < 1000000 ∧ N ((ρ.set i (some (.ow (.dic (dropD kvs ks))))).set i (some (.ow (.dic (putD (dropD kvs ks) w ks2 d)))))
theorem qs_putPop {i : Nat} {e2 : Expr} {fp : EW} (h : PE X e2 (tE X.K fp) → PE X a (tE X.K fk) → PS X st (sPutM (tVar i) (tE X.K fk) (tPopM (tVar i) (tE X.K fp)))) (hp : PP X e2 fp) (hi : PP X a fk) : QS X m st (sPutPop i fk fp) := PS.weak (h hp hi) fun D σ H ⟨B0, F0, H0, F, ρ, N, R, w, ⟨kvs, e, p⟩, q, r⟩ => by
  obtain ⟨y, ey, a0, o0, rfl, h1, h2, h3, h4⟩ := w.sl i _ e
  cases o0 with
  | ext φ =>
    obtain ⟨xs, ep0, rfl, dk, rx⟩ := h4
    refine ⟨_, ey, _, xs, rfl, rx.md w.ext.fh dk h3, _, _, _, _, w.x, p, fun u z F2 H2 ⟨ks, d, hk, hl, pv⟩ ex2 rz => ?_⟩
    have w2 := w.back ex2
    have nb : ¬ Bs B0 σ ρ _ := fun z => z.elim (fun z => (w.b0 _ z).2.1 h2) fun z => w.apart z ⟨i, _, e, ey⟩
    have hs := ex2.keep _ _ nb h3
    have rx2 := RepX.mono (w.sc ex2) _ rx
    have fz : flat u = true := by
      obtain ⟨hn, _⟩ := keyOf_nk hk
      exact flat_nk u hn
    have rz2 := w.flatR ex2 fz rz
    obtain ⟨c, rfl, ka⟩ := rz2.key w2.ext.fh hk
    obtain ⟨p0, v0, hp0, rv0, rr0⟩ := rx2.look.1 _ hl
    refine ⟨c, ks, p0, v0, rfl, rx2.md w2.ext.fh dk hs, ka, hp0, rv0, fun ep => ?_⟩
    have w3 := w2.write e ey (o' := .ext (RawD _ (withoutH xs ks) ep)) (v' := .dic (dropD kvs ks)) ⟨_, ep, rfl, dk.drop, rx2.drop⟩
    have hil : i < ρ.length := (List.getElem?_eq_some_iff.mp e).1
    exact put_key (Q := fun H => D.nx σ H) w3 (List.getElem?_set_self hil) rr0 pv fun ρ' F' H' pn sf ws => q _ _ _ _ pn ((w.sc ex2).trans sf) ws
  | _ => exact h4.elim
end
end KV

namespace KV
open PySem PySem.Spec PyProof.Rows L2 KGX
/-! ### in, not in: data in a list of data -/
section
variable {K : PySem.W.Frag}
def oInL (neg : Bool) : OW := fun w v k => ∃ d ds xs, v = .lst xs ∧ dat w = some d ∧ dats xs = some ds ∧ SeqAt.shaped d = true ∧ SeqAt.shaped (.list ds) = true ∧ k (.bl (if neg = true then !(ds.any fun z => PyData.eqv z d) else ds.any fun z => PyData.eqv z d))
theorem opv_inL : OpV K (L2.rInD K) (oInL false) := by
  rintro x y w v B F H P Q s bx r1 r2 ⟨d, ds, xs, rfl, e1, e2, s1, s2, p⟩ q
  exact ⟨d, ds, r1.dp s w e1, r2.dp s (.lst xs) (by rw [dat, e2]; rfl), s1, s2, q _ _ F H p (.refl s fun a h => (bx a h).2) (by rw [Rep]; rfl)⟩
theorem opv_notInL : OpV K (L2.rNotInD K) (oInL true) := by
  rintro x y w v B F H P Q s bx r1 r2 ⟨d, ds, xs, rfl, e1, e2, s1, s2, p⟩ q
  exact ⟨d, ds, r1.dp s w e1, r2.dp s (.lst xs) (by rw [dat, e2]; rfl), s1, s2, q _ _ F H p (.refl s fun a h => (bx a h).2) (by rw [Rep]; rfl)⟩
theorem units65 {k : Nat} {A : Around} (r : Room k A) : A.units + 65 < cLine := by have := r.un; omega
end
theorem datsRows : ∀ Ls : List (List Int), dats (Ls.map fun S => PV.tup (S.map .int)) = some (Ls.map fun S => PyData.tuple (S.map .int))
  | [] => rfl
  | S :: Ls => by
    rw [List.map_cons, dats, dat, dats_ints]
    show ((dats (Ls.map fun S => PV.tup (S.map .int))).map _) = _
    rw [datsRows Ls]; rfl
theorem canLay_rows : ∀ Ls : List (List Int), PyData.canLayAll0 (Ls.map fun S => PyData.tuple (S.map .int)) = true ∧ PyData.depthAll (Ls.map fun S => PyData.tuple (S.map .int)) ≤ 1
  | [] => ⟨rfl, Nat.zero_le _⟩
  | S :: Ls => by
    obtain ⟨h1, h2⟩ := canLay_rows Ls
    refine ⟨?_, ?_⟩
    · show (PyData.canLayAll0 (S.map PyData.int) && PyData.canLayAll0 (Ls.map fun S => PyData.tuple (S.map .int))) = true
      rw [h1, KGX.lay_ints]; rfl
    · show max (PyData.depthAll (S.map PyData.int) + 1) (PyData.depthAll (Ls.map fun S => PyData.tuple (S.map .int))) ≤ 1
      rw [KGX.depth_ints]
      exact Nat.max_le.mpr ⟨Nat.le_refl _, h2⟩
/-- a tuple of ints in a list of such -/
theorem inRows {neg : Bool} {S : List Int} {Ls : List (List Int)} {k : PV → Prop} (q : k (.bl (if neg = true then !(decide (S ∈ Ls)) else decide (S ∈ Ls)))) : oInL neg (.tup (S.map .int)) (.lst (Ls.map fun S => PV.tup (S.map .int))) k := by
  refine ⟨.tuple (S.map .int), Ls.map (fun S => PyData.tuple (S.map .int)), _, rfl, by rw [dat, dats_ints]; rfl, datsRows Ls, shaped_ints S, ?_, ?_⟩
  · obtain ⟨h1, h2⟩ := canLay_rows Ls
    show (PyData.canLayAll0 (Ls.map fun S => PyData.tuple (S.map .int)) && decide (PyData.depthAll (Ls.map fun S => PyData.tuple (S.map .int)) + 1 ≤ 64)) = true
    rw [h1, decide_eq_true (by omega)]; rfl
  · have e : ((Ls.map fun S => PyData.tuple (S.map .int)).any fun z => PyData.eqv z (.tuple (S.map .int))) = decide (S ∈ Ls) := by
      rw [List.any_map]
      have e1 : (((fun z => PyData.eqv z (.tuple (S.map .int))) ∘ fun S : List Int => PyData.tuple (S.map .int))) = fun T => decide (T = S) := by
        funext T
        exact KGX.eqvAll_ints T S
      rw [e1, Bool.eq_iff_iff, List.any_eq_true, decide_eq_true_eq]
      exact ⟨fun ⟨T, h1, h2⟩ => of_decide_eq_true h2 ▸ h1, fun h => ⟨S, h, decide_eq_true rfl⟩⟩
    rw [e]; exact q
/-! ### len, of a dict by texts too -/
section
variable {X : Cx} {K : PySem.W.Frag}
def cLenK : CW := fun vs k => match vs with
  | [.dic kvs] => k (.int kvs.length)
  | [.dks kvs] => k (.int kvs.length)
  | [v] => onS (fun xs => k (.int xs.length)) v
  | _ => False
def rLenK (K : PySem.W.Frag) : List V → Hp → VK → Prop := fun xs H Q => rLenZ K xs H Q ∨ ∃ a o kvs, xs = [V.ref a] ∧ H a = some (.frz o (.dK kvs)) ∧ Q (.int kvs.length) H
theorem call_lenK : CallR X (.builtin "len") (rLenK X.K) := by
  intro pins s σ H xs us Q I r h
  rcases h with h | h
  · exact call_lenZ pins s σ H xs us Q I r h
  · obtain ⟨a, o, kvs, rfl, ha, q⟩ := h
    obtain ⟨u, rfl, ru⟩ := vals1 r
    cases ru
    exact d_len I (.inr ⟨o, ha⟩) fun t s' I' => ⟨.int kvs.length, H, I', ⟨t, rfl⟩, q⟩
theorem cv_lenK : CallV K (rLenK K) cLenK := by
  intro xs vs B F H P Q s bx r hp q
  unfold cLenK at hp
  split at hp
  case h_4 => exact hp.elim
  · exact .inl (cv_len xs _ B F H P Q s bx r hp q)
  · obtain ⟨x, rfl, rx⟩ := r.one
    rw [Rep] at rx
    obtain ⟨a, o, kvs, rfl, e, rk⟩ := rx
    refine .inr ⟨a, o, kvs, rfl, s _ _ e, ?_⟩
    rw [rk.len]
    exact q _ _ F H hp (.refl s fun a h => (bx a h).2) (by rw [Rep])
  · rename_i v hv1 hv2
    refine .inl (cv_len xs [v] B F H P Q s bx r ?_ q)
    cases v <;> first
      | exact hp
      | exact (hv1 _ rfl).elim
end
/-! ### dicts, shown -/
theorem kv_show {m k : Nat} : ∀ {ds : List (PyData × PyData)}, (∀ d ∈ ds, Small m k d.1 ∧ Small m k d.2) → PyData.showableKv ds = true ∧ ((PyData.shownKv ds).map (·.length)).sum ≤ (2 * m + 2) * ds.length ∧ PyData.depthKv ds ≤ k ∧ (PyData.shownKv ds).length = ds.length
  | [], _ => ⟨rfl, Nat.le_refl _, Nat.zero_le _, rfl⟩
  | (y, d) :: r, h => by
    obtain ⟨⟨c1, c2, c3⟩, a1, a2, a3⟩ := h (y, d) List.mem_cons_self
    obtain ⟨b1, b2, b3, b4⟩ := kv_show (ds := r) fun x hx => h x (List.mem_cons_of_mem _ hx)
    refine ⟨?_, ?_, ?_, ?_⟩
    · show (PyData.showable y && PyData.showable d && PyData.showableKv r) = true
      rw [a1, b1, c1]; rfl
    · show (PyData.shown y ++ ": " ++ PyData.shown d : Str).length + ((PyData.shownKv r).map (·.length)).sum ≤ (2 * m + 2) * (r.length + 1)
      have e : (PyData.shown y ++ ": " ++ PyData.shown d : Str).length = (PyData.shown y).length + 2 + (PyData.shown d).length := by rw [strLen_append, strLen_append]; rfl
      rw [e, Nat.mul_add, Nat.mul_one]
      have c2' : (PyData.shown y).length ≤ m := c2
      have a2' : (PyData.shown d).length ≤ m := a2
      omega
    · exact Nat.max_le.mpr ⟨Nat.max_le.mpr ⟨c3, a3⟩, b3⟩
    · show (PyData.shownKv r).length + 1 = r.length + 1
      rw [b4]
theorem small_dic {m k n : Nat} {ds : List (PyData × PyData)} (hn : ds.length ≤ n) (h : ∀ d ∈ ds, Small m k d.1 ∧ Small m k d.2) : Small ((2 * m + 4) * n + 3) (k + 1) (.dict ds) := by
  obtain ⟨a1, a2, a3, a4⟩ := kv_show h
  refine ⟨a1, ?_, ?_⟩
  · have e := dictText_len_le (PyData.shownKv ds)
    show (dictText (PyData.shownKv ds)).length ≤ _
    rw [a4] at e
    have h1 : (2 * m + 2) * ds.length ≤ (2 * m + 2) * n := Nat.mul_le_mul_left _ hn
    have h2 : (2 * m + 4) * n = (2 * m + 2) * n + 2 * n := by rw [← Nat.add_mul]
    omega
  · show PyData.depthKv ds + 1 ≤ k + 1
    omega
theorem elsZD {m k : Nat} : ∀ {xs : List (PV × PV)}, (∀ v ∈ xs, ElZ m k v.1 ∧ ElZ m k v.2) → ∃ ds, datsZD xs = some ds ∧ ds.length = xs.length ∧ ∀ d ∈ ds, Small m k d.1 ∧ Small m k d.2
  | [], _ => ⟨[], by rw [datsZD], rfl, fun _ h => nomatch h⟩
  | (y, v) :: vs, h => by
    obtain ⟨⟨c, f1, t1⟩, d, e1, s1⟩ := h (y, v) List.mem_cons_self
    obtain ⟨ds, e2, l2, s2⟩ := elsZD (xs := vs) fun x hx => h x (List.mem_cons_of_mem _ hx)
    refine ⟨(c, d) :: ds, by rw [datsZD, f1, e1, e2]; rfl, by rw [List.length_cons, List.length_cons, l2], fun x hx => ?_⟩
    rcases List.mem_cons.mp hx with rfl | hx
    · exact ⟨t1, s1⟩
    · exact s2 x hx
theorem elZ_dic {m k n : Nat} {xs : List (PV × PV)} (h : ∀ v ∈ xs, ElZ m k v.1 ∧ ElZ m k v.2) (hl : xs.length ≤ n) : ElZ ((2 * m + 4) * n + 3) (k + 1) (.dic xs) := by
  obtain ⟨ds, e, l, s⟩ := elsZD h
  exact ⟨.dict ds, by rw [datZ, e]; rfl, small_dic (by omega) s⟩
/-! ### dicts, changed -/
theorem nd_put {kvs : List (PV × PV)} {w v : PV} {ks : NestedKey} (h : (kvs.map fun kv => keyOf kv.1).Nodup) (hw : keyOf w = some ks) : ((putD kvs w ks v).map fun kv => keyOf kv.1).Nodup := by
  unfold putD
  split
  · rw [List.map_map]
    have e : ((fun kv : PV × PV => keyOf kv.1) ∘ fun kv : PV × PV => if keyOf kv.1 = some ks then (kv.1, v) else kv) = fun kv => keyOf kv.1 := by
      funext kv
      show keyOf (if keyOf kv.1 = some ks then (kv.1, v) else kv).1 = _
      split <;> rfl
    rw [e]; exact h
  · rename_i hn
    rw [List.map_append, List.nodup_append]
    refine ⟨h, by simp, fun a ha b hb z => hn ?_⟩
    subst z
    rw [List.map_cons, List.map_nil, List.mem_singleton] at hb
    obtain ⟨kv, h1, h2⟩ := List.mem_map.mp ha
    unfold lookD
    rw [Option.isSome_map, List.find?_isSome]
    exact ⟨kv, h1, decide_eq_true (by rw [h2, hb, hw])⟩
theorem nd_drop {kvs : List (PV × PV)} {ks : NestedKey} (h : (kvs.map fun kv => keyOf kv.1).Nodup) : ((dropD kvs ks).map fun kv => keyOf kv.1).Nodup := h.sublist (List.filter_sublist.map _)
theorem mem_put {kvs : List (PV × PV)} {w v : PV} {ks : NestedKey} {kv : PV × PV} (h : kv ∈ putD kvs w ks v) : kv ∈ kvs ∨ (kv.2 = v ∧ (kv.1 = w ∨ (keyOf kv.1 = some ks ∧ ∃ u, (kv.1, u) ∈ kvs))) := by
  unfold putD at h
  split at h
  · obtain ⟨kv', h1, h2⟩ := List.mem_map.mp h
    split at h2
    · rename_i hk
      subst h2
      exact .inr ⟨rfl, .inr ⟨hk, kv'.2, h1⟩⟩
    · subst h2; exact .inl h1
  · rcases List.mem_append.mp h with h | h
    · exact .inl h
    · rw [List.mem_singleton] at h; subst h; exact .inr ⟨rfl, .inl rfl⟩
theorem len_put {kvs : List (PV × PV)} {w v : PV} {ks : NestedKey} : (putD kvs w ks v).length = if (lookD kvs ks).isSome = true then kvs.length else kvs.length + 1 := by
  unfold putD
  split
  · rw [List.length_map]
  · rw [List.length_append]; rfl
theorem nodupAll {α : Type} [DecidableEq α] {xs ys : List α} (hn : xs.Nodup) (hs : ∀ x ∈ xs, x ∈ ys) (hl : ys.length ≤ xs.length) : ∀ y ∈ ys, y ∈ xs := fun y hy => by
  by_cases h : y ∈ xs
  · exact h
  · have := nodup_le (m := ys.erase y) hn fun x hx => (List.mem_erase_of_ne (fun z => h (by rw [← z]; exact hx))).mpr (hs x hx)
    rw [List.length_erase_of_mem hy] at this
    have := List.length_pos_of_mem hy
    omega
end KV

namespace KV
open PySem PySem.Spec PyProof.Rows L2 KGX HT
/-! ### t[::-1], l[::-1] -/
theorem places_rev (n : Nat) : Builtin.Slice.slicePlaces ((n : Int) - 1) (-1) (-1) = n := by
  unfold Builtin.Slice.slicePlaces
  have h1 : ¬ ((-1 : Int) > 0) := by omega
  simp only [h1, if_false]
  by_cases h : (n : Int) - 1 > -1
  · rw [if_pos h, show (- -1 : Int) = 1 by decide, Int.ediv_one]
    omega
  · rw [if_neg h]
    omega
section
variable {prog : Program} {w : World} {A : Around} {E : Value → Shared → Prop} {s : Shared}
theorem sliceApplied_rev {sl : Addr} {vk : Value} {n : Nat} {Q : Int × Int × Nat → Shared → Prop} (hs : s.heap.IsSliceOf sl .none .none vk) (pk : IsPart vk (some (-1)))
    (h : Q ((n : Int) - 1, -1, n) s) : wpAny (model prog w) A (Builtin.Slice.sliceApplied (.ref sl) (pure (n : Int))) Q E s := by
  obtain ⟨os, hos, hcs, hds⟩ := id hs
  unfold Builtin.Slice.sliceApplied Builtin.Slice.sliceFields
  refine wpAny_bind (wpAny_bind (wpAny_field hos hds (x := .none) rfl (wpAny_bind (wpAny_field hos hds (x := .none) rfl (wpAny_bind (wpAny_field hos hds (x := vk) rfl (wpAny_pure ?_)))))))
  refine wpAny_bind (slicePart_ pk ?_)
  show wpAny _ _ (if ((-1 : Int) == 0) = true then _ else _) _ _ s
  rw [if_neg (by decide)]
  refine wpAny_bind (slicePart_ .none (wpAny_bind (slicePart_ .none (wpAny_bind (wpAny_pure ?_)))))
  show wpAny _ _ (pure ((n : Int) - 1, (-1 : Int), Builtin.Slice.slicePlaces ((n : Int) - 1) (-1) (-1))) _ _ s
  rw [places_rev]
  exact wpAny_pure h
theorem pick_rev (xs : Array Value) : ((List.range xs.size).filterMap fun (k : Nat) => xs[(((xs.size : Nat) : Int) - 1 + (k : Int) * -1).toNat]?).toArray = xs.toList.reverse.toArray := by
  have e : ((List.range xs.size).filterMap fun (k : Nat) => xs[(((xs.size : Nat) : Int) - 1 + (k : Int) * -1).toNat]?) = ((List.range xs.size).map fun k => xs.size - 1 - k).filterMap (xs[·]?) := by
    rw [List.filterMap_map]
    congr 1
    funext k
    show xs[(((xs.size : Nat) : Int) - 1 + (k : Int) * -1).toNat]? = xs[xs.size - 1 - k]?
    rw [show (((xs.size : Nat) : Int) - 1 + (k : Int) * -1).toNat = xs.size - 1 - k by omega]
  rw [e, PySem.W.krv_range, List.filterMap_reverse, PySem.W.krv_all]
theorem getItem_tuple_rev {t sl : Addr} {items : Array Value} {vk : Value} {Q : Value → Shared → Prop} (ht : IsTup s.heap t items) (hs : s.heap.IsSliceOf sl .none .none vk) (pk : IsPart vk (some (-1)))
    (h : Q (.ref s.heap.objs.size) { s with heap := s.heap.push { cls := .type "tuple", data := .seq items.toList.reverse.toArray } })
    (hsz : items.size ≤ sizeLine) : wpAny (model prog w) A (getItem (.ref t) (.ref sl)) Q E s := by
  have htake : sizeOk (.seq items.toList.reverse.toArray) := by
    show items.toList.reverse.toArray.size ≤ sizeLine
    rw [List.size_toArray, List.length_reverse, Array.length_toList]
    exact hsz
  obtain ⟨os, hos, hcs, hds⟩ := id hs
  have hTs : s.TypeIs (.ref sl) "slice" := ⟨os, hos, hcs⟩
  unfold getItem
  try with_reducible refine wpAny_holding ?_
  first | refine wpAny_bind (wpAny_pure ?_) | skip
  refine wpAny_bind (wpAny_sequenceKey ht.typeIs (by decide) ?_)
  refine wpAny_bind (wpAny_callSpecial?_slot (name := Str.ofString "__getitem__") ht.typeIs PyProof.Rows.slot_tuple_getitem
    (wpAny_call_entry PyProof.Rows.slot_tuple_getitem ht.typeIs entry_tuple_getitem ?_ (args_tuple_getitem _ _)))
  show wpAny _ _ (Builtin.Tuple.tupleItemsOf (.ref t) >>= _) _ _ s
  refine wpAny_bind (tupleItemsOf_ ht ?_)
  refine wpAny_bind (wpAny_typeOf hTs ?_)
  rw [if_pos (by decide)]
  refine wpAny_bind (sliceApplied_rev hs pk ?_)
  have hno : ¬ ((((items.size : Nat) : Int) - 1 == 0 && (-1 : Int) == 1 && items.size == items.size) = true) := by
    intro q
    rw [Bool.and_eq_true, Bool.and_eq_true] at q
    exact absurd q.1.2 (by decide)
  show wpAny _ _ (if (((items.size : Nat) : Int) - 1 == 0 && (-1 : Int) == 1 && items.size == items.size) = true then _ else _) _ _ s
  rw [if_neg hno, pick_rev]
  first
    | exact wpAny_bind (m := Builtin.Tuple.tupleExact _) (wpAny_newObj_type (wpAny_pure ⟨_, rfl, wpAny_pure h⟩) htake)
    | exact wpAny_bind (m := Builtin.Tuple.tupleExact _) (wpAny_newObj_type (wpAny_bind (wpAny_pure (wpAny_pure ⟨_, rfl, wpAny_pure h⟩))) htake)
    | exact wpAny_bind (wpAny_bind (m := Builtin.Tuple.tupleExact _) (wpAny_newObj_type (wpAny_pure (wpAny_pure ⟨_, rfl, wpAny_pure h⟩)) htake))
    | exact wpAny_bind (wpAny_bind (m := Builtin.Tuple.tupleExact _) (wpAny_newObj_type (wpAny_pure ⟨_, rfl, wpAny_pure h⟩) htake))
end
section
variable {X : Cx} {e st : Expr} {te : TE} {tk : TO} {pos p2 : Pos} {K : PySem.W.Frag}
def tRev (K : PySem.W.Frag) (te : TE) (tk : TO) : TE := fun σ H Q => te σ H fun x H1 => tk σ H1 fun o H2 => o = some (-1) ∧ ∃ a xs, x = .ref a ∧ ((SqT K H2 a xs ∧ NewT H2 xs.reverse Q) ∨ (SqL K H2 a xs ∧ ∀ p, H2 p = none → Q (.ref p) (upd H2 p (.lst xs.reverse))))
theorem pe_rev (he : PE X e te) (hk : PO X (some st) tk) : PE X (.Subscript e (.Slice none none (some st) p2) pos) (tRev X.K te tk) := by
  refine ⟨fun pins s σ H Q I h => ?_⟩
  refine Subscript_ (thn (he.run pins s σ H _ I h) fun v s1 ⟨x, H1, I1, r1, q1⟩ => ?_)
  refine wpAny_Slice (thn (po_none.run pins s1 σ H1 (fun o H' => o = none ∧ H' = H1) I1 ⟨rfl, rfl⟩) fun vl s2 ⟨l, H2, I2, pl, e2, e2'⟩ => ?_)
  subst e2 e2'
  refine thn (po_none.run pins s2 σ H2 (fun o H' => o = none ∧ H' = H2) I2 ⟨rfl, rfl⟩) fun vu s3 ⟨u, H3, I3, pu, e3, e3'⟩ => ?_
  subst e3 e3'
  refine thn (hk.run pins s3 σ H3 _ I3 q1) fun vk s4 ⟨o, H4, I4, pk, eo, a, xs, ex, q4⟩ => ?_
  subst eo ex
  cases pl
  cases pu
  cases r1
  have I5 : Inv X pins σ H4 { s4 with heap := s4.heap.push { cls := .type "slice", data := .fields #[.none, .none, vk] } } := I4.kept (t' := s4.toks) fun b ob q => Heap.get?_push_of_some _ q
  have hs : ({ s4 with heap := s4.heap.push { cls := .type "slice", data := .fields #[.none, .none, vk] } } : Shared).heap.IsSliceOf s4.heap.objs.size .none .none vk := Heap.IsSliceOf.new ..
  show wpAny (model X.prog X.w) X.A (subscriptTail e (.Slice none none (some st) p2) (.ref a) (.ref s4.heap.objs.size)) (EP X pins σ Q) X.xe { s4 with heap := s4.heap.push { cls := .type "slice", data := .fields #[.none, .none, vk] } }
  rcases q4 with ⟨hx, q⟩ | ⟨hx, q⟩
  · obtain ⟨us, r, ht, hz⟩ := I5.tuple hx
    refine tail_any (ops := [.ref a, .ref s4.heap.objs.size]) ht.typeIs PyProof.Rows.slot_tuple_getitem.lookup ?_ (by with_unfolding_all rfl)
    refine getItem_tuple_rev ht hs pk ?_ (by rw [List.size_toArray, ← r.length]; exact hz)
    exact inv_newT (h' := s4.heap.push { cls := .type "slice", data := .fields #[.none, .none, vk] }) (t' := s4.toks) I5 r.reverse (by rw [List.length_reverse]; exact hz) q
  · obtain ⟨us, r, p, hz⟩ := I5.list hx
    refine tail_any (ops := [.ref a, .ref s4.heap.objs.size]) p.isList.typeIs slot_list_getitem.lookup ?_ (by with_unfolding_all rfl)
    refine wpAny_getItem_list_slice p.isList hs .none .none pk (by decide) ?_ (by rw [List.size_toArray, ← r.length]; exact hz)
    rw [PySem.W.krv_pick]
    refine ⟨.ref _, _, I5.laid (t' := s4.toks) (o := .lst xs.reverse) (fun b ob q => Heap.get?_push_of_some _ q) (Nat.le_refl _) ?_, rfl, q _ (I5.hok.fresh (Nat.le_refl _))⟩
    exact ⟨by rw [List.length_reverse]; exact hz, _, 0, r.reverse, Heap.get?_push_size _ rfl⟩
/-- t[::-1], l[::-1] -/
def eRev (f : EW) : EW := fun ρ k => f ρ fun v => match v with
  | .tup xs => k (.tup xs.reverse)
  | .lst xs => k (.lst xs.reverse)
  | _ => False
theorem Reps.rev {F : Hp} : ∀ {us : List V} {ds : List PV}, Reps K F us ds → Reps K F us.reverse ds.reverse
  | [], [], _ => by rw [List.reverse_nil, List.reverse_nil, Reps]; trivial
  | u :: us, d :: ds, h => by
    rw [Reps] at h
    rw [List.reverse_cons, List.reverse_cons]
    exact (Reps.rev h.2).app (by rw [Reps, Reps]; exact ⟨h.1, trivial⟩)
  | [], _ :: _, h => by rw [Reps] at h; exact h.elim
  | _ :: _, [], h => by rw [Reps] at h; exact h.elim
theorem pp_rev {f : EW} (he : PP X e f) (hk : PPo X (some st) (oSome (eNeg (eC (.int 1))))) : PP X (.Subscript e (.Slice none none (some st) p2) pos) (eRev f) := PE.weak (pe_rev he hk) fun σ H Q ⟨B, F, ρ, P, w, p, q⟩ => by
  refine ⟨B, F, ρ, _, w, p, fun v x F1 H1 p1 e1 r1 => ⟨B, F1, ρ, (fun o => o = some (-1)), w.ext e1, rfl, fun o F2 H2 eo e2 => ⟨eo, ?_⟩⟩⟩
  have w2 := (w.ext e1).ext e2
  have r2 := Rep.mono e2.ff v r1
  have e12 := e1.trans e2
  split at p1
  · rename_i ds
    rw [Rep] at r2
    obtain ⟨c, us, rfl, ec, rc⟩ := r2
    refine ⟨c, us, rfl, .inl ⟨ec.sq w2.fh, fun d o hd ho => ?_⟩⟩
    have ex : Ext B F2 H2 (upd F2 d (.frz o (.tup us.reverse))) (upd H2 d (.frz o (.tup us.reverse))) := .laid w2.fh (fun a h => (w2.bx a h).2) hd
    exact q _ _ _ _ p1 (e12.trans ex) (by rw [Rep]; exact ⟨d, _, rfl, .new ho, (Reps.rev rc).mono ex.ff⟩)
  · rename_i ds
    rw [Rep] at r2
    obtain ⟨c, us, rfl, ec, rc⟩ := r2
    refine ⟨c, us, rfl, .inr ⟨.inl (.inl (w2.fh _ _ ec)), fun d hd => ?_⟩⟩
    have ex : Ext B F2 H2 (upd F2 d (.lst us.reverse)) (upd H2 d (.lst us.reverse)) := .laid w2.fh (fun a h => (w2.bx a h).2) hd
    exact q _ _ _ _ p1 (e12.trans ex) (by rw [Rep]; exact ⟨d, _, rfl, upd_same, (Reps.rev rc).mono ex.ff⟩)
  · exact p1.elim
end
end KV

namespace KV
open PySem PySem.Spec PyProof.Rows L2 KGX
/-! ### in a tuple of texts: things of whatever kind -/
section
open SeqAt AutoSeq1 MeetsSeq
variable {A : Around} {s : Shared}
theorem str_eq_declines_dict (b : Str) (u : Tok) (l : Addr) (es : Array DictEntry) (ep : Nat) (dd : Option Addr) (sl : Array (Option Value)) :
    Meets (Builtin.«str.__eq__» ⟨[.str b u, .ref l], []⟩) (fun _ R s => s.heap.get? l = some { cls := .type "dict", dict := dd, data := .dict es ep, slots := sl } ∧ R (.ok (.ret .notImplemented)) s) :=
  .of_wp fun prog w A R s h => by obtain ⟨hp, g, d, tk, os⟩ := s; obtain ⟨hl, h⟩ := h; wp_walk using wpAny_loadPart' hl, wpAny_load hl; exact ⟨_, rfl, h⟩
theorem rc_str_dict {prog : Program} {w : World} {E : Value → Shared → Prop} {Q : Value → Shared → Prop} {l : Addr} {o : Obj} {es : Array DictEntry} {ep : Nat} (b : Str) (u : Tok) (ho : s.heap.get? l = some o) (hx : o.ExactDict) (hdt : o.data = .dict es ep) (hu : A.units < cLine) (h : Q (.bool false) s) : wpAny (model prog w) A (richCompare .Eq (.str b u) (.ref l)) Q E s := by
  obtain ⟨cls, dd, data, sl⟩ := o
  obtain ⟨hc, h2, h3⟩ := hx
  simp only at hc h2 h3 hdt
  subst hc h2 h3 hdt
  have hT : s.TypeIs (.ref l) "dict" := ⟨_, ho, rfl⟩
  exact rc_eq_decline_or (k := false) (typeIs_str s b u) hT (by decide) F.sub_dict_str F.slot_str_eq F.slot_dict_eq_refl
    (fun _ hq => call_meets F.slot_str_eq (typeIs_str s b u) F.entry_str_eq (F.args_str_eq_2 _ _) (str_eq_declines_dict b u l es ep none #[]) ⟨ho, hq⟩)
    (fun _ hq => wpAny_call_entry PySem.F.slot_dict_eq_refl hT PySem.F.entry_dict_eq (by
      show wpAny _ _ (Builtin.Dict.dictSlotArgs "__eq__" ⟨[.ref l, .str b u], []⟩ >>= _) _ _ s
      refine wpAny_bind ?_
      unfold Builtin.Dict.dictSlotArgs
      refine wpAny_bind (wpAny_notOrdered_dict hT ?_)
      show wpAny _ _ (pure (Value.ref l, Value.str b u)) _ _ s
      refine wpAny_pure ?_
      refine wpAny_bind (wpAny_isInstance (T := "str") (typeIs_str s b u) PySem.F.sub_str_dict ?_)
      simp only [Bool.not_false, if_true]
      first
        | exact wpAny_bind (wpAny_rule (wpAny_pure ⟨_, rfl, hq⟩))
        | exact wpAny_bind (wpAny_rule (wpAny_bind (wpAny_pure (wpAny_pure ⟨_, rfl, hq⟩))))
        | exact wpAny_bind (wpAny_rule (wpAny_bind (wpAny_pure ⟨_, rfl, hq⟩)))) (PySem.F.args_dict_eq_2 _ _))
    (fun _ hq => wpAny_of_eq (rfl : isSame (.str b u) (.ref l) = pure false) hq) (.inr hu) h
theorem eqAt_str_dict {l : Addr} {o : Obj} {es : Array DictEntry} {ep : Nat} (b : Str) (u : Tok) (ho : s.heap.get? l = some o) (hx : o.ExactDict) (hdt : o.data = .dict es ep) (hu : A.units < cLine) : EqAt A s (.str b u) (.ref l) false := fun prog w E Q h => by
  unfold eqBool
  refine wpAny_holding ?_
  refine wpAny_ite_split (fun hab => absurd (eq_of_beq hab) nofun) (fun _ => ?_)
  exact wpAny_bind (rc_str_dict b u ho hx hdt hu (wpAny_truthy_bool h))
end
section
variable {X : Cx} {K : PySem.W.Frag}
/-- data in a tuple of data -/
def rInT (K : PySem.W.Frag) : R2 := fun x y H Q => ∃ d ds, Dp K H x d ∧ Dp K H y (.tuple ds) ∧ SeqAt.shaped d = true ∧ SeqAt.shaped (.tuple ds) = true ∧ Q (.bl (ds.any fun z => PyData.eqv z d)) H
theorem op_inT (hu : X.A.units + 65 < cLine) : OpR X (compareOp .In) (rInT X.K) := by
  intro pins s σ H x y v u Q I rx ry h
  obtain ⟨d, ds, hd, he, sd, se, q⟩ := h
  obtain ⟨as, r1⟩ := Dp.reads I d x v hd rx
  obtain ⟨bs, r2⟩ := Dp.reads I (.tuple ds) y u he ry
  exact SeqAt.in_tuple_reads r2 r1 (SeqAt.canLay_of_shaped se) (SeqAt.canLay_of_shaped sd) (by
    have h1 := SeqAt.depth_of_shaped sd
    have : min (PyData.depthAll ds) d.depth ≤ d.depth := Nat.min_le_right _ _
    omega) ⟨.bl _, H, I, rfl, q⟩
/-- a dict by texts is in no tuple of texts -/
def rInW (K : PySem.W.Frag) : R2 := fun x y H Q => ∃ (a : Addr) (o : Obj) (kvs : List (Key × V)) (p : Addr) (zs : List Str), x = .ref a ∧ H a = some (.frz o (.dK kvs)) ∧ y = .ref p ∧ SqT K H p (zs.map V.str) ∧ Q (.bl false) H
theorem op_inW (hu : X.A.units + 65 < cLine) : OpR X (compareOp .In) (rInW X.K) := by
  intro pins s σ H x y v u Q I rx ry h
  obtain ⟨a, o, kvs, p, zs, rfl, ha, rfl, hp, q⟩ := h
  cases rx
  cases ry
  obtain ⟨_, h1, h2, es, ep, _, h3, _⟩ := I.frzK ha
  obtain ⟨its, r, pl, hz⟩ := I.tuple hp
  have allS : ∀ {zs : List Str} {us : List Value}, Vals (zs.map V.str) us → ∀ w ∈ us, ∃ b t, w = Value.str b t := by
    intro zs
    induction zs with
    | nil => intro us r w hw; rw [List.map_nil] at r; cases r; exact nomatch hw
    | cons z zs ih =>
      intro us r w hw
      rw [List.map_cons] at r
      cases r with
      | cons r1 r2 =>
        rcases List.mem_cons.mp hw with rfl | hw
        · obtain ⟨t, e⟩ := r1; exact ⟨z, t, e⟩
        · exact ih r2 w hw
  refine SeqAt.in_tupleAt (fun _ => false) pl (fun w hw => ?_) ⟨.bl _, H, I, rfl, ?_⟩
  · obtain ⟨b, t, rfl⟩ := allS r w (by simpa using hw)
    exact eqAt_str_dict b t h1 h2 h3 (by show X.A.units + 1 < cLine; omega)
  · rw [show its.toArray.any (fun _ => false) = false by simp]
    exact q
def strsOf : List PV → Option (List Str)
  | [] => some []
  | .str z :: r => (strsOf r).map (z :: ·)
  | _ => none
theorem Reps.strs {F : Hp} : ∀ {xs : List V} {ds : List PV} {zs : List Str}, Reps K F xs ds → strsOf ds = some zs → xs = zs.map V.str
  | [], [], zs, _, e => by rw [strsOf] at e; cases e; rfl
  | x :: xs, .str z :: ds, zs, h, e => by
    rw [Reps, Rep] at h
    rw [strsOf] at e
    obtain ⟨ys, e1, rfl⟩ := Option.map_eq_some_iff.mp e
    rw [h.1, Reps.strs h.2 e1]; rfl
  | x :: xs, .non :: ds, zs, h, e => by simp [strsOf] at e
  | x :: xs, .bl _ :: ds, zs, h, e => by simp [strsOf] at e
  | x :: xs, .int _ :: ds, zs, h, e => by simp [strsOf] at e
  | x :: xs, .tup _ :: ds, zs, h, e => by simp [strsOf] at e
  | x :: xs, .cst _ :: ds, zs, h, e => by simp [strsOf] at e
  | x :: xs, .lst _ :: ds, zs, h, e => by simp [strsOf] at e
  | x :: xs, .dic _ :: ds, zs, h, e => by simp [strsOf] at e
  | x :: xs, .dks _ :: ds, zs, h, e => by simp [strsOf] at e
  | x :: xs, .dmx _ :: ds, zs, h, e => by simp [strsOf] at e
  | x :: xs, .scr _ :: ds, zs, h, e => by simp [strsOf] at e
  | x :: xs, .exc _ _ :: ds, zs, h, e => by simp [strsOf] at e
  | [], _ :: _, _, h, _ => by rw [Reps] at h; exact h.elim
  | _ :: _, [], _, h, _ => by rw [Reps] at h; exact h.elim
def oInT : OW := fun w v k => match w with
  | .dks _ => ∃ xs zs, v = .tup xs ∧ strsOf xs = some zs ∧ k (.bl false)
  | w => ∃ d ds xs, v = .tup xs ∧ dat w = some d ∧ dats xs = some ds ∧ SeqAt.shaped d = true ∧ SeqAt.shaped (.tuple ds) = true ∧ k (.bl (ds.any fun z => PyData.eqv z d))
theorem opv_inT : OpV K (rOr (rInT K) (rInW K)) oInT := by
  rintro x y w v B F H P Q s bx r1 r2 p q
  have go : (∃ d ds xs, v = .tup xs ∧ dat w = some d ∧ dats xs = some ds ∧ SeqAt.shaped d = true ∧ SeqAt.shaped (.tuple ds) = true ∧ P (.bl (ds.any fun z => PyData.eqv z d))) → rOr (rInT K) (rInW K) x y H Q := by
    rintro ⟨d, ds, xs, rfl, e1, e2, s1, s2, p⟩
    exact .inl ⟨d, ds, r1.dp s w e1, r2.dp s (.tup xs) (by rw [dat, e2]; rfl), s1, s2, q _ _ F H p (.refl s fun a h => (bx a h).2) (by rw [Rep])⟩
  cases w with
  | dks kvs =>
    obtain ⟨xs, zs, rfl, e, p⟩ := p
    rw [Rep] at r1
    rw [Rep] at r2
    obtain ⟨a, o, ks, rfl, ha, _⟩ := r1
    obtain ⟨b, us, rfl, sq, ru⟩ := r2
    have eu := ru.strs e
    subst eu
    exact .inr ⟨a, o, ks, b, zs, rfl, s _ _ ha, rfl, sq.sq s, q _ _ F H p (.refl s fun a h => (bx a h).2) (by rw [Rep])⟩
  | _ => exact go p
theorem opr_inT (hu : X.A.units + 65 < cLine) : OpR X (compareOp .In) (rOr (rInT X.K) (rInW X.K)) := opR_or (op_inT hu) (op_inW hu)
end
end KV

namespace KV
open PySem PySem.Spec PyProof.Rows L2 KGX
/-! ### what is shown, by its signs: pairs of ints are known by their texts -/
def tx (d : PyData) : List Nat := d.shown.cps.toList
def digs (m : Nat) : List Nat := (Nat.toDigits 10 m).map Char.toNat
theorem tx_nat (m : Nat) : tx (.int (m : Int)) = digs m := by
  unfold tx
  rw [PyData.shown_int]
  exact PySem.W.KIN.signs_num m
theorem tx_neg (m : Nat) : tx (.int (Int.negSucc m)) = 45 :: digs (m + 1) := by
  unfold tx
  rw [PyData.shown_int]
  show (PySem.Str.ofString (toString (Int.negSucc m))).cps.toList = _
  rw [PyProof.Rows.signs_ofString]
  show ("-" ++ Nat.repr (m + 1)).toList.map Char.toNat = _
  rw [String.toList_append, Nat.toList_repr]
  rfl
def isN (c : Nat) : Bool := c == 45 || (decide (48 ≤ c) && decide (c ≤ 57))
theorem digs_all (m : Nat) : ∀ c ∈ digs m, 48 ≤ c ∧ c ≤ 57 := fun c hc => by
  obtain ⟨ch, hch, e⟩ := List.mem_map.mp hc
  have r := PyProof.Rows.digit_range (Nat.isDigit_of_mem_toDigits (by decide) (by decide) hch)
  rw [← e]; exact r
theorem digs_ne (m : Nat) : digs m ≠ [] := fun e => Nat.toDigits_ne_nil (List.map_eq_nil_iff.mp e)
theorem digs_inj {m n : Nat} (h : digs m = digs n) : m = n := by
  rw [← PySem.W.KIN.val_back m, ← PySem.W.KIN.val_back n]
  exact congrArg _ h
theorem isN_dig {c : Nat} (h : 48 ≤ c ∧ c ≤ 57) : isN c = true := by
  unfold isN
  rw [decide_eq_true h.1, decide_eq_true h.2]; simp
theorem tx_int_all (i : Int) : (tx (.int i)).all isN = true := by
  cases i with
  | ofNat m => rw [show Int.ofNat m = (m : Int) from rfl, tx_nat]; exact List.all_eq_true.mpr fun c hc => isN_dig (digs_all m c hc)
  | negSucc m =>
    rw [tx_neg, List.all_cons]
    have : (digs (m + 1)).all isN = true := List.all_eq_true.mpr fun c hc => isN_dig (digs_all _ c hc)
    rw [this]; rfl
theorem tx_int_ne (i : Int) : tx (.int i) ≠ [] := by
  cases i with
  | ofNat m => rw [show Int.ofNat m = (m : Int) from rfl, tx_nat]; exact digs_ne m
  | negSucc m => rw [tx_neg]; exact fun e => nomatch e
theorem tx_int_inj {i j : Int} (h : tx (.int i) = tx (.int j)) : i = j := by
  have no : ∀ m n : Nat, digs m = 45 :: digs n → False := fun m n e => by
    have := digs_all m 45 (by rw [e]; exact List.mem_cons_self)
    omega
  cases i with
  | ofNat m =>
    cases j with
    | ofNat n => rw [show Int.ofNat m = (m : Int) from rfl, show Int.ofNat n = (n : Int) from rfl, tx_nat, tx_nat] at h; rw [digs_inj h]
    | negSucc n => rw [show Int.ofNat m = (m : Int) from rfl, tx_nat, tx_neg] at h; exact (no _ _ h).elim
  | negSucc m =>
    cases j with
    | ofNat n => rw [show Int.ofNat n = (n : Int) from rfl, tx_nat, tx_neg] at h; exact (no _ _ h.symm).elim
    | negSucc n =>
      rw [tx_neg, tx_neg] at h
      have := digs_inj (List.cons.inj h).2
      rw [show m = n by omega]
def stopN (s : List Nat) : Prop := ∀ c r, s = c :: r → isN c = false
theorem cut_num : ∀ {xs ys s t : List Nat}, xs.all isN = true → ys.all isN = true → stopN s → stopN t → xs ++ s = ys ++ t → xs = ys ∧ s = t
  | [], [], s, t, _, _, _, _, e => ⟨rfl, e⟩
  | [], y :: ys, s, t, _, hy, hs, _, e => by
    rw [List.all_cons, Bool.and_eq_true] at hy
    have := hs y (ys ++ t) e
    rw [hy.1] at this; exact nomatch this
  | x :: xs, [], s, t, hx, _, _, ht, e => by
    rw [List.all_cons, Bool.and_eq_true] at hx
    have := ht x (xs ++ s) e.symm
    rw [hx.1] at this; exact nomatch this
  | x :: xs, y :: ys, s, t, hx, hy, hs, ht, e => by
    rw [List.all_cons, Bool.and_eq_true] at hx hy
    rw [List.cons_append, List.cons_append] at e
    obtain ⟨e1, e2⟩ := List.cons.inj e
    obtain ⟨r1, r2⟩ := cut_num hx.2 hy.2 hs ht e2
    exact ⟨by rw [e1, r1], r2⟩
def jn : List (List Nat) → List Nat
  | [] => []
  | [a] => a
  | a :: b :: r => a ++ [44, 32] ++ jn (b :: r)
theorem cps_app (a b : Str) : (a ++ b).cps.toList = a.cps.toList ++ b.cps.toList := by
  show (a.cps ++ b.cps).toList = _
  simp
theorem join_jn : ∀ ts : List Str, (Str.join ", " ts).cps.toList = jn (ts.map fun t => t.cps.toList)
  | [] => rfl
  | [a] => rfl
  | a :: b :: r => by
    have e : Str.join ", " (a :: b :: r) = a ++ ", " ++ Str.join ", " (b :: r) := rfl
    rw [e, cps_app, cps_app, join_jn (b :: r)]
    rfl
theorem shownAll_map : ∀ xs : List PyData, PyData.shownAll xs = xs.map PyData.shown
  | [] => PyData.shownAll_nil
  | x :: xs => by rw [PyData.shownAll_cons, shownAll_map xs]; rfl
theorem tx_tuple (xs : List PyData) : tx (.tuple xs) = 40 :: (jn (xs.map tx) ++ (if xs.length == 1 then [44, 41] else [41])) := by
  unfold tx
  rw [PyData.shown_tuple, cps_app, cps_app, join_jn, shownAll_map, List.map_map]
  have e : ∀ b : Bool, (((if b = true then ",)" else ")" : String) : Str)).cps.toList = if b = true then [44, 41] else [41] := by intro b; cases b <;> rfl
  rw [e]
  show [40] ++ _ ++ _ = _
  rw [List.append_assoc]
  rfl
theorem tx_list (xs : List PyData) : tx (.list xs) = 91 :: (jn (xs.map tx) ++ [93]) := by
  unfold tx
  rw [PyData.shown_list, cps_app, cps_app, join_jn, shownAll_map, List.map_map]
  show [91] ++ _ ++ _ = _
  rw [List.append_assoc]
  rfl
theorem fold_first (f : Nat → List Nat) (q : Nat) : ∀ (l : List Nat) (acc : Array Nat) (r : List Nat), acc.toList = q :: r → ∃ r', (l.foldl (fun out c => out ++ (f c).toArray) acc).toList = q :: r'
  | [], acc, r, h => ⟨r, h⟩
  | c :: l, acc, r, h => by
    rw [List.foldl_cons]
    exact fold_first f q l _ (r ++ f c) (by simp [h])
theorem tx_str (x : Str) : ∃ c r, tx (.str x) = c :: r ∧ (c = 39 ∨ c = 34) := by
  unfold tx
  rw [PyData.shown_str]
  obtain ⟨r', h⟩ := fold_first (Builtin.Str.reprChar (reprQuote x)) (reprQuote x) x.cps.toList #[reprQuote x] [] rfl
  refine ⟨reprQuote x, r' ++ [reprQuote x], ?_, ?_⟩
  · unfold reprText
    show ((x.cps.foldl (fun out c => out ++ (Builtin.Str.reprChar (reprQuote x) c).toArray) #[reprQuote x]).push (reprQuote x)).toList = _
    rw [Array.toList_push, ← Array.foldl_toList, h]
    rfl
  · unfold reprQuote
    split
    · exact .inr rfl
    · exact .inl rfl
theorem tx_first (d : PyData) : (∃ i, d = .int i) ∨ (∃ xs, d = .tuple xs) ∨ (∃ xs, d = .list xs) ∨ ∃ c r, tx d = c :: r ∧ isN c = false ∧ c ≠ 40 ∧ c ≠ 91 := by
  cases d with
  | int i => exact .inl ⟨i, rfl⟩
  | tuple xs => exact .inr (.inl ⟨xs, rfl⟩)
  | list xs => exact .inr (.inr (.inl ⟨xs, rfl⟩))
  | none => exact .inr (.inr (.inr ⟨78, [111, 110, 101], by decide +kernel, by decide, by decide, by decide⟩))
  | bool b =>
    cases b
    · exact .inr (.inr (.inr ⟨70, [97, 108, 115, 101], by decide +kernel, by decide, by decide, by decide⟩))
    · exact .inr (.inr (.inr ⟨84, [114, 117, 101], by decide +kernel, by decide, by decide, by decide⟩))
  | str x =>
    obtain ⟨c, r, e, h⟩ := tx_str x
    exact .inr (.inr (.inr ⟨c, r, e, by rcases h with rfl | rfl <;> decide, by rcases h with rfl | rfl <;> decide, by rcases h with rfl | rfl <;> decide⟩))
  | dict kvs =>
    refine .inr (.inr (.inr ⟨123, (Str.join ", " (PyData.shownKv kvs)).cps.toList ++ [125], ?_, by decide, by decide, by decide⟩))
    unfold tx
    rw [PyData.shown_dict, cps_app, cps_app, List.append_assoc]
    rfl
theorem int_head (a : Int) : ∃ c r, tx (.int a) = c :: r ∧ isN c = true := by
  have h := tx_int_all a
  cases e : tx (.int a) with
  | nil => exact (tx_int_ne a e).elim
  | cons c r =>
    rw [e, List.all_cons, Bool.and_eq_true] at h
    exact ⟨c, r, rfl, h.1⟩
theorem num_vs {x : PyData} {a : Int} {t t' : List Nat} (ht : stopN t) (ht' : stopN t') (e : tx x ++ t = tx (.int a) ++ t') : x = .int a ∧ t = t' := by
  obtain ⟨c, r, ea, hc⟩ := int_head a
  have no : ∀ c' r', tx x = c' :: r' → isN c' = false → False := fun c' r' e1 h1 => by
    rw [e1, ea, List.cons_append, List.cons_append] at e
    rw [(List.cons.inj e).1, hc] at h1; exact nomatch h1
  rcases tx_first x with ⟨i, rfl⟩ | ⟨xs, rfl⟩ | ⟨xs, rfl⟩ | ⟨c', r', e1, h1, _⟩
  · obtain ⟨e1, e2⟩ := cut_num (tx_int_all i) (tx_int_all a) ht ht' e
    exact ⟨by rw [tx_int_inj e1], e2⟩
  · exact (no _ _ (tx_tuple xs) (by decide)).elim
  · exact (no _ _ (tx_list xs) (by decide)).elim
  · exact (no _ _ e1 h1).elim
theorem stop_of {c : Nat} {r : List Nat} (h : isN c = false) : stopN (c :: r) := fun c' r' e => by
  rw [← (List.cons.inj e).1]; exact h
theorem jn_cons2 (a b : List Nat) (r : List (List Nat)) : jn (a :: b :: r) = a ++ (44 :: 32 :: jn (b :: r)) := by
  show a ++ [44, 32] ++ jn (b :: r) = _
  rw [List.append_assoc]; rfl
theorem pair_vs {d : PyData} {a b : Int} {s s' : List Nat} (e : tx d ++ s = tx (.tuple [.int a, .int b]) ++ s') : d = .tuple [.int a, .int b] ∧ s = s' := by
  have et : tx (.tuple [.int a, .int b]) = 40 :: (tx (.int a) ++ (44 :: 32 :: (tx (.int b) ++ [41]))) := by
    rw [tx_tuple]
    show 40 :: (jn [tx (.int a), tx (.int b)] ++ [41]) = _
    rw [jn_cons2, List.append_assoc]; rfl
  rw [et, List.cons_append, List.append_assoc] at e
  have no : ∀ c' r', tx d = c' :: r' → c' ≠ 40 → False := fun c' r' e1 h1 => by
    rw [e1, List.cons_append] at e
    exact h1 (List.cons.inj e).1
  rcases tx_first d with ⟨i, rfl⟩ | ⟨xs, rfl⟩ | ⟨xs, rfl⟩ | ⟨c', r', e1, _, h2, _⟩
  · obtain ⟨c, r, ei, hc⟩ := int_head i
    exact (no _ _ ei fun z => by rw [z] at hc; exact nomatch hc).elim
  · rw [tx_tuple, List.cons_append] at e
    have e1 := (List.cons.inj e).2
    match xs with
    | [] =>
      obtain ⟨c, r, ea, hc⟩ := int_head a
      rw [ea] at e1
      have : (41 : Nat) = c := (List.cons.inj e1).1
      rw [← this] at hc; exact nomatch hc
    | [x] =>
      have e2 : tx x ++ (44 :: 41 :: s) = tx (.int a) ++ (44 :: 32 :: (tx (.int b) ++ [41]) ++ s') := by
        have e3 : (jn [tx x] ++ [44, 41]) ++ s = tx (.int a) ++ (44 :: 32 :: (tx (.int b) ++ [41]) ++ s') := e1
        rw [List.append_assoc] at e3
        exact e3
      obtain ⟨_, e4⟩ := num_vs (stop_of (by decide)) (stop_of (by decide)) e2
      exact absurd (List.cons.inj (List.cons.inj e4).2).1 (by decide)
    | [x, y] =>
      have e2 : tx x ++ (44 :: 32 :: (tx y ++ (41 :: s))) = tx (.int a) ++ (44 :: 32 :: (tx (.int b) ++ (41 :: s'))) := by
        have e3 : (jn [tx x, tx y] ++ [41]) ++ s = tx (.int a) ++ (44 :: 32 :: (tx (.int b) ++ [41]) ++ s') := e1
        rw [jn_cons2] at e3
        have e4 : jn [tx y] = tx y := rfl
        rw [e4] at e3
        simp only [List.append_assoc, List.cons_append, List.nil_append] at e3 ⊢
        exact e3
      obtain ⟨ex, e4⟩ := num_vs (stop_of (by decide)) (stop_of (by decide)) e2
      obtain ⟨ey, e5⟩ := num_vs (stop_of (by decide)) (stop_of (by decide)) (List.cons.inj (List.cons.inj e4).2).2
      rw [ex, ey]
      exact ⟨rfl, (List.cons.inj e5).2⟩
    | x :: y :: z :: r =>
      have e2 : tx x ++ (44 :: 32 :: (tx y ++ (44 :: 32 :: (jn ((z :: r).map tx) ++ [41] ++ s)))) = tx (.int a) ++ (44 :: 32 :: (tx (.int b) ++ (41 :: s'))) := by
        have hl : ((x :: y :: z :: r).length == 1) = false := by simp
        rw [hl] at e1
        have e3 : (jn (tx x :: tx y :: (z :: r).map tx) ++ [41]) ++ s = tx (.int a) ++ (44 :: 32 :: (tx (.int b) ++ [41]) ++ s') := e1
        rw [jn_cons2, show (z :: r).map tx = tx z :: r.map tx from rfl, jn_cons2] at e3
        simp only [List.append_assoc, List.cons_append, List.nil_append, List.map_cons] at e3 ⊢
        exact e3
      obtain ⟨_, e4⟩ := num_vs (stop_of (by decide)) (stop_of (by decide)) e2
      obtain ⟨_, e5⟩ := num_vs (stop_of (by decide)) (stop_of (by decide)) (List.cons.inj (List.cons.inj e4).2).2
      exact absurd (List.cons.inj e5).1 (by decide)
  · exact (no _ _ (tx_list xs) (by decide)).elim
  · exact (no _ _ e1 h2).elim
def pairD (p : Int × Int) : PyData := .tuple [.int p.1, .int p.2]
theorem pair_head (p : Int × Int) : ∃ r, tx (pairD p) = 40 :: r := ⟨_, tx_tuple _⟩
theorem jn_vs : ∀ {xs : List PyData} {ps : List (Int × Int)}, ps ≠ [] → jn (xs.map tx) ++ [93] = jn (ps.map fun p => tx (pairD p)) ++ [93] → xs = ps.map pairD
  | _, [], h, _ => absurd rfl h
  | [], p :: ps, _, e => by
    obtain ⟨r, er⟩ := pair_head p
    exfalso
    cases ps with
    | nil =>
      have e2 : [93] = tx (pairD p) ++ [93] := e
      rw [er] at e2
      exact absurd (List.cons.inj e2).1 (by decide)
    | cons q qs =>
      rw [List.map_cons, List.map_cons, jn_cons2, er] at e
      exact absurd (List.cons.inj e).1 (by decide)
  | [x], [p], _, e => by
    obtain ⟨e1, _⟩ := pair_vs (d := x) (a := p.1) (b := p.2) (s := [93]) (s' := [93]) e
    rw [e1]; rfl
  | [x], p :: q :: r, _, e => by
    rw [show (p :: q :: r).map (fun p => tx (pairD p)) = tx (pairD p) :: tx (pairD q) :: r.map (fun p => tx (pairD p)) from rfl, jn_cons2, List.append_assoc] at e
    obtain ⟨_, e2⟩ := pair_vs (d := x) (a := p.1) (b := p.2) (s := [93]) e
    exact absurd (List.cons.inj e2).1 (by decide)
  | x :: y :: r, [p], _, e => by
    rw [List.map_cons, List.map_cons, jn_cons2, List.append_assoc] at e
    obtain ⟨_, e2⟩ := pair_vs (d := x) (a := p.1) (b := p.2) (s' := [93]) e
    exact absurd (List.cons.inj e2).1 (by decide)
  | x :: y :: r, p :: q :: r', _, e => by
    rw [List.map_cons, List.map_cons, jn_cons2, List.append_assoc, List.map_cons, List.map_cons, jn_cons2, List.append_assoc] at e
    obtain ⟨e1, e2⟩ := pair_vs (d := x) (a := p.1) (b := p.2) e
    have e3 := (List.cons.inj (List.cons.inj e2).2).2
    have ih := jn_vs (xs := y :: r) (ps := q :: r') (by simp) e3
    rw [e1, ih]; rfl
/-- a list of pairs of ints is known by what is shown of it -/
theorem list_vs {d : PyData} {ps : List (Int × Int)} (h : ps ≠ []) (e : d.shown = (PyData.list (ps.map pairD)).shown) : d = .list (ps.map pairD) := by
  have e' : tx d = tx (.list (ps.map pairD)) := by unfold tx; rw [e]
  rw [tx_list] at e'
  rcases tx_first d with ⟨i, rfl⟩ | ⟨xs, rfl⟩ | ⟨xs, rfl⟩ | ⟨c', r', e1, _, _, h3⟩
  · obtain ⟨c, r, ei, hc⟩ := int_head i
    rw [ei] at e'
    rw [(List.cons.inj e').1] at hc; exact nomatch hc
  · rw [tx_tuple] at e'
    exact absurd (List.cons.inj e').1 (by decide)
  · rw [tx_list] at e'
    have e2 := (List.cons.inj e').2
    rw [List.map_map] at e2
    rw [jn_vs h e2]
  · rw [e1] at e'
    exact absurd (List.cons.inj e').1 h3
end KV

namespace KV
open PySem PySem.Spec PyProof.Rows L2 KGX
/-! ### x[i], x[j] = e, f: x a list -/
def sSwap (i : Nat) (fa fb f : EW) : SW := fun ρ N _ => ∃ xs, ρ[i]? = some (some (.ow (.lst xs))) ∧ f ρ fun v => ∃ v1 v2, v = .tup [v1, v2] ∧ flat v1 = true ∧ flat v2 = true ∧ fa ρ fun u => ∃ n j, u = .int n ∧ ixN xs.length n = some j ∧
  fb (ρ.set i (some (.ow (.lst (xs.set j v1))))) fun u2 => ∃ n2 j2, u2 = .int n2 ∧ ixN xs.length n2 = some j2 ∧ N ((ρ.set i (some (.ow (.lst (xs.set j v1))))).set i (some (.ow (.lst ((xs.set j v1).set j2 v2)))))
section
variable {m : Bool} {X : Cx} {e a b : Expr} {st : Stmt} {f fa fb : EW}
theorem qs_swap {i : Nat} (h : PE X e (tE X.K f) → PE X a (tE X.K fa) → PE X b (tE X.K fb) → PS X st (tAsg (tE X.K f) (gTup X.K 2 (gCons (gSub (tVar i) (tE X.K fa) rSetL) (gCons (gSub (tVar i) (tE X.K fb) rSetL) gNil))))) (he : PP X e f) (ha : PP X a fa) (hb : PP X b fb) : QS X m st (sSwap i fa fb f) := PS.weak (h he ha hb) fun D σ H ⟨B0, F0, H0, F, ρ, N, R, w, ⟨xs, e, p⟩, q, r⟩ =>
  ⟨_, _, _, _, w.x, p, fun v x F1 H1 ⟨v1, v2, ev, hf1, hf2, p1⟩ ex rx => by
    subst ev
    have w1 := w.back ex
    have hf : flat (.tup [v1, v2]) = true := by rw [flat, flats, flats, flats, hf1, hf2]; rfl
    have rv := w.flatR ex hf rx
    rw [Rep] at rx rv
    obtain ⟨a0, us0, rfl, st0, rr0⟩ := rx
    obtain ⟨a1, us1, e1, st1, rr1⟩ := rv
    cases e1
    have st1' : STup F1 a0 us1 := by
      obtain ⟨o, eo, no⟩ := st1
      refine ⟨o, ?_, no⟩
      unfold cut at eo
      split at eo
      · exact nomatch eo
      · exact eo
    have eu : us0 = us1 := by
      obtain ⟨o, eo, _⟩ := st0
      obtain ⟨o', eo', _⟩ := st1'
      rw [eo] at eo'
      cases eo'
      rfl
    subst eu
    obtain ⟨x1, x2, rfl, r1, r2⟩ := rr1.two
    obtain ⟨y, ey, _⟩ := w.sl i _ e
    refine ⟨a0, [x1, x2], rfl, st0.sq ex.fh, rfl, x1, [x2], rfl, y, ey, _, _, _, _, w1.x, p1, fun u z F2 H2 ⟨n, j, eu, hj, pv⟩ ex2 rz => ?_⟩
    subst eu; rw [Rep] at rz
    have w2 := w1.back ex2
    obtain ⟨y', e1, b, o, rfl, h1, h2, h3, h4⟩ := w2.sl i _ e
    rw [ey] at e1; cases e1
    cases o with
    | lst us =>
      refine ⟨b, us, n, j, rfl, rz, h3, by rw [Reps.len h4]; exact hj, ?_⟩
      have s1 := w1.flatR ex2 hf1 ((Rep.mono w1.sameP v1 r1).mono ex2.ff v1)
      have s2 := w1.flatR ex2 hf2 ((Rep.mono w1.sameP v2 r2).mono ex2.ff v2)
      have w3 := w2.write e ey (o' := .lst (us.set j x1)) (v' := .lst (xs.set j v1)) (Reps.set s1 j h4)
      have e3 : (ρ.set i (some (.ow (.lst (xs.set j v1)))))[i]? = some (some (.ow (.lst (xs.set j v1)))) := List.getElem?_set_self (List.getElem?_eq_some_iff.mp e).1
      refine ⟨x2, [], rfl, _, ey, _, _, _, _, w3.x, pv, fun u2 z2 F3 H3 ⟨n2, j2, eu2, hj2, pv2⟩ ex3 rz2 => ?_⟩
      subst eu2; rw [Rep] at rz2
      have w4 := w3.back ex3
      obtain ⟨y'', e4, b', o', eb, g1, g2, g3, g4⟩ := w4.sl i _ e3
      rw [ey] at e4; cases e4
      cases eb
      cases o' with
      | lst us' =>
        refine ⟨b, us', n2, j2, rfl, rz2, g3, by rw [Reps.len g4, List.length_set]; exact hj2, rfl, ?_⟩
        have s3 := w3.flatR ex3 hf2 ((Rep.mono w3.sameP v2 s2).mono ex3.ff v2)
        exact q _ _ _ _ pv2 (((w.sc ex).trans (w1.sc ex2)).trans (w3.sc ex3)) (w4.write e3 ey (o' := .lst (us'.set j2 x2)) (Reps.set s3 j2 g4))
      | _ => exact g4.elim
    | _ => exact h4.elim⟩
end
end KV

namespace KV
open PySem PySem.Spec PyProof.Rows L2 KGX
/-! ### papers of up to five kinds: tighter sizes -/
theorem vS_sz5 {ns S : List Int} {c : Int} {fin : List Int → Option Rat} (g : Good ns) (ok : FinOk ns c fin (List.replicate ns.length 1)) (hS : S ∈ allSub (rg ns.length)) : Sz 190 (vS ns c fin S) := by
  have hn := g.2.1
  have v := vecW_of hn hS
  have hL : (allL (List.replicate ns.length 1)).length ≤ 32 := by
    have : ∀ n : Nat, n ≤ 5 → (allL (List.replicate n 1)).length ≤ 32 := by decide +kernel
    exact this _ hn
  have hs15 : ∀ l ∈ allL (List.replicate ns.length 1), l.sum ≤ 15 := by
    have : ∀ n : Nat, n ≤ 5 → ∀ l ∈ allL (List.replicate n 1), l.sum ≤ 15 := by decide +kernel
    exact this _ hn
  obtain ⟨z, e, z0, z1⟩ := mnU_all g ok hs15 v.mem
  obtain ⟨p0, p1⟩ := pP_pos g ok (ls := allL (List.replicate ns.length 1)) fun _ q => q
  have p2 : pP ns fin (allL (List.replicate ns.length 1)) ≤ 45 ^ 32 := by
    refine Int.le_trans p1 ?_
    have h := Nat.pow_le_pow_right (show 0 < 45 by decide) hL
    exact_mod_cast h
  unfold vS
  rw [e]
  have hbig : (680 : Int) * 45 ^ 32 < 2 ^ 190 := by decide +kernel
  refine sz_div p0 ?_ ?_
  · have : z < 2 ^ 190 := by omega
    omega
  · have : pP ns fin (allL (List.replicate ns.length 1)) < 2 ^ 190 := by omega
    omega
theorem pS_sz5 {ns S : List Int} {pr : Int} {W : List Int → Bool} (g : Good ns) (h0 : 0 ≤ pr) (h1 : pr ≤ 100) (hS : S ∈ allSub (rg ns.length)) : Sz 390 (pS ns pr W S) := by
  have hs := g.sum_pos
  have a := vS_sz5 g (finB_ok g (W := W) (f := fun _ => 0) (by omega) hs.2 fun m _ => ⟨0, rfl, by decide, by decide⟩) hS
  have b := vS_sz5 g (finB_ok g (c := 0) (W := W) (f := fun m => (m : Rat)) (by decide) (by decide) fun m hm => ⟨(m : Int), rfl, by omega, by omega⟩) hS
  exact (a.add ((sz_int (n := 7) (by omega) (by decide)).mul b)).mono (by decide)
theorem cS_sz5 {ns S : List Int} {pr : Int} (g : Good ns) (p0 : 0 ≤ pr) (p1 : pr ≤ 100) (hS : S ∈ allSub (rg ns.length)) : Sz 390 (cS ns pr S) := by
  rw [cS_pS g.2.1 hS]; exact pS_sz5 g p0 p1 hS
end KV

namespace KV
open PySem PySem.Spec PyProof.Rows L2 KGX
/-! ### for x, y in [(f(..), a), (g(..), b)], f and g telling new dicts that are written then -/
section
variable {K : PySem.W.Frag} {B0 : Addr → Prop} {F0 H0 H0' F H : Hp} {σ : L2.St} {ρ : Rho}
/-- what stood before is less -/
theorem Ws.less (w : Ws K B0 F0 H0' F H σ ρ) (s : Same H0 H0') (b : ∀ a, B0 a → F0 a = none ∧ NT (H0 a)) : Ws K B0 F0 H0 F H σ ρ := by
  have nn : ∀ {a}, H0' a = none → H0 a = none := fun {a} h => none_of s h
  refine ⟨⟨w.ext.ff, w.ext.fh, fun a n h => w.ext.new a n ?_, fun a o nb h => w.ext.keep a o nb (s _ _ h), w.ext.box⟩, b, fun i c e => ?_, w.len, w.dist⟩
  · cases q : H0 a with
    | none => exact (h.1 q).elim
    | some o => rw [s _ _ q, ← q]; exact h
  · obtain ⟨x, e1, r⟩ := w.sl i c e
    refine ⟨x, e1, ?_⟩
    cases c with
    | fr v => exact r
    | ow v => obtain ⟨a, o, ea, h1, h2, h3, h4⟩ := r; exact ⟨a, o, ea, h1, nn h2, h3, h4⟩
    | box => obtain ⟨b', n, ea, h1, h2, h3⟩ := r; exact ⟨b', n, ea, h1, h2.imp id nn, h3⟩
theorem Ext.less {B : Addr → Prop} {F' H' : Hp} (e : Ext B F H0' F' H') (s : Same H0 H0') : Ext B F H0 F' H' :=
  ⟨e.ff, e.fh, fun a n h => e.new a n (by
    cases q : H0 a with
    | none => exact (h.1 q).elim
    | some o => rw [s _ _ q, ← q]; exact h), fun a o nb h => e.keep a o nb (s _ _ h), e.box⟩
/-- D, known to nobody, counts as what stood before -/
theorem Ws.guard (w : Ws K B0 F0 H0 F H σ ρ) {D : Addr} {o : HO} (h0 : H0 D = none) (fD : F D = none) (hD : H D = some o) (nt : ∀ xs, o ≠ .tup xs) (no : ∀ (j : Nat) (d : Cell), ρ[j]? = some (some d) → owner d = true → σ[j]? ≠ some (some (.ref D))) : Ws K B0 F0 (upd H0 D o) F H σ ρ := by
  have bD : ∀ a, B0 a → a ≠ D := fun a h z => by subst z; exact (w.b0 a h).2.1 h0
  refine ⟨⟨w.ext.ff, w.ext.fh, fun a n h => ?_, fun a u nb h => ?_, w.ext.box⟩, fun a h => ?_, fun i c e => ?_, w.len, w.dist⟩
  · by_cases z : a = D
    · rw [z]; exact fD
    · rw [upd_ne z] at h; exact w.ext.new a n h
  · by_cases z : a = D
    · subst z; rw [upd_same] at h; rw [hD]; exact h
    · rw [upd_ne z] at h; exact w.ext.keep a u nb h
  · rw [upd_ne (bD a h)]; exact w.b0 a h
  · obtain ⟨x, e1, r⟩ := w.sl i c e
    refine ⟨x, e1, ?_⟩
    cases c with
    | fr v => exact r
    | ow v =>
      obtain ⟨a, u, rfl, h1, h2, h3, h4⟩ := r
      have z : a ≠ D := fun z => by subst z; exact no i _ e rfl e1
      exact ⟨a, u, rfl, h1, by rw [upd_ne z]; exact h2, h3, h4⟩
    | box =>
      obtain ⟨b', n, rfl, h1, h2, h3⟩ := r
      have z : b' ≠ D := fun z => by subst z; exact no i _ e rfl e1
      exact ⟨b', n, rfl, h1, by rw [upd_ne z]; exact h2, h3⟩
/-- what stood before is owned by none of the slots -/
theorem Ws.noG (w : Ws K B0 F0 H0 F H σ ρ) {D : Addr} (h : H0 D ≠ none) (nb : ¬ B0 D) (j : Nat) (d : Cell) (e : ρ[j]? = some (some d)) (o : owner d = true) : σ[j]? ≠ some (some (.ref D)) := fun z => by
  obtain ⟨x, e1, r⟩ := w.sl j d e
  rw [z] at e1; cases e1
  cases d with
  | fr v => exact nomatch o
  | ow v => obtain ⟨a, u, ea, _, h2, _, _⟩ := r; cases ea; exact h h2
  | box => obtain ⟨a, n, ea, _, h2, _⟩ := r; cases ea; exact h2.elim nb h
/-- what stood before, and was known to nobody, stands as it did -/
theorem Ws.kept (w : Ws K B0 F0 H0 F H σ ρ) {D : Addr} {o : HO} (h : H0 D = some o) (nb : ¬ B0 D) (fD : F0 D = none) (nt : ∀ xs, o ≠ .tup xs) : F D = none ∧ H D = some o :=
  ⟨w.ext.new D fD (by rw [h]; exact ⟨(fun z => nomatch z), fun xs z => nt xs (Option.some.inj z)⟩), w.ext.keep D o nb h⟩
end
/-- the two turns -/
def sFor2 (i j c1 c2 : Nat) (f1 f2 : EW) (sb : SW) : SW := fun ρ N R => i ≠ j ∧ ∃ u1 u2, ρ[c1]? = some (some (.fr u1)) ∧ ρ[c2]? = some (some (.fr u2)) ∧
  f1 (hide ρ) fun v1 => f2 (hide ρ) fun v2 => sb ((ρ.set i (some (.ow v1))).set j (some (.fr u1))) (fun ρ1 => sb ((ρ1.set i (some (.ow v2))).set j (some (.fr u2))) N R) R
section
variable {m : Bool} {X : Cx} {tg iter : Expr} {pos : Pos} {f1 f2 : EW} {body : List Stmt} {sb : SW}
theorem qs_for2 {i j c1 c2 : Nat} (hp : PassesOwn (model X.prog X.w) X.A X.env X.xe) (hc : X.calm = true) (hl : PE X iter (tLst (tCons (tTupS (tCons (tF X.K f1) (tCons (tVar c1) tNil))) (tCons (tTupS (tCons (tF X.K f2) (tCons (tVar c2) tNil))) tNil))))
    (hg : PG X tg (gTup X.K 2 (gCons (gName i) (gCons (gName j) gNil)))) (hb : QSs X m body sb) (hs : ∀ x, foldedSetIterable iter X.env x = pure x := by intro _; rfl) : QS X m (.For tg iter body [] pos) (sFor2 i j c1 c2 f1 f2 sb) :=
  PS.weak (ps_for hp hc (pi_seq hl) hg hb hs) fun D σ H ⟨B0, F0, H0, F, ρ, N, R, w, ⟨hij, u1, u2, ec1, ec2, p⟩, q, r⟩ => by
  obtain ⟨x1, sx1, rx1⟩ := w.sl c1 _ ec1
  obtain ⟨x2, sx2, rx2⟩ := w.sl c2 _ ec2
  refine ⟨_, F, _, _, w.h, p, fun v1 D1 o1 F1 H1 p1 ex1 fD1 hD1 HD1 ow1 => ?_⟩
  have g0 : H0 D1 = none := w.h0 hD1
  have nb1 : ¬ B0 D1 := fun z => (w.b0 D1 z).2.1 g0
  have w1 := (w.backH ex1).guard g0 fD1 HD1 ow1.nobox fun j d e o => w.noOwner hD1 j d e o
  have k01 : Same H0 (upd H0 D1 o1) := same_new g0
  refine ⟨x1, sx1, show 2 ≤ sizeLine by decide, fun T1 t1 hT1 dT1 => ?_⟩
  have w2 := w1.lay (o := .frz t1 (.tup [.ref D1, x1])) hT1
  have fT1 : upd F1 T1 (.frz t1 (.tup [.ref D1, x1])) T1 = some (.frz t1 (.tup [.ref D1, x1])) := upd_same
  have s12 : Same F1 (upd F1 T1 (.frz t1 (.tup [.ref D1, x1]))) := same_new (none_of w1.ext.fh hT1)
  generalize upd F1 T1 (.frz t1 (.tup [.ref D1, x1])) = F2 at w2 fT1 s12 ⊢
  refine ⟨_, F2, _, _, w2.h, p1, fun v2 D2 o2 F3 H3 p2 ex2 fD2 hD2 HD2 ow2 => ?_⟩
  have g1 : upd H0 D1 o1 D2 = none := w2.h0 hD2
  have n12 : D2 ≠ D1 := fun z => by rw [z, upd_same] at g1; exact nomatch g1
  have g2 : H0 D2 = none := by rw [upd_ne n12] at g1; exact g1
  have nb2 : ¬ B0 D2 := fun z => (w.b0 D2 z).2.1 g2
  have w3 := (w2.backH ex2).guard g1 fD2 HD2 ow2.nobox fun j d e o => w2.noOwner hD2 j d e o
  refine ⟨x2, sx2, show 2 ≤ sizeLine by decide, fun T2 t2 hT2 dT2 => ?_⟩
  have w4 := w3.lay (o := .frz t2 (.tup [.ref D2, x2])) hT2
  have fT2 : upd F3 T2 (.frz t2 (.tup [.ref D2, x2])) T2 = some (.frz t2 (.tup [.ref D2, x2])) := upd_same
  have s34 : Same F3 (upd F3 T2 (.frz t2 (.tup [.ref D2, x2]))) := same_new (none_of w3.ext.fh hT2)
  generalize upd F3 T2 (.frz t2 (.tup [.ref D2, x2])) = F4 at w4 fT2 s34 ⊢
  refine ⟨show 2 ≤ sizeLine by decide, fun L hL => ?_⟩
  have w5 := w4.lay (o := .lst [.ref T1, .ref T2]) hL
  have fL : upd F4 L (.lst [.ref T1, .ref T2]) L = some (.lst [.ref T1, .ref T2]) := upd_same
  have s45 : Same F4 (upd F4 L (.lst [.ref T1, .ref T2])) := same_new (none_of w4.ext.fh hL)
  generalize upd F4 L (.lst [.ref T1, .ref T2]) = F5 at w5 fL s45 ⊢
  generalize upd (upd H3 T2 (.frz t2 (.tup [.ref D2, x2]))) L (.lst [.ref T1, .ref T2]) = H5 at w5 ⊢
  have s35 : Same F3 F5 := s34.trans s45
  have s25 : Same F2 F5 := ex2.ff.trans s35
  have s15 : Same F1 F5 := s12.trans s25
  have s05 : Same F F5 := ex1.ff.trans s15
  have fD0 : F0 D1 = none := by
    cases e : F0 D1 with
    | none => rfl
    | some u => have := ex1.ff _ _ (w.ext.ff _ _ e); rw [fD1] at this; exact nomatch this
  have fD0' : F0 D2 = none := by
    cases e : F0 D2 with
    | none => rfl
    | some u => have := ex2.ff _ _ (s12 _ _ (ex1.ff _ _ (w.ext.ff _ _ e))); rw [fD2] at this; exact nomatch this
  have HG1 : upd (upd H0 D1 o1) D2 o2 D1 = some o1 := by rw [upd_ne (Ne.symm n12), upd_same]
  have HG2 : upd (upd H0 D1 o1) D2 o2 D2 = some o2 := upd_same
  have sg : Same (upd H0 D2 o2) (upd (upd H0 D1 o1) D2 o2) := fun a o e => by
    by_cases z : a = D2
    · subst z; rw [upd_same] at e ⊢; exact e
    · rw [upd_ne z] at e ⊢
      exact k01 a o e
  have sg2 : Same H0 (upd H0 D2 o2) := same_new g2
  have b2 : ∀ a, B0 a → F0 a = none ∧ NT (upd H0 D2 o2 a) := fun a h => by
    have z : a ≠ D2 := fun z => by subst z; exact nb2 h
    rw [upd_ne z]; exact w.b0 a h
  have hL5 : ∀ {F' H' : Hp}, Same F5 F' → Same F' H' → SqL X.K H' L [.ref T1, .ref T2] := fun {F' H'} s s' => .inl (.inl (s' _ _ (s _ _ fL)))
  have hT15 : ∀ {F' H' : Hp}, Same F5 F' → Same F' H' → SqT X.K H' T1 [.ref D1, x1] := fun {F' H'} s s' => .inl (.inr ⟨t1, s' _ _ (s _ _ (s25 _ _ fT1))⟩)
  have hT25 : ∀ {F' H' : Hp}, Same F5 F' → Same F' H' → SqT X.K H' T2 [.ref D2, x2] := fun {F' H'} s s' => .inl (.inr ⟨t2, s' _ _ (s _ _ (s45 _ _ fT2))⟩)
  refine ⟨L, rfl, .inl ⟨_, hL5 (fun _ _ z => z) w5.ext.fh, ?_⟩⟩
  refine ⟨fun t mm σ' H' => mm = 2 - t ∧ ((t = 0 ∧ σ' = σ ∧ H' = H5) ∨ (t = 1 ∧ ∃ F' ρ1, Same F5 F' ∧ Ws X.K B0 F0 (upd H0 D2 o2) F' H' σ' ρ1 ∧ sb ((ρ1.set i (some (.ow v2))).set j (some (.fr u2))) N R) ∨ (t = 2 ∧ ∃ F' ρ2, Same F5 F' ∧ Ws X.K B0 F0 H0 F' H' σ' ρ2 ∧ N ρ2)),
    ⟨_, rfl, .inl ⟨rfl, rfl, rfl⟩⟩, ?_⟩
  rintro t mm σ' H' ⟨em, ⟨rfl, rfl, rfl⟩ | ⟨rfl, F', ρ1, s', w', pf⟩ | ⟨rfl, F', ρ2, s', w', pn⟩⟩
  · refine .inr ⟨⟨_, _, hL5 (fun _ _ z => z) w5.ext.fh, rfl⟩, fun σ3 H3 => ∃ F' ρ1, Same F5 F' ∧ Ws X.K B0 F0 (upd H0 D2 o2) F' H3 σ3 ρ1 ∧ sb ((ρ1.set i (some (.ow v2))).set j (some (.fr u2))) N R, fun σ3 H3 ⟨F', ρ1, a, b, c⟩ => ⟨1, by omega, rfl, .inr (.inl ⟨rfl, F', ρ1, a, b, c⟩)⟩, ?_⟩
    rintro x H3 ⟨rfl, hx⟩
    have hx := hx _ (hL5 (fun _ _ z => z) w5.ext.fh)
    cases hx
    refine ⟨T1, _, rfl, hT15 (fun _ _ z => z) w5.ext.fh, rfl, _, _, rfl, _, _, rfl, rfl, ?_⟩
    obtain ⟨k1, k2⟩ := w5.kept HG1 nb1 fD0 ow1.nobox
    have w6 := w5.less sg b2
    have h0D : upd H0 D2 o2 D1 = none := by rw [upd_ne (Ne.symm n12)]; exact g0
    have w7 := (w6.setO i (p := D1) (c := .ow v1) rfl ⟨D1, o1, rfl, k1, h0D, k2, ow1.mono s15⟩ fun j d _ e o => w5.noG (by rw [HG1]; exact fun z => nomatch z) nb1 j d e o).set j (Rep.mono s05 _ rx1)
    exact ⟨B0, F0, _, F5, _, _, R, w7, p2, fun ρ' σ2 F' H2 pn s2 w' => ⟨F', ρ', s2, w', pn⟩, fun v x F' H2 pv ⟨e, rv⟩ => r v x F' H2 pv ⟨e.less sg2, by
      cases m with
      | false => exact rv
      | true => obtain ⟨p, o, a1, a2, a3, a4, a5⟩ := rv; exact ⟨p, o, a1, a2, none_of sg2 a3, a4, a5⟩⟩⟩
  · refine .inr ⟨⟨_, _, hL5 s' w'.ext.fh, rfl⟩, fun σ3 H3 => ∃ F' ρ2, Same F5 F' ∧ Ws X.K B0 F0 H0 F' H3 σ3 ρ2 ∧ N ρ2, fun σ3 H3 ⟨F', ρ1, a, b, c⟩ => ⟨0, by omega, rfl, .inr (.inr ⟨rfl, F', ρ1, a, b, c⟩)⟩, ?_⟩
    rintro x H3 ⟨rfl, hx⟩
    have hx := hx _ (hL5 s' w'.ext.fh)
    cases hx
    refine ⟨T2, _, rfl, hT25 s' w'.ext.fh, rfl, _, _, rfl, _, _, rfl, rfl, ?_⟩
    obtain ⟨k1, k2⟩ := w'.kept (D := D2) upd_same nb2 fD0' ow2.nobox
    have w6 := w'.less sg2 w.b0
    have w7 := (w6.setO i (p := D2) (c := .ow v2) rfl ⟨D2, o2, rfl, k1, g2, k2, ow2.mono (s35.trans s')⟩ fun j d _ e o => w'.noG (by rw [upd_same]; exact fun z => nomatch z) nb2 j d e o).set j (Rep.mono (s05.trans s') _ rx2)
    exact ⟨B0, F0, H0, F', _, _, R, w7, pf, fun ρ' σ2 F2' H2 pn s2 w2' => ⟨F2', ρ', s'.trans s2, w2', pn⟩, r⟩
  · exact .inl ⟨⟨_, hL5 s' w'.ext.fh, Nat.le_refl _⟩, q _ _ _ _ pn (s05.trans s') w'⟩
end
end KV

namespace KV
open PySem PySem.Spec PyProof.Rows L2 KGX
/-! ### x, y = {..}, {..}, both owned from now on -/
def sParO (i j : Nat) (f1 f2 : EW) : SW := fun ρ N _ => i ≠ j ∧ f1 (hide ρ) fun v => f2 (hide ρ) fun u => N ((ρ.set i (some (.ow v))).set j (some (.ow u)))
section
variable {m : Bool} {X : Cx} {st : Stmt} {f1 f2 : EW}
theorem qs_parO {i j : Nat} (h : PS X st (tPar i j (tCons (tF X.K f1) (tCons (tF X.K f2) tNil)))) : QS X m st (sParO i j f1 f2) := PS.weak h fun D σ H ⟨B0, F0, H0, F, ρ, N, R, w, ⟨hij, p⟩, q, r⟩ => by
  refine ⟨_, F, _, _, w.h, p, fun v1 D1 o1 F1 H1 p1 ex1 fD1 hD1 HD1 ow1 => ?_⟩
  have g0 : H0 D1 = none := w.h0 hD1
  have nb1 : ¬ B0 D1 := fun z => (w.b0 D1 z).2.1 g0
  have w1 := (w.backH ex1).guard g0 fD1 HD1 ow1.nobox fun j d e o => w.noOwner hD1 j d e o
  refine ⟨_, F1, _, _, w1.h, p1, fun v2 D2 o2 F2 H2 p2 ex2 fD2 hD2 HD2 ow2 => ?_⟩
  have w2 := w1.backH ex2
  have fD0 : F0 D1 = none := by
    cases e : F0 D1 with
    | none => rfl
    | some u => have := ex1.ff _ _ (w.ext.ff _ _ e); rw [fD1] at this; exact nomatch this
  obtain ⟨k1, k2⟩ := w2.kept (D := D1) upd_same nb1 fD0 ow1.nobox
  have g1 : upd H0 D1 o1 D2 = none := w1.h0 hD2
  have n12 : D2 ≠ D1 := fun z => by rw [z, upd_same] at g1; exact nomatch g1
  have g2 : H0 D2 = none := by rw [upd_ne n12] at g1; exact g1
  have w3 := (w2.less (same_new g0) w.b0).setO i (p := D1) (c := .ow v1) rfl ⟨D1, o1, rfl, k1, g0, k2, ow1.mono ex2.ff⟩ fun j d _ e o => w2.noG (by rw [upd_same]; exact fun z => nomatch z) nb1 j d e o
  refine ⟨_, _, rfl, q _ _ _ _ p2 (ex1.ff.trans ex2.ff) (w3.setO j (p := D2) (c := .ow v2) rfl ⟨D2, o2, rfl, fD2, g2, HD2, ow2⟩ fun k d hk e o z => ?_)⟩
  by_cases hz : i = k
  · subst hz
    have hl := (List.getElem?_eq_some_iff.mp z).1
    rw [List.length_set] at hl
    rw [List.getElem?_set_self hl] at z
    cases z; exact n12 rfl
  · rw [List.getElem?_set_ne hz] at z e
    exact w1.noOwner hD2 k d e o z
end
/-! ### sorted items, in whatever order they came -/
open PySem.W in
theorem toks_inj : ∀ (S T : List Int) {a b : List (Int ⊕ List Nat)}, keyToksAll (S.map .int) ++ a = keyToksAll (T.map .int) ++ b → S = T
  | [], [], _, _, _ => rfl
  | [], t :: T, _, _, h => by
    simp only [List.map_nil, List.map_cons, keyToksAll, keyToks, List.cons_append, List.nil_append, List.append_assoc] at h
    exact absurd (Sum.inl.inj (List.cons.inj h).1) (by decide)
  | s :: S, [], _, _, h => by
    simp only [List.map_nil, List.map_cons, keyToksAll, keyToks, List.cons_append, List.nil_append, List.append_assoc] at h
    exact absurd (Sum.inl.inj (List.cons.inj h).1) (by decide)
  | s :: S, t :: T, a, b, h => by
    simp only [List.map_cons, keyToksAll, keyToks, List.cons_append, List.nil_append, List.append_assoc] at h
    have h2 := List.cons.inj (List.cons.inj h).2
    rw [Sum.inl.inj h2.1, toks_inj S T h2.2]
open PySem.W in
theorem items_inj {S T : List Int} {x y : PyData} (h1 : dataLt (.tuple [.tuple (S.map .int), x]) (.tuple [.tuple (T.map .int), y]) = false) (h2 : dataLt (.tuple [.tuple (T.map .int), y]) (.tuple [.tuple (S.map .int), x]) = false) : S = T := by
  have e := lex_total (O := PyProof.Rows.itemOrd) (keyToks (.tuple [.tuple (S.map .int), x])) (keyToks (.tuple [.tuple (T.map .int), y])) h1 h2
  simp only [keyToksAll, keyToks] at e
  exact toks_inj S T (List.cons.inj e).2
open PySem.W in
theorem srt_items {A B : List (List Int)} (x : List Int → PyData) (p : A.Perm B) : (A.map fun S => PyData.tuple [.tuple (S.map .int), x S]).mergeSort (dataLe false id) = (B.map fun S => PyData.tuple [.tuple (S.map .int), x S]).mergeSort (dataLe false id) := by
  refine List.Perm.eq_of_pairwise (le := fun a b => dataLe false id a b = true) (fun a b ha hb h1 h2 => ?_) (sort_pairwise (sortLe_total _ false _) _) (sort_pairwise (sortLe_total _ false _) _) ((List.mergeSort_perm _ _).trans ((p.map _).trans (List.mergeSort_perm _ _).symm))
  obtain ⟨S, _, rfl⟩ := List.mem_map.mp ((List.mergeSort_perm _ _).mem_iff.mp ha)
  obtain ⟨T, _, rfl⟩ := List.mem_map.mp ((List.mergeSort_perm _ _).mem_iff.mp hb)
  have h1' : (!dataLt (.tuple [.tuple (T.map .int), x T]) (.tuple [.tuple (S.map .int), x S])) = true := h1
  have h2' : (!dataLt (.tuple [.tuple (S.map .int), x S]) (.tuple [.tuple (T.map .int), x T])) = true := h2
  have e : S = T := items_inj (by simpa using h2') (by simpa using h1')
  rw [e]
end KV

namespace KV
open PySem PySem.Spec PyProof.Rows L2 KGX L2H
/-! ### l.count(x), l a list of truths -/
section
variable {X : Cx} {K : PySem.W.Frag}
def rCntB (K : PySem.W.Frag) : V → List V → Hp → VK → Prop := fun x xs H Q => ∃ (p : Addr) (bs : List Bool) (c : Bool), x = .ref p ∧ xs = [.bl c] ∧ SqL K H p (bs.map V.bl) ∧ Q (.int (bs.count c : Nat)) H
theorem dpBls {H : Hp} : ∀ bs : List Bool, DpAll K H (bs.map V.bl) (bs.map PyData.bool)
  | [] => .nil
  | b :: bs => .cons (.bl _) (dpBls bs)
theorem plainBls : ∀ bs : List Bool, PyData.plainAll (bs.map PyData.bool) = true
  | [] => rfl
  | b :: bs => by
    rw [List.map_cons]
    show (PyData.plain (.bool b) && PyData.plainAll (bs.map PyData.bool)) = true
    rw [plainBls bs]; rfl
theorem depthBls : ∀ bs : List Bool, PyData.depthAll (bs.map PyData.bool) = 0
  | [] => rfl
  | b :: bs => by
    rw [List.map_cons]
    show max (PyData.depth (.bool b)) (PyData.depthAll (bs.map PyData.bool)) = 0
    rw [depthBls bs]; rfl
theorem countBls (c : Bool) : ∀ bs : List Bool, (bs.map PyData.bool).countP (fun y => PyData.eqv y (.bool c)) = bs.count c
  | [] => rfl
  | b :: bs => by
    rw [List.map_cons, List.countP_cons, List.count_cons, countBls c bs]
    have : PyData.eqv (.bool b) (.bool c) = (b == c) := by cases b <;> cases c <;> rfl
    rw [this]
theorem mt_lcountB (hu : X.A.units + 65 < cLine) : MtR X "list.count" (rCntB X.K) := by
  intro pins s σ H x xs v us Q I rx rxs h
  obtain ⟨p, bs, c, rfl, rfl, hs, q⟩ := h
  cases rx
  obtain ⟨u, rfl, ru⟩ := rxs.one
  obtain ⟨as, r1⟩ := Dp.reads I (.bool c) (.bl c) u (.bl c) ru
  obtain ⟨its, rv, hl, hz⟩ := I.list hs
  obtain ⟨bs', r2⟩ := Dp.readsAll I (bs.map PyData.bool) _ its (dpBls bs) rv
  refine PySem.SeqAt.count_list_data (xs := bs.map PyData.bool) (d := .bool c) hl.isList r2 r1 (plainBls bs) rfl (by rw [depthBls]; simp; omega) ?_
  rw [countBls]
  exact ⟨.int (bs.count c : Nat), H, I.tok _, ⟨_, rfl⟩, q⟩
end
/-! ### the name of the class of an exception -/
def markN (n : Nat) : Str := (["shares", "kind", "number", "needs", "many", "text"] : List Str).getD n "other"
def bsM (m : Nat) : List Bool := [decide (m = 0), decide (m = 1), decide (m = 2), decide (m = 3), decide (m = 4), decide (m = 5)]
theorem bsM_ok : ∀ m < 6, (bsM m).count true = 1 ∧ (bsM m)[m]? = some true ∧ (∀ k < m, (bsM m)[k]? = some false) := by decide +kernel
theorem bsM_sh : ∀ m < 6, SeqAt.shaped (.list ((bsM m).map PyData.bool)) = true := by decide +kernel
def mkStrs : List V := [.str "shares", .str "kind", .str "number", .str "needs", .str "many", .str "text"]
theorem mk_at : ∀ m < 6, mkStrs[m]? = some (.str (markN m)) := by
  intro m hm
  have : m = 0 ∨ m = 1 ∨ m = 2 ∨ m = 3 ∨ m = 4 ∨ m = 5 := by omega
  rcases this with rfl | rfl | rfl | rfl | rfl | rfl <;> rfl
def spMk (K : PySem.W.Frag) (G : Addr) (cs : List Addr) : SpH := fun p vs H Q => ∃ n, vs = [.ref p.1] ∧ ExP K p G cs n ∧ n < 6 ∧ ∀ H', Same H H' → Q (.str (markN n)) H'
section
variable {K : PySem.W.Frag} {p : Addr × Obj} {G : Addr} {cs : List Addr} {σ : L2.St} {H : Hp} {Q : VK}
abbrev tL2 (K : PySem.W.Frag) (p : Addr × Obj) (i : Nat) (a b : Addr) : TE := tLst (tCons (tIs K p i (.ref a)) (tCons (tIs K p i (.ref b)) tNil))
abbrev tStrs : TE := tLst (tCons (tC (.str "shares")) (tCons (tC (.str "kind")) (tCons (tC (.str "number")) (tCons (tC (.str "needs")) (tCons (tC (.str "many")) (tCons (tC (.str "text")) tNil))))))
theorem l2_read {i m j : Nat} {a b : Addr} (e : σ[i]? = some (some (.ref p.1))) (E : ExP K p G cs m) (h0 : cs[j]? = some a) (h1 : cs[j + 1]? = some b)
    (q : ∀ l, H l = none → Q (.ref l) (upd H l (.lst [.bl (decide (m = j)), .bl (decide (m = j + 1))]))) : tL2 K p i a b σ H Q :=
  is_read e (.own _) (E.c _ _ h0) (is_read e (.own _) (E.c _ _ h1) ⟨by show 2 ≤ sizeLine; decide, q⟩)
theorem mk_read {vs : List V} {a b c d a' b' : Addr} {N : List Str} (hN : N.length = 2) {D : Ends} (hs : spMk K G [a, b, c, d, a', b'] p vs H D.rt) :
    tSeq (tIfS (tOr (tNot (tB (tIs K p 0 (.ref G)))) (tNot (tB (tIs K p 0 (.ty "ValueError"))))) (tRet (tC (.str "other"))) tNext)
      (tSeq (tAsg (tL4 K p 0 a b c d) (gName 1)) (tSeq (tAsg (tOp rCat (tVar 1) (tL2 K p 0 a' b')) (gName 1))
        (tSeq (tIfS (tTest (tOp rNe (tBM K "list" (rCntB K) (tVar 1) (tCons (tC (.bl true)) tNil)) (tC (.int 1)))) (tRet (tC (.str "other"))) tNext)
          (tRet (tOp (rIxL K) tStrs (tBM K "list" (rIndexD K) (tVar 1) (tCons (tC (.bl true)) tNil))))))) D (L2.start N vs) H := by
  obtain ⟨m, rfl, E, hm, q⟩ := hs
  obtain ⟨o1, o2, o3⟩ := bsM_ok m hm
  have hst : L2.start N [.ref p.1] = [some (.ref p.1), none] := by unfold L2.start; rw [hN]; rfl
  rw [hst]
  refine is_read rfl (.own _) E.g ⟨_, rfl, ?_⟩
  refine iteF (is_read rfl (.ty _) E.v ⟨_, rfl, iteF ?_⟩)
  unfold tNext
  dsimp only
  unfold tSeq tAsg
  dsimp only
  refine l4_read (j := 0) rfl E rfl rfl rfl rfl fun l hl => ?_
  have k1 : upd H l (.lst [.bl (decide (m = 0)), .bl (decide (m = 0 + 1)), .bl (decide (m = 0 + 2)), .bl (decide (m = 0 + 3))]) l = some (.lst [.bl (decide (m = 0)), .bl (decide (m = 0 + 1)), .bl (decide (m = 0 + 2)), .bl (decide (m = 0 + 3))]) := upd_same
  have s1 : Same H (upd H l (.lst [.bl (decide (m = 0)), .bl (decide (m = 0 + 1)), .bl (decide (m = 0 + 2)), .bl (decide (m = 0 + 3))])) := same_new hl
  generalize upd H l (.lst [.bl (decide (m = 0)), .bl (decide (m = 0 + 1)), .bl (decide (m = 0 + 2)), .bl (decide (m = 0 + 3))]) = H1 at k1 s1 ⊢
  refine ⟨_, rfl, ?_⟩
  dsimp only [List.set]
  refine l2_read (j := 4) rfl E rfl rfl fun l2 hl2 => ?_
  have n12 : l2 ≠ l := fun z => by rw [z, k1] at hl2; exact nomatch hl2
  have k2 : upd H1 l2 (.lst [.bl (decide (m = 4)), .bl (decide (m = 4 + 1))]) l2 = some (.lst [.bl (decide (m = 4)), .bl (decide (m = 4 + 1))]) := upd_same
  have k1' : upd H1 l2 (.lst [.bl (decide (m = 4)), .bl (decide (m = 4 + 1))]) l = some (.lst [.bl (decide (m = 0)), .bl (decide (m = 0 + 1)), .bl (decide (m = 0 + 2)), .bl (decide (m = 0 + 3))]) := by rw [upd_ne n12.symm]; exact k1
  have s2 : Same H (upd H1 l2 (.lst [.bl (decide (m = 4)), .bl (decide (m = 4 + 1))])) := s1.trans (same_new hl2)
  generalize upd H1 l2 (.lst [.bl (decide (m = 4)), .bl (decide (m = 4 + 1))]) = H2 at k2 k1' s2 ⊢
  refine ⟨l, l2, _, _, rfl, rfl, k1', k2, by show 6 ≤ sizeLine; decide, fun l3 hl3 => ?_⟩
  show gName 1 (.ref l3) _ (upd H2 l3 (.lst ((bsM m).map V.bl))) _
  have k3 : upd H2 l3 (.lst ((bsM m).map V.bl)) l3 = some (.lst ((bsM m).map V.bl)) := upd_same
  have s3 : Same H (upd H2 l3 (.lst ((bsM m).map V.bl))) := s2.trans (same_new hl3)
  generalize upd H2 l3 (.lst ((bsM m).map V.bl)) = H3 at k3 s3 ⊢
  unfold gName tIfS
  dsimp only [List.set]
  refine ⟨_, rfl, .inl ⟨rfl, _, .inl (.inl k3)⟩, l3, bsM m, true, rfl, rfl, .inl (.inl k3), rfl, false, ?_, ?_⟩
  · rw [o1, decide_eq_true (show V.int ((1 : Nat) : Int) = V.int 1 from rfl)]; rfl
  refine iteF ?_
  unfold tRet
  refine ⟨by show 6 ≤ sizeLine; decide, fun l4 hl4 => ?_⟩
  have n34 : l3 ≠ l4 := fun z => by rw [← z, k3] at hl4; exact nomatch hl4
  have k4 : upd H3 l4 (.lst mkStrs) l3 = some (.lst ((bsM m).map V.bl)) := by rw [upd_ne n34]; exact k3
  refine ⟨_, rfl, .inl ⟨rfl, _, .inl (.inl k4)⟩, l3, .bl true, .bool true, (bsM m).map PyData.bool, m, .bool true, rfl, rfl, .lst (.inl (.inl k4)) (dpBls _), .bl _, bsM_sh m hm, rfl, by rw [List.getElem?_map, o2]; rfl, rfl, fun k z hk hz => ?_, ?_⟩
  · rw [List.getElem?_map, o3 k hk] at hz
    cases hz; rfl
  · refine ⟨l4, mkStrs, m, .str (markN m), rfl, rfl, .inl (.inl upd_same), ?_, q _ (s3.trans (same_new hl4))⟩
    unfold atI ixN
    have h6 : mkStrs.length = 6 := rfl
    rw [if_pos (by omega)]
    simp
    rw [if_pos (show m < mkStrs.length from hm)]
    exact mk_at m hm
theorem su_mark {a : Addr} {o : Obj} {i m n : Nat} (hm : m < 6) (E : ExP K (a, o) G cs m) (D : Ends) (σ : L2.St) (H : Hp) (h : σ.length = n ∧ σ[i]? = some (some (.ref a)) ∧ ∀ H', Same H H' → D.rt (.str (markN m)) H') :
    tRet (tCallX (spMk K G cs) (a, o) (tCons (tVar i) tNil)) D σ H := ⟨_, h.2.1, m, rfl, E, hm, h.2.2⟩
end
def tSuM (K : PySem.W.Frag) (G : Addr) (cs : List Addr) (i : Nat) : TSu := fun a cls d Rt σ H => ∃ C n, cls = .ref C ∧ d = none ∧ ExH K G cs C n ∧ n < 6 ∧ σ[i]? = some (some (.ref a)) ∧ ∀ H', Same H H' → Rt (.str (markN n)) H'
def sTryM (rs : List Str) (sb : SW) : SW := fun ρ N R => sb ρ N fun v => match v with
  | .exc _ (some _) => False
  | .exc c none => c ∈ rs ∧ R (.str (markN (cix c)))
  | v => R v
section
variable {X : Cx} {x n : Str} {i : Nat} {body suite : List Stmt} {b₀ : Stmt} {np pos pos' : Pos} {sb : SW} {G : Addr} {cs : List Addr} {rs : List Str}
theorem qs_tryM (hs : X.stack = X.env :: X.outer) (hf : X.env.frame = some X.env.locals) (hN : X.N.Nodup) (hi : X.N[i]? = some n) (hk : X.env.scope.names.lookup n = some .cell) (hfn : X.fn n = true) (hc : Names X x (.ref G))
    (hr : ∀ c ∈ rs, ∀ C, X.mg c = some (.ref C) → ExH X.K G cs C (cix c)) (h6 : ∀ c ∈ rs, cix c < 6)
    (hb : ∀ (W : WX) (pn : List (Addr × Obj)) (xe : Value → Shared → Prop), L2N.Takes (X.tr pn xe) W → PassesOwn (model X.prog X.w) X.A X.env xe → QXs (X.tr pn xe) W false body sb)
    (hsu : ∀ (a : Addr) (oe : Obj) (C : Addr) (m : Nat) (pn : List (Addr × Obj)), m < 6 → ExP X.K (a, oe) G cs m → Hot1 (X.A.mark (some (.ref a))) (a, oe) → PSs (X.suite a ((a, oe) :: pn)) (b₀ :: suite) (fun D σ H => σ.length = X.N.length ∧ σ[i]? = some (some (.ref a)) ∧ ∀ H', Same H H' → D.rt (.str (markN m)) H')) :
    QS X false (.Try body [.ExceptHandler (some (.Name x np)) (some n) (b₀ :: suite) pos'] [] [] pos) (sTryM rs sb) := by
  refine PS.weak (ps_tryC (tb := fun W => tSX X.K X.mg false (fun cls d σ H => σ.length = X.N.length → W cls d σ H) sb) (ts := tSuM X.K G cs i) hs hf hN hi hk hfn hc (fun W pn xe tk ps => hb _ pn xe (takesL tk) ps) (fun a oe cls d pn hz hd => ⟨fun pins s σ H D I q => ?_⟩)) ?_
  · obtain ⟨C, m, rfl, rfl, E, hm, e1, q⟩ := q
    obtain ⟨vs, ed⟩ := id hd
    exact (hsu a oe C m pn hm (E.p hz hd) ⟨rfl, vs, ed, hz.2.2 vs ed⟩).run pins s σ H D I ⟨I.len, e1, q⟩
  · rintro D σ H ⟨B0, F0, H0, F, ρ, N, R, w, p, q, r⟩
    refine ⟨B0, F0, H0, F, ρ, N, _, w, p, q, fun v z F' H' pv rt => ?_, fun σ' c n C d F' H' pc mc ex fa hl => ?_⟩
    · refine r v z F' H' ?_ rt
      cases v <;> first
        | exact pv
        | (have rr := rt.2; simp only [Rep] at rr)
    · obtain rfl : n = none := by cases n with
        | none => rfl
        | some i => exact pc.elim
      obtain rfl : d = none := fa
      obtain ⟨hm, pc⟩ := pc
      have E := hr c hm C mc
      refine ⟨E.ex, fun a ha => ⟨C, _, rfl, rfl, E, h6 c hm, List.getElem?_set_self (by rw [hl]; exact (List.getElem?_eq_some_iff.mp hi).1), fun H2 sm => ?_⟩⟩
      refine r _ _ F' H2 pc ⟨⟨ex.ff, ex.fh.trans sm, ex.new, fun b o nb e => sm b o (ex.keep b o nb e), fun b hb0 => ?_⟩, ?_⟩
      · obtain ⟨k, e⟩ := ex.box b hb0
        exact ⟨k, sm _ _ e⟩
      · show Rep X.K _ _ _
        rw [Rep]
end
theorem exh_mk6 {K : PySem.W.Frag} {G C a b c d a' b' : Addr} {n : Nat} {gt : Option Value} (i : PySem.W.isClsIn K C = true) (f1 : PySem.W.findIn K (.ref C) "__getattribute__" = some (some (.builtin "BaseException.__getattribute__"))) (f2 : PySem.W.findIn K (.ref C) "__getattr__" = some gt)
    (s : PySem.W.subIn K (.ref C) (.type "BaseException") = some true) (f3 : PySem.W.findIn K (.ref C) "__class__" = some (some (.builtin "object.__class__"))) (sp : PySem.W.specialIn K (.builtin "object.__class__") "__get__" = some (some (.builtin "getset_descriptor.__get__")))
    (tk : PySem.W.takesIn K (.builtin "object.__class__") = some true) (mr : PySem.W.mroIn K C (.type "object") = some true) (g : PySem.W.kitOne K (.ref C) (.ref G) = some true) (v : PySem.W.kitOne K (.ref C) (.type "ValueError") = some true)
    (k0 : PySem.W.kitOne K (.ref C) (.ref a) = some (decide (n = 0))) (k1 : PySem.W.kitOne K (.ref C) (.ref b) = some (decide (n = 1))) (k2 : PySem.W.kitOne K (.ref C) (.ref c) = some (decide (n = 2))) (k3 : PySem.W.kitOne K (.ref C) (.ref d) = some (decide (n = 3)))
    (k4 : PySem.W.kitOne K (.ref C) (.ref a') = some (decide (n = 4))) (k5 : PySem.W.kitOne K (.ref C) (.ref b') = some (decide (n = 5)))
    (lt : n < 8) (ex : PySem.W.exmOne K (.ref C) (.ref G) = some true) : ExH K G [a, b, c, d, a', b'] C n := by
  refine ⟨fun x ox => PySem.W.kitx_exc i f1 f2 s f3 sp tk mr, g, v, fun j C' e => ?_, lt, ex⟩
  match j, e with
  | 0, e => cases e; exact k0
  | 1, e => cases e; exact k1
  | 2, e => cases e; exact k2
  | 3, e => cases e; exact k3
  | 4, e => cases e; exact k4
  | 5, e => cases e; exact k5
  | _ + 6, e => simp at e
end KV

namespace KV
open PySem PySem.Spec PyProof.Rows L2 KGX L2H
/-! ### the name of an except clause that no comprehension takes up: a local -/
section
variable {X : Cx} {x n : Str} {c : Value} {i : Nat} {body suite : List Stmt} {b₀ : Stmt} {np pos pos' : Pos} {tb : WX → TS} {ts : TSu}
theorem ps_tryL (hs : X.stack = X.env :: X.outer) (hf : X.env.frame = some X.env.locals) (hN : X.N.Nodup) (hi : X.N[i]? = some n) (hk : X.env.kindOf n = some .local) (hc : Names X x c)
    (hb : ∀ (W : WX) (pn : List (Addr × Obj)) (xe : Value → Shared → Prop), L2N.Takes (X.tr pn xe) W → PassesOwn (model X.prog X.w) X.A X.env xe → PSs (X.tr pn xe) body (tb W))
    (hsu : ∀ (a : Addr) (oe : Obj) (cls : Value) (d : Option Addr) (pn : List (Addr × Obj)), L2N.Zn cls d oe → (∃ vs, oe.data = .fields vs) → PSs (X.suite a ((a, oe) :: pn)) (b₀ :: suite) (fun D σ H => ts a cls d D.rt σ H)) :
    PS X (.Try body [.ExceptHandler (some (.Name x np)) (some n) (b₀ :: suite) pos'] [] [] pos) (fun D σ H => tb (wAsC X.K c i ts D.rt) D σ H) := by
  constructor
  intro pins s σ H D I h
  have ok := I.ok
  have hfr : X.A.frames = some (X.env :: X.outer) := by rw [ok.frames, hs]
  refine wpAny_Try_except ?_
  have bd := hb (wAsC X.K c i ts D.rt) (X.pn ++ pins) (fun e s₁ => wpAny (model X.prog X.w) X.A (noteFrame e X.env) (fun _ s₂ => wpAny (model X.prog X.w) X.A (setFlight e none) (fun _ s₃ => wpAny (model X.prog X.w) X.A (handleBy e X.env [.ExceptHandler (some (.Name x np)) (some n) (b₀ :: suite) pos']) (SP X pins D) X.xe s₃) X.xe s₂) X.xe s₁)
    (fun u s' xx => ?_) PassesOwn.looking
  · refine wpAny_mono (bd.run [] s σ H D (I.toTry _) h) (fun f s1 hsp => ?_) (fun e s1 he => he)
    match f, hsp with
    | .next, ⟨σ', H', J, q⟩ => exact wpAny_execs_nil ⟨σ', H', J.ofTry ok, q⟩
    | .brk, ⟨σ', H', J, q⟩ => exact ⟨σ', H', J.ofTry ok, q⟩
    | .cont, ⟨σ', H', J, q⟩ => exact ⟨σ', H', J.ofTry ok, q⟩
    | .ret u, ⟨v, σ', H', J, r, q⟩ => exact ⟨v, σ', H', J.ofTry ok, r, q⟩
  · obtain ⟨a, B, sI, pins', σ', H', cls, d, rfl, J', nb, up, sky, na, os, ag, hx, hyes⟩ := xx
    have J : Inv X pins σ' H' sI := J'.ofTry ok
    have sky2 : Sky B (X.env :: X.outer) a (L2N.Zn cls d) X.env.locals s'.heap := by rw [← hs]; exact sky
    show wpAny (model X.prog X.w) X.A (noteFrame (.ref a) X.env) _ _ _
    refine L2N.Sky.land L2N.Zn.steady hfr hf sky2 fun h3 fl3 up3 => ?_
    have J3 : Inv X pins σ' H' { s' with heap := h3 } := J.landed nb fl3.1 (up.trans up3) os ag
    obtain ⟨o3, v3, g3, z3, d3⟩ := fl3.there
    have nfr : a ∉ frs (X.env :: X.outer) := fun hm => by
      obtain ⟨_, o, e, hnf⟩ := fl3.2.2.1.mem hm
      rw [g3] at e; cases e
      exact hnf _ d3
    have nL : a ≠ X.env.locals := fun z => nfr (List.mem_filterMap.mpr ⟨X.env, List.mem_cons_self, by rw [hf, z]⟩)
    have nF : a ∉ X.fs := fun hm => by
      obtain ⟨e, he, q⟩ := List.mem_filterMap.mp hm
      exact nfr (List.mem_filterMap.mpr ⟨e, List.mem_cons_of_mem _ he, q⟩)
    have S3 := J3.suite g3 d3 na nL nF
    refine wpAny_handleBy_cons (codeAny_handlers_test ?_) (by intro q; cases q)
    have LM := PySem.W.exm_one (M := model X.prog X.w) (J3.kIn) (show PySem.W.Looks (model X.prog X.w) h3 (typeOf (.ref a)) cls from fun A Q E s k q => wpAny_typeOf_ref (k _ _ g3) (by rw [z3.1]; exact q)) hx
    have test : ∀ {Q : Value → Shared → Prop} {E : Value → Shared → Prop}, Q c { s' with heap := h3 } → wpAny (model X.prog X.w) (X.A.mark (some (.ref a))) (eval (.Name x np) X.env) Q E { s' with heap := h3 } := fun {Q E} q => by
      obtain ⟨hg, hdbg, hm | ⟨hm, hv, hnn⟩⟩ := hc
      · exact ld_glob (X := X.suite a ((a, o3) :: (X.pn ++ pins))) S3 hg hm q hdbg
      · exact ld_blt (X := X.suite a ((a, o3) :: (X.pn ++ pins))) S3 hg hm hv q hnn hdbg
    refine test (LM.here (codeAny_handlers_suite_as (HandSPX.lands_againZ fl3 fun h4 fl4 up4 => ?_)))
    have J4 : Inv X pins σ' H' { s' with heap := h4 } := J.landed nb fl4.1 ((up.trans up3).trans up4) os ag
    obtain ⟨o4, v4, g4, z4, d4⟩ := fl4.there
    have S4 := J4.suite g4 d4 na nL nF
    refine store_ok (X := X.suite a ((a, o4) :: (X.pn ++ pins))) (v := .ref a) S4 hN hi (.inl hk) rfl (fun s5 S5 => ?_) (.inr hk)
    refine wpAny_mono ((hsu a o4 cls d (X.pn ++ pins) z4 ⟨_, d4⟩).run [] s5 _ H' { nx := fun _ _ => False, rt := D.rt } S5 (hyes a na)) (fun f s6 hsp => ?_) (fun _ _ z => False.elim z)
    match f, hsp with
    | .next, ⟨_, _, _, q⟩ => exact q.elim
    | .brk, ⟨_, _, _, q⟩ => exact q.elim
    | .cont, ⟨_, _, _, q⟩ => exact q.elim
    | .ret u, ⟨v6, σ6, H6, S6, r6, q6⟩ => exact gone_ok (S6.unsuite ok) hN hi hk fun s7 J7 => ⟨_, _, _, J7, r6, q6⟩
end
section
variable {X : Cx} {x n : Str} {i : Nat} {body suite : List Stmt} {b₀ : Stmt} {np pos pos' : Pos} {sb : SW} {G : Addr} {cs : List Addr} {rs : List Str}
theorem qs_tryML (hs : X.stack = X.env :: X.outer) (hf : X.env.frame = some X.env.locals) (hN : X.N.Nodup) (hi : X.N[i]? = some n) (hk : X.env.kindOf n = some .local) (hc : Names X x (.ref G))
    (hr : ∀ c ∈ rs, ∀ C, X.mg c = some (.ref C) → ExH X.K G cs C (cix c)) (h6 : ∀ c ∈ rs, cix c < 6)
    (hb : ∀ (W : WX) (pn : List (Addr × Obj)) (xe : Value → Shared → Prop), L2N.Takes (X.tr pn xe) W → PassesOwn (model X.prog X.w) X.A X.env xe → QXs (X.tr pn xe) W false body sb)
    (hsu : ∀ (a : Addr) (oe : Obj) (C : Addr) (m : Nat) (pn : List (Addr × Obj)), m < 6 → ExP X.K (a, oe) G cs m → Hot1 (X.A.mark (some (.ref a))) (a, oe) → PSs (X.suite a ((a, oe) :: pn)) (b₀ :: suite) (fun D σ H => σ.length = X.N.length ∧ σ[i]? = some (some (.ref a)) ∧ ∀ H', Same H H' → D.rt (.str (markN m)) H')) :
    QS X false (.Try body [.ExceptHandler (some (.Name x np)) (some n) (b₀ :: suite) pos'] [] [] pos) (sTryM rs sb) := by
  refine PS.weak (ps_tryL (tb := fun W => tSX X.K X.mg false (fun cls d σ H => σ.length = X.N.length → W cls d σ H) sb) (ts := tSuM X.K G cs i) hs hf hN hi hk hc (fun W pn xe tk ps => hb _ pn xe (takesL tk) ps) (fun a oe cls d pn hz hd => ⟨fun pins s σ H D I q => ?_⟩)) ?_
  · obtain ⟨C, m, rfl, rfl, E, hm, e1, q⟩ := q
    obtain ⟨vs, ed⟩ := id hd
    exact (hsu a oe C m pn hm (E.p hz hd) ⟨rfl, vs, ed, hz.2.2 vs ed⟩).run pins s σ H D I ⟨I.len, e1, q⟩
  · rintro D σ H ⟨B0, F0, H0, F, ρ, N, R, w, p, q, r⟩
    refine ⟨B0, F0, H0, F, ρ, N, _, w, p, q, fun v z F' H' pv rt => ?_, fun σ' c n C d F' H' pc mc ex fa hl => ?_⟩
    · refine r v z F' H' ?_ rt
      cases v <;> first
        | exact pv
        | (have rr := rt.2; simp only [Rep] at rr)
    · obtain rfl : n = none := by cases n with
        | none => rfl
        | some i => exact pc.elim
      obtain rfl : d = none := fa
      obtain ⟨hm, pc⟩ := pc
      have E := hr c hm C mc
      refine ⟨E.ex, fun a ha => ⟨C, _, rfl, rfl, E, h6 c hm, List.getElem?_set_self (by rw [hl]; exact (List.getElem?_eq_some_iff.mp hi).1), fun H2 sm => ?_⟩⟩
      refine r _ _ F' H2 pc ⟨⟨ex.ff, ex.fh.trans sm, ex.new, fun b o nb e => sm b o (ex.keep b o nb e), fun b hb0 => ?_⟩, ?_⟩
      · obtain ⟨k, e⟩ := ex.box b hb0
        exact ⟨k, sm _ _ e⟩
      · show Rep X.K _ _ _
        rw [Rep]
end
/-! ### t * k, k nought or below too -/
section
variable {X : Cx} {f g : EW} {a b : Expr} {pos : Pos}
theorem tuple_mul0 (l : Addr) (items : Array Value) (n : Nat) (dd : Option Addr) (sl : Array (Option Value)) (x : Int) (u : Tok) (c0 : (decide (x < -(2 ^ 63)) || decide (x ≥ 2 ^ 63)) = false) (c1 : (items.isEmpty || x == 1) = false) (c2 : (decide (x ≤ 0) || items.isEmpty) = true) :
    Meets (Builtin.«tuple.__mul__» ⟨[.ref l, .int x u], []⟩) (fun _ R s => s.heap.get? l = some { cls := .type "tuple", dict := dd, data := .seq items n, slots := sl } ∧
      R (.ok (.ret (Value.ref s.heap.objs.size))) { s with heap := s.heap.push { cls := Value.type "tuple", data := Data.seq #[] }, toks := s.toks }) :=
  .of_wp fun prog w A R s h => by
    obtain ⟨hp, g, d, tk, os⟩ := s
    obtain ⟨hl, h⟩ := h
    have f1 := AutoSeq1.idx_int
    wp_walk using wpAny_loadPart' hl
    repeat (first
      | (refine wpAny_ite_false (decide_eq_false (by rw [c0]; exact Bool.false_ne_true)) ?_; wp_walk using wpAny_loadPart' hl)
      | (refine wpAny_ite_false (decide_eq_false (by rw [c1]; exact Bool.false_ne_true)) ?_; wp_walk using wpAny_loadPart' hl)
      | (refine wpAny_ite_true (decide_eq_true c2) ?_; wp_walk using wpAny_loadPart' hl))
    exact ⟨_, rfl, h⟩
def rTimes0 (K : PySem.W.Frag) : R2 := fun x y H Q => ∃ l k xs, x = .ref l ∧ y = .int k ∧ SqT K H l xs ∧ xs ≠ [] ∧ -1000 ≤ k ∧ k ≤ 0 ∧ NewT H [] Q
theorem op_times0 : OpR X (binaryOp .Mult) (rTimes0 X.K) := by
  rintro pins s σ H _ _ v u Q I rx ry ⟨l, k, xs, rfl, rfl, hT, hne, h1, h2, q2⟩
  cases rx
  obtain ⟨t, rfl⟩ := ry
  obtain ⟨us, r, ⟨⟨cls, dd, data, sl⟩, ho, hc, n, hd⟩, hs⟩ := I.tuple hT
  simp only at hc hd
  subst hc hd
  have hle : us.length = xs.length := r.length.symm
  have hi : us.toArray.isEmpty = false := by
    cases us with
    | nil => exact absurd (List.eq_nil_of_length_eq_zero hle.symm) hne
    | cons a b => rfl
  have c0 : (decide (k < -(2 ^ 63)) || decide (k ≥ 2 ^ 63)) = false := by
    rw [decide_eq_false (by omega), decide_eq_false (by omega)] <;> rfl
  have c1 : (us.toArray.isEmpty || k == 1) = false := by rw [hi, Bool.false_or]; exact beq_eq_false_iff_ne.mpr (by omega)
  have c2 : (decide (k ≤ 0) || us.toArray.isEmpty) = true := by rw [hi, Bool.or_false]; exact decide_eq_true (by omega)
  refine wpAny_binaryOp_repeat_ref (T := "tuple") (U := "int") (by decide) ⟨_, ho, rfl⟩ (fun s' => typeIs_int s' k t) noFill_tuple_mul F.fills_int_mul F.slot_int_rmul repeat_tuple F.slot_int_index.lookup
    (call_meets F.slot_int_rmul (typeIs_int s k t) F.entry_int_rmul (F.args_int_rmul_2 _ _) (int_rmul_tuple k t l us.toArray n dd sl)
      ⟨ho, rfl, ⟨_, ho, rfl⟩, call_meets F.slot_tuple_mul ⟨_, ho, rfl⟩ F.entry_tuple_mul (F.args_tuple_mul_2 _ _) (tuple_mul0 l us.toArray n dd sl k t c0 c1 c2) ⟨ho, ?_⟩⟩)
  exact inv_newT (xs := []) (us := []) (s := s) (h' := s.heap) (t' := s.toks) I .nil (Nat.zero_le _) q2
def oRep0 : OW := fun v w k => ∃ xs n, v = .tup xs ∧ w = .int n ∧ xs ≠ [] ∧ -1000 ≤ n ∧ n ≤ 0 ∧ k (.tup [])
theorem opv_rep0 {K : PySem.W.Frag} : OpV K (rTimes0 K) oRep0 := by
  rintro x y v w B F H P Q s bx r1 r2 ⟨xs, n, rfl, rfl, h0, h1, h2, p⟩ q
  rw [Rep] at r1; rw [Rep] at r2
  obtain ⟨c, us, rfl, ec, rc⟩ := r1
  subst r2
  refine ⟨c, n, us, rfl, rfl, ec.sq s, fun z => h0 (List.eq_nil_of_length_eq_zero (by rw [← rc.len, z]; rfl)), h1, h2, fun d o hd ho => ?_⟩
  have ex : Ext B F H (upd F d (.frz o (.tup []))) (upd H d (.frz o (.tup []))) := .laid s (fun a h => (bx a h).2) hd
  refine q _ _ _ _ p ex ?_
  rw [Rep]; exact ⟨d, _, rfl, .new ho, .nil⟩
def mMulZ : OW := fun v w k => match v, w with
  | .int i, .int j => CM i j ∧ k (.int (i * j))
  | .tup xs, .int n => (xs ≠ [] ∧ -1000 ≤ n ∧ n ≤ 1000 ∧ xs.length ≤ 1000) ∧ k (.tup (List.replicate n.toNat xs).flatten)
  | .lst xs, .int n => (-1000 ≤ n ∧ n ≤ 1000 ∧ xs.length ≤ 1000) ∧ k (.lst (List.replicate n.toNat xs).flatten)
  | _, _ => False
theorem mp_mulZ (ha : PP X a f) (hb : PP X b g) : PP X (.BinOp a .Mult b pos) (eBin mMulZ f g) :=
  pp_op (opR_or (opR_or op_mul op_mulW) (opR_or (opR_or op_timesS op_times0) op_rep)) ((opv_or (opv_or opv_rI opv_rI) (opv_or (opv_or opv_repT opv_rep0) opf_rep.v)).weak fun v w k q => by
    unfold mMulZ at q
    split at q
    · exact .inl (q.1.elim (fun z => .inl ⟨_, _, rfl, rfl, z, q.2⟩) fun z => .inr ⟨_, _, rfl, rfl, z, q.2⟩)
    · rename_i xs n
      by_cases h : 1 ≤ n
      · exact .inr (.inl (.inl ⟨_, _, rfl, rfl, q.1.1, h, q.1.2.2.1, q.1.2.2.2, q.2⟩))
      · have q2 := q.2
        rw [show n.toNat = 0 by omega, List.replicate_zero, List.flatten_nil] at q2
        exact .inr (.inl (.inr ⟨_, _, rfl, rfl, q.1.1, q.1.2.1, by omega, q2⟩))
    · exact .inr (.inr ⟨_, _, rfl, rfl, q.1.1, q.1.2.1, q.1.2.2, q.2⟩)
    · exact q.elim) ha hb
end
end KV

namespace KV
open PySem PySem.Spec PyProof.Rows L2 KGX
open Sem (wp)
/-! ### a text as key of a dict whose keys are tuples -/
section
variable {prog : Program} {w : World} {A : Around} {E : Value → Shared → Prop} {s : Shared}
theorem tellsT {x : Str} {t : Tok} {stored : List Value} {Q : Bool → Shared → Prop} (hst : ∀ v ∈ stored, ∃ k b, v = .ref b ∧ (nestedKind prog w).is s.heap k b) (h : Q false s) : wpAny (model prog w) A (tableMayTell (.str x t) stored) Q E s := by
  unfold tableMayTell
  split
  · exact wpAny_pure h
  · rw [eqIsQuiet_byValue 8 (v := .str x t) rfl]
    refine wpAny_bind (wpAny_pure ?_)
    simp only [Bool.not_true, Bool.false_eq_true, if_false]
    refine wpAny_bind ?_
    refine wpAny_forIn_list _ (fun rest r s' => s' = s ∧ r = (none, ()) ∧ ∀ v ∈ rest, ∃ k' b, v = .ref b ∧ (nestedKind prog w).is s.heap k' b) _ ?_ ?_ _ _ ⟨rfl, rfl, hst⟩
    · rintro x rest r s' ⟨rfl, rfl, hr⟩
      obtain ⟨k', b, rfl, hb⟩ := hr x List.mem_cons_self
      refine wpAny_bind ((nestedKind prog w).quiet hb ?_)
      simp only [Bool.not_true, Bool.false_eq_true, if_false]
      exact wpAny_pure ⟨rfl, rfl, fun v hv => hr v (List.mem_cons_of_mem _ hv)⟩
    · rintro r s' ⟨rfl, rfl, _⟩
      exact wpAny_pure h
theorem eqT {k : NestedKey} {b : Addr} {x : Str} {t : Tok} {Q : Bool → Shared → Prop} (hu : A.units < cLine) (hk : (nestedKind prog w).is s.heap k b) (hx : ∀ y, k ≠ .text y) (h : Q false s) : wpAny (model prog w) A (eqBool (.ref b) (.str x t)) Q E s := by
  refine eqAt_key k (.text x) A s _ _ hk.1 (.text x t) ?_ _ _ _ _ ?_
  · show A.units + min k.depth 0 < cLine
    rw [Nat.min_zero]; exact hu
  · rw [← NestedKey.decide_eq, decide_eq_false (hx x)]; exact h
theorem walkT {d : Addr} {o : Obj} {es : Array DictEntry} {ep : Nat} {x : Str} {t : Tok} {hh : Int} {places : List Nat} {Q : Option Nat → Shared → Prop} (hu : A.units < cLine) (ho : s.heap.get? d = some o) (hd : o.data = .dict es ep)
    (hk : ∀ e ∈ es, ∃ k b, e.key = .ref b ∧ (nestedKind prog w).is s.heap k b ∧ ∀ y, k ≠ .text y) (h : Q none s) : wpAny (model prog w) A (dictWalkPlain d (.str x t) hh es places) Q E s := by
  unfold dictWalkPlain
  refine wpAny_bind ?_
  refine wpAny_forIn_list _ (fun rest b s' => s' = s ∧ b = (none, ())) _ ?_ ?_ _ _ ⟨rfl, rfl⟩
  · rintro i rest b s' ⟨rfl, rfl⟩
    cases hei : es[i]? with
    | none => exact wpAny_pure ⟨rfl, rfl⟩
    | some e =>
      obtain ⟨k, b, e1, e2, e3⟩ := hk e (Array.mem_of_getElem? hei)
      dsimp only
      by_cases hx : (e.hash == hh) = true
      · rw [if_pos hx]
        refine wpAny_bind (wpAny_dictEpoch ho hd (wpAny_bind ?_))
        rw [e1]
        refine eqT hu e2 e3 (wpAny_bind (wpAny_dictEpoch ho hd ?_))
        show wpAny _ _ (if (ep != ep) = true then _ else _) _ E _
        rw [if_neg (by simp)]
        simp only [Bool.false_eq_true, if_false]
        exact wpAny_bind (wpAny_rule (wpAny_pure ⟨rfl, rfl⟩))
      · rw [if_neg hx]; exact wpAny_pure ⟨rfl, rfl⟩
  · rintro r s' ⟨rfl, rfl⟩
    exact wpAny_pure h
theorem findT {d : Addr} {o : Obj} {es : Array DictEntry} {ep : Nat} {x : Str} {t : Tok} {hh : Int} {Q : Option Nat → Shared → Prop} (hu : A.units < cLine) (ho : s.heap.get? d = some o) (hd : o.data = .dict es ep)
    (hk : ∀ e ∈ es, ∃ k b, e.key = .ref b ∧ (nestedKind prog w).is s.heap k b ∧ ∀ y, k ≠ .text y) (h : Q none s) : wpAny (model prog w) A (dictFind d (.str x t) hh) Q E s := by
  unfold dictFind
  try with_reducible refine wpAny_holding ?_
  refine wpAny_bind (wpAny_dictEntries ho hd ?_)
  dsimp only
  have notr : ∀ e ∈ es, isExactStrKey e.key = false := fun e he => by
    obtain ⟨k, b, e1, _⟩ := hk e he
    rw [e1]; rfl
  by_cases h0 : (es.all fun e => isExactStrKey e.key) = true
  · rw [if_pos h0]
    have hz : es.findIdx? (·.key.isStr x) = none := by
      rw [Array.findIdx?_eq_none_iff]
      intro e he
      have := Array.all_eq_true_iff_forall_mem.mp h0 e he
      rw [notr e he] at this
      exact nomatch this
    unfold foundByValue
    rw [hz]
    exact wpAny_bind (wpAny_pure (wpAny_pure h))
  · rw [if_neg h0]
    have hst : ∀ v ∈ (placesWithHash es.size (fun i => es[i]?.map (·.hash)) hh).filterMap (fun i => es[i]?.map (·.key)), ∃ k' b, v = .ref b ∧ (nestedKind prog w).is s.heap k' b := by
      intro v hv
      obtain ⟨i, _, hi⟩ := List.mem_filterMap.mp hv
      cases hei : es[i]? with
      | none => rw [hei] at hi; cases hi
      | some e =>
        rw [hei] at hi
        obtain rfl : e.key = v := by simpa using hi
        obtain ⟨k, b, e1, e2, _⟩ := hk e (Array.mem_of_getElem? hei)
        exact ⟨k, b, e1, e2⟩
    by_cases hc : (Value.str x t :: (placesWithHash es.size (fun i => es[i]?.map (·.hash)) hh).filterMap (fun i => es[i]?.map (·.key))).all carriedByValue = true
    · rw [if_pos hc]
      exact walkT hu ho hd hk h
    rw [if_neg hc]
    by_cases hone : (((placesWithHash es.size (fun i => es[i]?.map (·.hash)) hh).filterMap (fun i => es[i]?.map (·.key))) == [Value.str x t]) = true <;>
    (first | rw [if_pos hone] | rw [if_neg hone]) <;> (first | refine wpAny_bind (wpAny_pure ?_) | refine wpAny_bind (tellsT hst ?_)) <;> (
      rw [if_neg (by simp)]
      refine wpAny_bind ?_
      refine wpAny_forIn_list _ (fun rest b s' => s' = s ∧ b = (none, none)) _ ?_ ?_ _ _ ⟨rfl, rfl⟩
      · rintro i rest b s' ⟨rfl, rfl⟩
        cases hei : es[i]? with
        | none => exact wpAny_pure ⟨rfl, rfl⟩
        | some e =>
          obtain ⟨k, b, e1, e2, e3⟩ := hk e (Array.mem_of_getElem? hei)
          dsimp only
          by_cases hx : (e.hash == hh) = true
          · rw [if_pos hx]
            refine wpAny_bind (wpAny_dictEpoch ho hd (wpAny_bind ?_))
            rw [e1]
            refine eqT hu e2 e3 (wpAny_bind (wpAny_dictEpoch ho hd ?_))
            show wpAny _ _ (if (ep != ep) = true then _ else _) _ E _
            rw [if_neg (by simp)]
            simp only [Bool.false_eq_true, if_false]
            refine wpAny_bind (wpAny_rule ?_)
            first | rw [if_neg (by simp)] | skip
            first
              | exact wpAny_pure ⟨rfl, rfl⟩
              | exact wpAny_bind (wpAny_pure (wpAny_pure ⟨rfl, rfl⟩))
          · rw [if_neg hx]; exact wpAny_pure ⟨rfl, rfl⟩
      · rintro r s' ⟨rfl, rfl⟩
        exact wpAny_pure h)
theorem setT {d : Addr} {es : Array DictEntry} {ep : Nat} {x : Str} {t : Tok} {v : Value} {Q : Unit → Shared → Prop} (hu : A.units + 64 < cLine) (hm : s.heap.DictRaw d es ep)
    (hk : ∀ e ∈ es, ∃ k b, e.key = .ref b ∧ (nestedKind prog w).is s.heap k b ∧ ∀ y, k ≠ .text y) (hsz : es.size < sizeLine)
    (hQ : ∀ h' tk, h'.DictRaw d (es.push ⟨hashStr w x, .str x t, v⟩) (ep + 1) → Heap.SameBut d s.heap h' → Q () { s with heap := h', toks := tk }) : wpAny (model prog w) A (setItem (.ref d) (.str x t) v) Q E s := by
  obtain ⟨o, ho, hc, hd⟩ := id hm
  have ht : s.TypeIs (.ref d) "dict" := ⟨o, ho, hc.1⟩
  unfold setItem
  try with_reducible refine wpAny_holding ?_
  refine wpAny_bind (wpAny_sequenceKey ht (by decide) ?_)
  refine wpAny_bind (wpAny_callSpecial?_slot (name := Str.ofString "__setitem__") ht slot_dict_setitem
    (wpAny_call_entry slot_dict_setitem ht entry_dict_setitem ?_ (args_dict_setitem _ _ _)))
  show wpAny _ _ (Builtin.Dict.notOrdered "__setitem__" ⟨[.ref d, .str x t, v], []⟩ >>= _) _ _ s
  refine wpAny_bind (wpAny_notOrdered_dict ht ?_)
  show wpAny _ _ (dictSet d (.str x t) v >>= _) _ _ s
  refine wpAny_bind ?_
  unfold dictSet
  try with_reducible refine wpAny_holding ?_
  refine wpAny_bind (wpAny_pyHash_str ?_)
  unfold dictSetHashed
  try with_reducible refine wpAny_holding ?_
  refine wpAny_bind (findT (s := { s with toks := s.toks + 1 }) (by show A.units + 1 < cLine; omega) ho hd hk ?_)
  refine wpAny_bind (wpAny_rule (wpAny_updateDictKeys (hz := by omega) (s := { s with toks := s.toks + 1 }) ho hd ?_))
  exact wpAny_pure ⟨.none, rfl, wpAny_pure (hQ _ _ ⟨_, Heap.get?_update_self _ ho (Obj.isFreed_of_dict (Obj.data_mapDictKeys hd _)), hc.mapDictKeys _, Obj.data_mapDictKeys hd _⟩ (Heap.SameBut.update ..))⟩
end
/-! by tracked heaps -/
def sPutX (w : World) (td ty tv : TE) : TS := fun D σ H => tv σ H fun v H1 => td σ H1 fun x H2 => ty σ H2 fun y H3 => ∃ a xs, x = .ref a ∧ MD H3 a xs ∧
  ((∃ b k, y = .ref b ∧ KeyAt H3 k b ∧ ∀ u ep, RelV v u → D.nx σ (upd H3 a (.ext (RawD a (storedH xs k b u) ep)))) ∨
   (∃ t, y = .str t ∧ (∀ e ∈ xs, ∀ z, e.1 ≠ .text z) ∧ xs.length < 1000000 ∧ ∀ u ep hh tok, RelV v u → D.nx σ (upd H3 a (.ext (RawM a (xs.map (entK w) ++ [⟨hh, .str t tok, u⟩]) ep)))))
theorem rawM_ok {P : Program} {w : World} {H : Hp} {h : Heap} {a : Addr} {es : List DictEntry} {ep : Nat} (r : RawM a es ep h) : ObjOk P w H h a (.ext (RawM a es ep)) := by
  obtain ⟨o, arr, h1, h2⟩ := id r
  exact ⟨r, ⟨o, h1⟩, fun g1 g2 ⟨o, es, e1, e2⟩ k => ⟨o, es, k o e1, e2⟩⟩
section
variable {X : Cx} {pins : List (Addr × Obj)} {σ : L2.St} {H : Hp} {s : Shared} {a : Addr} {A : Around} {E : Value → Shared → Prop} {xs : List Ent}
theorem md_setT {Q : Unit → Shared → Prop} {v : Value} {x : Str} {t : Tok} (hu : A.units + 64 < cLine) (I : Inv X pins σ H s) (d : MD H a xs) (hk : ∀ e ∈ xs, ∀ z, e.1 ≠ .text z) (hl : xs.length < 1000000)
    (h : ∀ s' ep hh, Inv X pins σ (upd H a (.ext (RawM a (xs.map (entK X.w) ++ [⟨hh, .str x t, v⟩]) ep))) s' → Q () s') :
    wpAny (model X.prog X.w) A (setItem (.ref a) (.str x t) v) Q E s := by
  obtain ⟨ep, o, es, h1, h2, h3, h4⟩ := d.raw I.hok
  have hsz : es.size = xs.length := by
    have := congrArg List.length (h4 X.w)
    rw [List.length_map] at this
    simpa using this
  have hme : ∀ e ∈ es, ∃ y ∈ xs, e = entK X.w y := fun e he => by
    have : e ∈ xs.map (entK X.w) := (h4 X.w) ▸ Array.mem_toList_iff.mpr he
    obtain ⟨y, hy, rfl⟩ := List.mem_map.mp this
    exact ⟨y, hy, rfl⟩
  refine setT (es := es) (ep := ep) hu ⟨o, h1, h2, h3⟩ (fun e he => ?_) (by rw [hsz, sizeLine_eq]; omega) fun h' tk hm hs => ?_
  · obtain ⟨y, hy, rfl⟩ := hme e he
    exact ⟨y.1, y.2.1, rfl, (d.2.2.2.2 y hy).is I.hok, hk y hy⟩
  · obtain ⟨o', ho', hx', hd'⟩ := hm
    obtain ⟨e0, e⟩ := d.1
    refine h _ (ep + 1) (hashStr X.w x) (d_write I (by rw [e]; exact True.intro) hs ⟨o', ho'⟩ (rawM_ok ⟨o', _, ho', hx', hd', ?_⟩))
    rw [Array.toList_push, h4 X.w]
theorem ps_putX {o i value : Expr} {pos pos' : Pos} {td ty tv : TE} (hu : X.A.units + 64 < cLine) (ho : PE X o td) (hi : PE X i ty) (hv : PE X value tv) (hs : swapsWith value (some (.Subscript o i pos')) pos.line X.env = pure false) :
    PS X (.Assign [.Subscript o i pos'] value pos) (sPutX X.w td ty tv) := by
  refine ⟨fun pins s σ H D I h => wpAny_Assign_Subscript (thn (hv.run pins s σ H _ I h) fun r s1 ⟨v, H1, I1, rv, q1⟩ => thn (ho.run pins s1 σ H1 _ I1 q1) fun u s2 ⟨x, H2, I2, rx, q2⟩ =>
    thn (hi.run pins s2 σ H2 _ I2 q2) fun iv s3 ⟨y, H3, I3, ry, a, xs, ex, d, q3⟩ => ?_) hs⟩
  subst ex; cases rx
  rcases q3 with ⟨b, k, ey, ka, q3⟩ | ⟨t, ey, hk, hl, q3⟩
  · subst ey; cases ry
    exact md_set hu I3 d ka fun s4 ep I4 => ⟨σ, _, I4, q3 r ep rv⟩
  · subst ey
    obtain ⟨tok, rfl⟩ := (show ∃ t', iv = Value.str t t' from ry)
    exact md_setT hu I3 d hk hl fun s4 ep hh I4 => ⟨σ, _, I4, q3 r ep hh tok rv⟩
end
/-! by values -/
theorem RepX.mixed {K : PySem.W.Frag} {F : Hp} (w : World) : ∀ {xs : List Ent} {ds : List (PV × PV)}, RepX K F xs ds → RepM K F (xs.map (entK w)) ds
  | [], [], _ => by rw [List.map_nil, RepM]; trivial
  | e :: xs, (k', d) :: ds, h => by
    rw [RepX] at h
    obtain ⟨⟨_, h2, y, h3, h4⟩, h5⟩ := h
    rw [List.map_cons, RepM]
    exact ⟨⟨⟨.ref e.2.1, rfl, h2⟩, y, h3, h4⟩, RepX.mixed w h5⟩
  | [], _ :: _, h => by rw [RepX] at h; exact h.elim
  | _ :: _, [], h => by rw [RepX] at h; exact h.elim
theorem RepM.snoc {K : PySem.W.Frag} {F : Hp} {e : DictEntry} {k v : PV} {y z : V} (hk : RelV y e.key) (rk : Rep K F y k) (hv : RelV z e.val) (rv : Rep K F z v) : ∀ {xs : List DictEntry} {ds : List (PV × PV)}, RepM K F xs ds → RepM K F (xs ++ [e]) (ds ++ [(k, v)])
  | [], [], h => by show RepM K F [_] [_]; rw [RepM]; exact ⟨⟨⟨y, hk, rk⟩, z, hv, rv⟩, h⟩
  | e1 :: xs, (k', d) :: ds, h => by
    rw [RepM] at h
    show RepM K F (e1 :: _) ((k', d) :: _)
    rw [RepM]; exact ⟨h.1, RepM.snoc hk rk hv rv h.2⟩
  | [], _ :: _, h => by rw [RepM] at h; exact h.elim
  | _ :: _, [], h => by rw [RepM] at h; exact h.elim
theorem RepX.noText {K : PySem.W.Frag} {F : Hp} : ∀ {xs : List Ent} {ds : List (PV × PV)}, RepX K F xs ds → ∀ e ∈ xs, ∀ z, e.1 ≠ .text z
  | [], [], _, e, he, _ => nomatch he
  | x :: xs, (k', d) :: ds, h, e, he, z => by
    rw [RepX] at h
    rcases List.mem_cons.mp he with rfl | he
    · have h1 := h.1.1
      intro q
      rw [q] at h1
      cases k' with
      | tup vs =>
        rw [keyOf] at h1
        obtain ⟨ks, _, h2⟩ := Option.bind_eq_some_iff.mp h1
        split at h2 <;> exact nomatch h2
      | _ => exact nomatch h1
    · exact RepX.noText h.2 e he z
  | [], _ :: _, h, _, _, _ => by rw [RepX] at h; exact h.elim
  | _ :: _, [], h, _, _, _ => by rw [RepX] at h; exact h.elim
def putX (kvs : List (PV × PV)) (u v : PV) (N : PV → Prop) : Prop := match u with
  | .str t => kvs.length < 1000000 ∧ N (.dmx (kvs ++ [(.str t, v)]))
  | u => ∃ ks, keyOf u = some ks ∧ kvs.length < 1000000 ∧ N (.dic (putD kvs u ks v))
def sPutXH (i : Nat) (fi f : EW) : SW := fun ρ N _ => ∃ kvs, ρ[i]? = some (some (.ow (.dic kvs))) ∧ f (hide ρ) fun v => fi ρ fun u => putX kvs u v fun d => N (ρ.set i (some (.ow d)))
section
variable {X : Cx} {m : Bool} {st : Stmt} {e a : Expr} {f : EW}
theorem qs_putXH {i : Nat} {fi : EW} (h : PE X e (tE X.K f) → PE X a (tE X.K fi) → PS X st (sPutX X.w (tVar i) (tE X.K fi) (tE X.K f))) (he : PP X e f) (hi : PP X a fi) : QS X m st (sPutXH i fi f) := PS.weak (h he hi) fun D σ H ⟨B0, F0, H0, F, ρ, N, R, w, ⟨kvs, e, p⟩, q, r⟩ => by
  refine ⟨_, _, _, _, w.h, p, fun x v F1 H1 p1 ex rx => ?_⟩
  have w1 := w.backH ex
  obtain ⟨y, ey, a0, o0, rfl, _⟩ := w1.sl i _ e
  refine ⟨_, ey, _, _, _, _, w1.x, p1, fun u z F2 H2 hp ex2 rz => ?_⟩
  have w2 := w1.back ex2
  obtain ⟨y', e1, b, o, rfl, h1, h2, h3, h4⟩ := w2.sl i _ e
  rw [ey] at e1; cases e1
  unfold putX at hp
  cases o with
  | ext φ =>
    obtain ⟨xs, ep0, rfl, dk, rx0⟩ := (show ∃ xs ep, φ = RawD _ xs ep ∧ DOk _ kvs ∧ RepX X.K _ xs kvs from h4)
    refine ⟨_, xs, rfl, rx0.md w2.ext.fh dk h3, ?_⟩
    split at hp
    · rename_i t
      obtain ⟨hl, pn⟩ := hp
      rw [Rep] at rz
      subst rz
      refine .inr ⟨t, rfl, rx0.noText, by rw [rx0.len]; exact hl, fun u' ep hh tok ru => ?_⟩
      refine q _ _ _ _ pn (ex.ff.trans (w1.sc ex2)) (w2.write e ey (o' := .ext (RawM _ _ ep)) ⟨_, ep, rfl, dk.1, ?_⟩)
      exact RepM.snoc (y := .str t) (z := _) ⟨tok, rfl⟩ (by rw [Rep]) ru (Rep.mono (w1.sc ex2) _ rx) (rx0.mixed X.w)
    · obtain ⟨ks, hk, hl, pv⟩ := hp
      obtain ⟨hn, _⟩ := keyOf_nk hk
      have fz : flat u = true := flat_nk u hn
      have rz2 := w1.flatR ex2 fz rz
      obtain ⟨c, rfl, ka⟩ := rz2.key w2.ext.fh hk
      exact .inl ⟨c, ks, rfl, ka, fun u' ep ru => q _ _ _ _ pv (ex.ff.trans (w1.sc ex2)) (w2.write e ey (o' := .ext (RawD _ (storedH xs ks c u') ep)) ⟨_, ep, rfl, dk.put hk hl, rx0.put hk rz2 ru (Rep.mono (w1.sc ex2) _ rx)⟩)⟩
  | _ => exact h4.elim
end
/-! ### len, of such a dict too -/
section
variable {X : Cx} {K : PySem.W.Frag}
theorem RepM.len {F : Hp} : ∀ {xs : List DictEntry} {ds : List (PV × PV)}, RepM K F xs ds → xs.length = ds.length
  | [], [], _ => rfl
  | x :: xs, (k', d) :: ds, h => by rw [RepM] at h; rw [List.length_cons, List.length_cons, RepM.len h.2]
  | [], _ :: _, h => by rw [RepM] at h; exact h.elim
  | _ :: _, [], h => by rw [RepM] at h; exact h.elim
def cLenX : CW := fun vs k => match vs with
  | [.dmx kvs] => kvs.length ≤ 1000000 ∧ k (.int kvs.length)
  | vs => cLenK vs k
def rLenX (K : PySem.W.Frag) : List V → Hp → VK → Prop := fun xs H Q => rLenK K xs H Q ∨ ∃ a es ep, xs = [V.ref a] ∧ H a = some (.ext (RawM a es ep)) ∧ (a == sysModules) = false ∧ es.length ≤ 1000000 ∧ Q (.int (es.length : Nat)) H
theorem call_lenX : CallR X (.builtin "len") (rLenX X.K) := by
  intro pins s σ H xs us Q I r h
  rcases h with h | ⟨a, es, ep, rfl, ha, ns, hl, q⟩
  · exact call_lenK pins s σ H xs us Q I r h
  · obtain ⟨u, rfl, ru⟩ := vals1 r
    cases ru
    obtain ⟨o, arr, h1, h2, h3, h4⟩ := (show ObjOk X.prog X.w H s.heap a (.ext (RawM a es ep)) from I.hok a _ ha).1
    have hz : arr.size = es.length := by rw [← h4, Array.length_toList]
    refine PyProof.Rows.call_len_slot (n := arr.size) (s := s) ⟨o, h1, h2.1⟩ F.slot_dict_len (fun Q' hq => call_len_raw ns ⟨o, h1, h2, h3⟩ hq) (by omega) (by rw [hz]; omega) ?_
    rw [hz]
    exact ⟨.int (es.length : Nat), H, I.tok _, ⟨_, rfl⟩, q⟩
theorem cv_lenX : CallV K (rLenX K) cLenX := by
  intro xs vs B F H P Q s bx r hp q
  unfold cLenX at hp
  split at hp
  · obtain ⟨x, rfl, rx⟩ := r.one
    rw [Rep] at rx
    obtain ⟨a, es, ep, rfl, e, ns, rk⟩ := rx
    refine .inr ⟨a, es, ep, rfl, s _ _ e, ns, by rw [rk.len]; exact hp.1, ?_⟩
    rw [rk.len]
    exact q _ _ F H hp.2 (.refl s fun a h => (bx a h).2) (by rw [Rep])
  · exact .inl (cv_lenK xs vs B F H P Q s bx r hp q)
end
theorem elZ_dmx {m k n : Nat} {xs : List (PV × PV)} (h : ∀ v ∈ xs, ElZ m k v.1 ∧ ElZ m k v.2) (hl : xs.length ≤ n) : ElZ ((2 * m + 4) * n + 3) (k + 1) (.dmx xs) := by
  obtain ⟨ds, e, l, s⟩ := elsZD h
  exact ⟨.dict ds, by rw [datZ, e]; rfl, small_dic (by omega) s⟩
end KV

namespace KV
open PySem PySem.Spec PyProof.Rows L2 KGX L2H
/-! ### texts -/
section
variable {X : Cx} {K : PySem.W.Frag} {a b e : Expr} {pos : Pos} {f g : EW}
theorem line_of {n : Nat} (h : n ≤ 1000000) : n ≤ sizeLine := by rw [sizeLine_eq]; omega
/-! x + y -/
def oAddS : OW := fun v w k => ∃ i j, v = .str i ∧ w = .str j ∧ i.length + j.length ≤ 1000000 ∧ k (.str (i ++ j))
theorem opv_addS : OpV K (fun x y H Q => ∃ i j, x = .str i ∧ y = .str j ∧ i.length + j.length ≤ sizeLine ∧ Q (.str (i ++ j)) H) oAddS := by
  rintro x y v w B F H P Q s bx r1 r2 ⟨i, j, rfl, rfl, h, p⟩ q
  rw [Rep] at r1 r2
  exact ⟨i, j, r1, r2, line_of h, q _ _ F H p (.refl s fun a h => (bx a h).2) (by rw [Rep])⟩
def mAddT : OW := fun v w k => match v, w with
  | .str i, .str j => i.length + j.length ≤ 1000000 ∧ k (.str (i ++ j))
  | .int i, .int j => k (.int (i + j))
  | .tup xs, .tup ys => xs.length + ys.length ≤ 1000000 ∧ k (.tup (xs ++ ys))
  | .lst xs, .lst ys => xs.length + ys.length ≤ 1000000 ∧ k (.lst (xs ++ ys))
  | _, _ => False
theorem mp_addT (ha : PP X a f) (hb : PP X b g) : PP X (.BinOp a .Add b pos) (eBin mAddT f g) :=
  pp_op (opR_or op_add_str (opR_or op_add (opR_or op_catS op_cat))) ((opv_or opv_addS (opv_or opv_rI0 (opv_or opv_catA opf_cat.v))).weak fun v w k q => by
    unfold mAddT at q
    split at q
    · exact .inl ⟨_, _, rfl, rfl, q.1, q.2⟩
    · exact .inr (.inl ⟨_, _, rfl, rfl, trivial, q⟩)
    · exact .inr (.inr (.inl ⟨_, _, rfl, rfl, q.1, q.2⟩))
    · exact .inr (.inr (.inr ⟨_, _, rfl, rfl, q.1, q.2⟩))
    · exact q.elim) ha hb
/-! x[i] -/
def oIxZ : OW := fun v w k => ∃ z i c, v = .str z ∧ w = .int i ∧ z.length ≤ 1000000 ∧ atI z.cps.toList i = some c ∧ k (.str ⟨#[c]⟩)
theorem opv_ixZ : OpV K L2.rIxS oIxZ := by
  rintro x y v w B F H P Q s bx r1 r2 ⟨z, i, c, rfl, rfl, h, hc, p⟩ q
  rw [Rep] at r1; rw [Rep] at r2
  exact ⟨z, i, c, r1, r2, line_of h, hc, q _ _ F H p (.refl s fun a h => (bx a h).2) (by rw [Rep])⟩
def mAtT : OW := fun v w k => match v with
  | .str z => onI (fun i => ∃ c, z.length ≤ 1000000 ∧ atI z.cps.toList i = some c ∧ k (.str ⟨#[c]⟩)) w
  | .dic kvs => ∃ ks d, keyOf w = some ks ∧ lookD kvs ks = some d ∧ k d
  | v => onI (fun i => onS (fun xs => ∃ d, atI xs i = some d ∧ k d) v) w
theorem mp_atT (hu : X.A.units + 64 < cLine) (ha : PP X a f) (hb : PP X b g) (hs : PlainIx b) : PP X (.Subscript a b pos) (eBin mAtT f g) :=
  pp_ix (r := rOr L2.rIxS (rOr (KV.rIxS X.K) rIxM)) (IxR.or ix_str (IxR.or ix_seq (ix_md hu))) ((opv_or opv_ixZ (opv_or opv_ix opv_ixD)).weak fun v w k q => by
    unfold mAtT at q
    split at q
    · obtain ⟨i, rfl, c, h1, h2, h3⟩ := onI_ex q
      exact .inl ⟨_, i, c, rfl, rfl, h1, h2, h3⟩
    · obtain ⟨ks, d, h1, h2, h3⟩ := q; exact .inr (.inr ⟨_, ks, d, rfl, h1, h2, h3⟩)
    · obtain ⟨i, rfl, q⟩ := onI_ex q
      obtain ⟨xs, e, d, h1, h2⟩ := onS_ex q
      exact .inr (.inl ⟨xs, i, d, e, rfl, h1, h2⟩)) ha hb hs
/-! x[i:j], a text -/
def eSlZ (f : EW) (fl fh : OptW) : EW := fun ρ k => f ρ fun v => fl ρ fun lo => fh ρ fun hi => match v with
  | .str z => z.length ≤ 1000000 ∧ k (.str (cutS z lo hi))
  | _ => False
theorem pp_sliceZ {lo hi : Option Expr} {p2 : Pos} {fl fh : OptW} (he : PP X e f) (hl : PPo X lo fl) (hh : PPo X hi fh) : PP X (.Subscript e (.Slice lo hi none p2) pos) (eSlZ f fl fh) := PE.weak (pe_slice sl_str he hl hh) fun σ H Q ⟨B, F, ρ, P, w, p, q⟩ => by
  refine ⟨B, F, ρ, _, w, p, fun v x F1 H1 p1 e1 r1 => ⟨B, F1, ρ, _, w.ext e1, p1, fun l F2 H2 p2 e2 => ⟨B, F2, ρ, _, (w.ext e1).ext e2, p2, fun u F3 H3 p3 e3 => ?_⟩⟩⟩
  have e13 := e1.trans (e2.trans e3)
  split at p3
  · rename_i z
    rw [Rep] at r1
    exact ⟨z, r1, line_of p3.1, q _ _ F3 H3 p3.2 e13 (by rw [Rep])⟩
  · exact p3.elim
/-! len, str, int -/
def cLenT : CW := fun vs k => match vs with
  | [.str z] => z.length ≤ 1000000 ∧ k (.int z.length)
  | [.dic kvs] => k (.int kvs.length)
  | [v] => onS (fun xs => k (.int xs.length)) v
  | _ => False
def rLenT (K : PySem.W.Frag) : List V → Hp → VK → Prop := fun xs H Q => (∃ z : Str, xs = [.str z] ∧ z.length ≤ sizeLine ∧ Q (.int z.length) H) ∨ rLenZ K xs H Q
theorem call_lenT : CallR X (.builtin "len") (KV.rLenT X.K) := fun pins s σ H xs us Q I r h => h.elim (call_len_str pins s σ H xs us Q I r) (call_lenZ pins s σ H xs us Q I r)
theorem cv_lenT : CallV K (KV.rLenT K) cLenT := by
  intro xs vs B F H P Q s bx r hp q
  unfold cLenT at hp
  split at hp
  · obtain ⟨x, rfl, rx⟩ := r.one
    rw [Rep] at rx
    subst rx
    exact .inl ⟨_, rfl, line_of hp.1, q _ _ F H hp.2 (.refl s fun a h => (bx a h).2) (by rw [Rep])⟩
  · exact .inr (cv_len xs _ B F H P Q s bx r hp q)
  · rename_i v h1 h2
    refine .inr (cv_len xs [v] B F H P Q s bx r ?_ q)
    cases v <;> first
      | exact hp
      | exact (h2 _ rfl).elim
  · exact hp.elim
def cStr : CW := fun vs k => match vs with
  | [.int i] => i.natAbs.log2 < 1920 ∧ k (.str (toString i))
  | _ => False
theorem cv_str : CallV K (fun xs H Q => ∃ i : Int, xs = [.int i] ∧ i.natAbs.log2 < 1920 ∧ Q (.str (toString i)) H) cStr := by
  intro xs vs B F H P Q s bx r hp q
  unfold cStr at hp
  split at hp
  · obtain ⟨x, rfl, rx⟩ := r.one
    rw [Rep] at rx
    subst rx
    exact ⟨_, rfl, hp.1, q _ _ F H hp.2 (.refl s fun a h => (bx a h).2) (by rw [Rep])⟩
  · exact hp.elim
def mIntT : CW := fun vs k => match vs with
  | [.str a] => ∃ n, PySem.intText? a = some n ∧ a.length ≤ 640 ∧ k (.int n)
  | [.int i] => k (.int i)
  | [.bl b] => k (.int (if b = true then 1 else 0))
  | _ => False
def rIntT : List V → Hp → VK → Prop := fun xs H Q => (∃ a n, xs = [.str a] ∧ PySem.intText? a = some n ∧ a.length ≤ 640 ∧ Q (.int n) H) ∨ (∃ i, xs = [.int i] ∧ Q (.int i) H) ∨ ∃ k, xs = [.bl k] ∧ Q (.int (if k = true then 1 else 0)) H
theorem call_intT : CallR X (.type "int") rIntT := fun pins s σ H xs us Q I r h => h.elim (call_int_str pins s σ H xs us Q I r) (call_int1 pins s σ H xs us Q I r)
theorem cm_intT : CallV K rIntT mIntT := by
  intro xs vs B F H P Q s bx r hp q
  unfold mIntT at hp
  split at hp
  · obtain ⟨x, rfl, rx⟩ := r.one
    rw [Rep] at rx
    subst rx
    obtain ⟨n, h1, h2, h3⟩ := hp
    exact .inl ⟨_, n, rfl, h1, h2, q _ _ F H h3 (.refl s fun a h => (bx a h).2) (by rw [Rep])⟩
  · exact .inr (cm_int xs _ B F H P Q s bx r hp q)
  · exact .inr (cm_int xs _ B F H P Q s bx r hp q)
  · exact hp.elim
/-! x.join(..), x.split(..), x.partition(..) -/
def eJoin (f g : EW) : EW := fun ρ k => f ρ fun v => match v with
  | .str a => g ρ fun w => ∃ xs zs, seqOf w = some xs ∧ strsOf xs = some zs ∧ (zs.map (·.length)).sum + zs.length * a.length ≤ 1000000 ∧ k (.str (Txt.join a zs))
  | _ => False
variable {apos cpos : Pos}
theorem pp_join (ho : PP X a f) (he : PP X e g) (hbase : attributeBase a "join" X.env (eval a X.env) = eval a X.env := by rfl)
    (hfew : ((backTo cpos (starEach (e :: []) X.env)).all (fun x => !x.1) && (backToKw cpos (keywordEach [] X.env)).all (fun x => x.1.isSome) && decide ((e :: []).length + ([] : List Keyword).length + (if ([] : List Keyword).isEmpty then 0 else 1) < 30)) = true := by rfl)
    (hline : (apos.endLine == cpos.line) = true := by rfl) (hs : starEach (e :: []) X.env = (false, eval e X.env) :: starEach [] X.env := by rfl) (hplain : (backTo cpos (starEach [] X.env)).any (·.1) = false := by rfl) :
    PP X (.Call (.Attribute a "join" apos) [e] [] cpos) (eJoin f g) := PE.weak (pe_bm PySem.F.plainAttrs_str PySem.F.slot_str_join PySem.F.type_str_join mt_join ho (pa_cons he pa_nil hs) hbase hfew hline hs hplain) fun σ H Q ⟨B, F, ρ, P, w, p, q⟩ => by
  refine ⟨B, F, ρ, _, w, p, fun v x F1 H1 p1 e1 r1 => ?_⟩
  split at p1
  case h_2 => exact p1.elim
  rename_i z
  have w1 := w.ext e1
  rw [Rep] at r1
  subst r1
  refine ⟨rfl, B, F1, ρ, _, w1, p1, fun u y F2 H2 p2 e2 r2 => ?_⟩
  obtain ⟨xs, zs, h1, h2, h3, h4⟩ := p2
  obtain ⟨c, us, rfl, sq, ru⟩ := r2.seq (w1.ext e2).fh h1
  refine ⟨z, c, zs, rfl, rfl, ?_, by omega, q _ _ F2 H2 h4 (e1.trans e2) (by rw [Rep])⟩
  rw [← ru.strs h2]; exact sq
def strL (zs : List Str) : PV := .lst (zs.map .str)
def eSplit (f g : EW) : EW := fun ρ k => f ρ fun v => match v with
  | .str a => g ρ fun w => match w with
    | .str b => (b.length == 0) = false ∧ a.length ≤ 900000 ∧ k (.lst ((Txt.split a b).map .str))
    | _ => False
  | _ => False
theorem pp_split (ho : PP X a f) (he : PP X e g) (hbase : attributeBase a "split" X.env (eval a X.env) = eval a X.env := by rfl)
    (hfew : ((backTo cpos (starEach (e :: []) X.env)).all (fun x => !x.1) && (backToKw cpos (keywordEach [] X.env)).all (fun x => x.1.isSome) && decide ((e :: []).length + ([] : List Keyword).length + (if ([] : List Keyword).isEmpty then 0 else 1) < 30)) = true := by rfl)
    (hline : (apos.endLine == cpos.line) = true := by rfl) (hs : starEach (e :: []) X.env = (false, eval e X.env) :: starEach [] X.env := by rfl) (hplain : (backTo cpos (starEach [] X.env)).any (·.1) = false := by rfl) :
    PP X (.Call (.Attribute a "split" apos) [e] [] cpos) (eSplit f g) := PE.weak (pe_bm PySem.F.plainAttrs_str PySem.F.slot_str_split PySem.F.type_str_split mt_split ho (pa_cons he pa_nil hs) hbase hfew hline hs hplain) fun σ H Q ⟨B, F, ρ, P, w, p, q⟩ => by
  refine ⟨B, F, ρ, _, w, p, fun v x F1 H1 p1 e1 r1 => ?_⟩
  split at p1
  case h_2 => exact p1.elim
  rename_i z
  have w1 := w.ext e1
  rw [Rep] at r1
  subst r1
  refine ⟨rfl, B, F1, ρ, _, w1, p1, fun u y F2 H2 p2 e2 r2 => ?_⟩
  split at p2
  case h_2 => exact p2.elim
  rename_i z2
  rw [Rep] at r2
  subst r2
  obtain ⟨h1, h2, h3⟩ := p2
  have w2 := w1.ext e2
  refine ⟨z, z2, rfl, rfl, h1, by rw [sizeLine_eq]; omega, fun d hd => ?_⟩
  have ex : Ext B F2 H2 (upd F2 d (.lst ((Txt.split z z2).map V.str))) (upd H2 d (.lst ((Txt.split z z2).map V.str))) := .laid w2.fh (fun a h => (w2.bx a h).2) hd
  refine q _ _ _ _ h3 ((e1.trans e2).trans ex) ?_
  rw [Rep]
  exact ⟨d, _, rfl, upd_same, reps_str _⟩
end
/-! enumerate(a list) -/
section
variable {X : Cx} {e : Expr} {f : EW} {K : PySem.W.Frag} {F : Hp}
def wEnumL (f : EW) : AW := fun ρ k => f ρ fun v => match v with
  | .lst xs => k (enumP xs)
  | _ => False
theorem itv_enumL {a : Addr} {us : List V} {xs : List PV} (h1 : F a = some (.lst us)) (r1 : Reps K F us xs) : ItV K (Ite K a) F (enumP xs) := by
  have l1 := r1.len
  have sa : ∀ H, Same F H → SqL K H a us := fun H s => .inl (.inl (s _ _ h1))
  have le : (enumP xs).length = xs.length := by unfold enumP; rw [List.length_mapIdx]
  refine ⟨fun i H s hi => ?_, fun H s => ?_, fun i H x H' s hi y => ?_⟩
  · rw [le] at hi
    exact ⟨us, us[i]'(by omega), sa H s, List.getElem?_eq_getElem _⟩
  · rw [le]
    exact ⟨us, sa H s, by omega⟩
  · obtain ⟨T, u, rfl, hT, rfl, g1⟩ := y
    have e1 := g1 us (sa H s)
    obtain ⟨d1, f1, q1⟩ := r1.to e1
    refine ⟨.cst [.int (i : Nat), d1], ?_, .inr ⟨T, [.int (i : Nat), u], [.int (i : Nat), d1], rfl, hT, rfl, rfl, Reps.cons (by rw [Rep]) (Reps.cons q1 Reps.nil)⟩⟩
    unfold enumP
    rw [List.getElem?_mapIdx, f1]; rfl
theorem qi_enumL {p pos tpos : Pos} {elts : List Expr} {kk : Nat} (hg : Gl X "enumerate") (hm : X.mg "enumerate" = none) (ha : PP X e f) (hs : starEach [e] X.env = (false, eval e X.env) :: starEach [] X.env := by rfl) (hs2 : starEach [e] X.env = [(false, eval e X.env)] := by rfl) :
    QI X (.Tuple elts kk tpos) (.Call (.Name "enumerate" p) [e] [] pos) (wEnumL f) := PI.weak (pi_enum hg hm (pa_cons ha pa_nil hs) hs2) fun σ H R ⟨B, F, ρ, P, w, p, q⟩ =>
  ⟨B, F, ρ, _, w, p, fun v x F1 H1 p1 ex rx => by
    split at p1
    case h_2 => exact p1.elim
    rw [Rep] at rx
    obtain ⟨a, us, rfl, ea, ra⟩ := rx
    exact ⟨a, us, rfl, .inl (.inl (ex.fh _ _ ea)), q _ _ F1 H1 p1 ex (itv_enumL ea ra)⟩⟩
end
end KV

namespace KV
open PySem PySem.Spec PyProof.Rows L2 KGX L2H
/-! ### an exception that keeps what it is made of: super().__init__('..') and self.at = at -/
abbrev nfN : List (Str × NameKind) := [("self", .local), ("at", .local), ("__class__", .free), ("super", .globalImplicit)]
abbrev nfS : Scope := { kind := .function, names := nfN, isGenerator := false, isCoroutine := false, more := [] }
abbrev nfA (p q : Pos) : Arguments := { posonlyargs := [], args := [{ arg := "self", annotation := none, pos := p }, { arg := "at", annotation := none, pos := q }], vararg := none, kwonlyargs := [], kw_defaults := [], kwarg := none, defaults := [] }
abbrev nf1 (t : Str) (j : Nat) (p0 p1 p2 p3 p4 p5 : Pos) : Stmt := .Expr (.Call (.Attribute (.Call (.Name "super" p0) [] [] p1) "__init__" p2) [.Constant (.str t) j p3] [] p4) p5
abbrev nf2 (p6 p7 p8 p9 : Pos) : Stmt := .Assign [.Attribute (.Name "self" p6) "at" p7] (.Name "at" p8) p9
/-- what the written part says of the class at C, made by the def at f -/
structure NfC (P : Program) (K : PySem.W.Frag) (C f cc cda : Addr) (t : Str) (j : Nat) (p q p0 p1 p2 p3 p4 p5 p6 p7 p8 p9 : Pos) (fd : FuncData) : Prop where
  oex : OexC K C
  no : PySem.W.findIn K (.ref C) "at" = some none
  fn : ∃ (qual : Str) (oc : Value) (od : Option Addr) (kV doc pm : Value) (an : Option Addr) (ct : Value) (osl : Array (Option Value)), fd = PySem.W.ksFn "__init__" qual (nfA p q) [nf1 t j p0 p1 p2 p3 p4 p5, nf2 p6 p7 p8 p9] nfS .none kV doc pm an (.ref cda) ct cc ∧ K.lookup f = some ⟨oc, od, .func fd, osl⟩ ∧ PySem.W.codeIn K (.ref cda) qual = true
  cl : ∃ (cl : Value) (cld : Option Addr) (csl : Array (Option Value)), K.lookup cc = some ⟨cl, cld, .cell (some (.ref C)), csl⟩
  cd : ∃ (vs : Array Value) (ccl : Value) (cdd : Option Addr) (ccs : Array (Option Value)) (file : Str) (tf : Tok), K.lookup cda = some ⟨ccl, cdd, .fields vs, ccs⟩ ∧ vs[2]? = some (.str file tf) ∧ ((P.main.file : Str) == file) = true
  cls : ∃ cdD, PySem.W.clsIn K C = some cdD
  sub : PySem.W.mroIn K C (.ref C) = some true
  nosup : PySem.W.nsIn K mainGlobals "super" = some none
  top : (P.main.scope.names.lookup ("super" : Str)).isSome = false
  opq : PySem.W.nsIn K cStatics "thirdparty.any" = some none
  sup : PySem.W.ks_superIn K C C "__init__" = some (some (.builtin "ValueError.__init__"))
  isV : PySem.W.subIn K (.ref C) (.type "ValueError") = some true
  mc : ∃ pl : Env → Sem Bool, ∀ env : Env, eval (.Call (.Attribute (.Call (.Name "super" p0) [] [] p1) "__init__" p2) [.Constant (.str t) j p3] [] p4) env = (do
      let ov ← attributeBase (.Call (.Name "super" p0) [] [] p1) "__init__" env (eval (.Call (.Name "super" p0) [] [] p1) env)
      standAt p2.atName
      let (f, first) ← holding [ov] (getMethod ov "__init__" (pl env))
      callWith p4 f first (backTo p4 (starEach [.Constant (.str t) j p3] env)) [])
  ini : PySem.W.excInitIn K C veB "ValueError.__new__" = true
def spNf (K : PySem.W.Frag) (C : Addr) : Sp := fun vs H Q _ => ∃ a v, vs = [.ref a, v] ∧ H a = some (exo a C none) ∧ ∀ dx, H dx = none → dx ≠ a → Q .non (upd (upd H dx (exd dx [("at", v)])) a (exo a C (some dx)))
def cxN (P : Program) (w : World) (K : PySem.W.Frag) (mg : Str → Option Value) (base : Heap) (env : Env) (A : Around) (outer : List Env) (s : Shared) (H : Hp) (xe : Value → Shared → Prop) : Cx where
  prog := P
  w := w
  K := K
  mg := mg
  base := base
  A := A.deeper env
  N := ["self", "at"]
  s_0 := s
  H_0 := H
  env := env
  outer := outer
  stack := env :: outer
  ex := []
  calm := true
  fn := fun _ => false
  pn := []
  xe := xe
theorem nf_free {x : Str} (h : nfN.lookup x = some .cell ∨ nfN.lookup x = some .free) : x = "__class__" := by
  unfold nfN at h
  simp only [List.lookup] at h
  by_cases h1 : (x == Str.ofString "self") = true
  · simp [h1] at h
  · by_cases h2 : (x == Str.ofString "at") = true
    · simp [h1, h2] at h
    · by_cases h3 : (x == Str.ofString "__class__") = true
      · exact eq_of_beq h3
      · by_cases h4 : (x == Str.ofString "super") = true
        · simp [h1, h2, h3, h4] at h
        · simp [h1, h2, h3, h4] at h
theorem cls_look {x : Str} {cc c : Addr} (h : ([(Str.ofString "__class__", cc)] : List (Str × Addr)).lookup x = some c) : x = "__class__" ∧ c = cc := by
  simp only [List.lookup] at h
  by_cases h1 : (x == Str.ofString "__class__") = true
  · rw [h1] at h; exact ⟨eq_of_beq h1, (Option.some.inj h).symm⟩
  · simp [h1] at h
section
variable {P : Program} {w : World} {K : PySem.W.Frag} {mg : Str → Option Value} {base : Heap} {CX : CXT} {C f cc cda : Addr} {t : Str} {j : Nat} {p q p0 p1 p2 p3 p4 p5 p6 p7 p8 p9 : Pos} {fd : FuncData}
theorem nf_ok {k : Nat} (N : NfC P K C f cc cda t j p q p0 p1 p2 p3 p4 p5 p6 p7 p8 p9 fd) : FnOk P w K mg base CX (k + 1) f fd ["self", "at"] (spNf K C) := by
  obtain ⟨qual, oc, od, kV, doc, pm, an, ct, osl, rfl, lk, hcd⟩ := N.fn
  obtain ⟨cl, cld, csl, hcell⟩ := N.cl
  obtain ⟨vsC, ccl, cdd, ccs, file, tf, hcode, hvs, hfile⟩ := N.cd
  obtain ⟨cdD, hD⟩ := N.cls
  refine ⟨fun vs H Q E h => by obtain ⟨a, v, e, _⟩ := h; rw [e]; rfl, fun A outer s H args us vs Q E hr e0 hb r hsp => ?_⟩
  obtain ⟨a, v, rfl, ea, hq⟩ := hsp
  cases r with
  | cons r1 r =>
  cases r with
  | cons r2 r =>
  cases r
  rename_i u1 u2
  obtain rfl : u1 = Value.ref a := r1
  have KX : K.In s.heap := e0.mod.kin.keeps fun b o e => (e0.bs b o e).1
  have lim : s.heap.NoLimit := e0.mod.nolimit.keeps fun b o e => (e0.bs b o e).1
  refine ks_codeAny_call_defAt (fd := PySem.W.ksFn "__init__" qual (nfA p q) [nf1 t j p0 p1 p2 p3 p4 p5, nf2 p6 p7 p8 p9] nfS .none kV doc pm an (.ref cda) ct cc) (body := [nf1 t j p0 p1 p2 p3 p4 p5, nf2 p6 p7 p8 p9])
    (binds := [("self", .ref a), ("at", u2)]) hr.depth (KX _ _ lk) rfl lim (PySem.W.codeRec_of KX hcd) rfl hb (show ∀ x ∈ nfN, x.2 ≠ .cell by decide) (fun x hx => ?_) (fun h₁ hns hk₁ => ?_)
  · rcases List.mem_cons.mp hx with rfl | hx
    · rfl
    · rw [List.mem_singleton.mp hx]; rfl
  obtain ⟨t1, hget⟩ := exo_at e0.hok ea
  have F : Fr (PySem.W.hideAll s.heap [a]) s.heap.objs.size h₁ (fun y => ([("self", Value.ref a), ("at", u2)] : List (Str × Value)).reverse.lookup y) :=
    ⟨hns, fun b o e => hk₁ b o (PySem.W.of_hideAll _ e), Nat.le_of_eq (PySem.W.hideAll_size _ _)⟩
  have notK : ∀ b o, K.lookup b = some o → b ≠ a := fun b o e z => by
    have := (e0.bs b o (e0.mod.kin b o e)).2
    rw [z, ea] at this; exact nomatch this
  have X₀ : K.In (PySem.W.hideAll s.heap [a]) := fun b o e => PySem.W.hideAll_get _ (KX b o e) (fun z => notK b o e (List.mem_singleton.mp z))
  have Nw : News (PySem.W.hideAll s.heap [a]) s.heap.objs.size h₁ [(a, PySem.W.excObj C t1 none .none)] := fun z hz => by
    rw [List.mem_singleton] at hz
    subst hz
    exact ⟨hk₁ _ _ hget, Nat.ne_of_lt (Heap.lt_size hget), PySem.W.hideAll_none _ List.mem_cons_self⟩
  have X₁ : K.In h₁ := KX.keeps hk₁
  have ib : PySem.W.InstAt h₁ a (PySem.W.excObj C t1 none .none) C none := ⟨hk₁ _ _ hget, rfl, rfl, trivial⟩
  obtain ⟨pl, mc⟩ := N.mc
  refine ks_wpAt_execs_cons (ks_wpAt_Expr_any (ks_wpAt_MethodCall (pl := pl _) ?_ (mc _)))
  obtain ⟨oD, hD1, hD2⟩ : ∃ oD, h₁.get? C = some oD ∧ oD.data = .cls cdD := by
    unfold PySem.W.clsIn at hD
    split at hD
    · rename_i c d cd' sl ho
      cases hD
      exact ⟨_, X₁ _ _ ho, rfl⟩
    · cases hD
  obtain ⟨mb, hmb, hbb⟩ := e0.mod.blt
  have hk₂ : ∀ b o, base.get? b = some o → h₁.get? b = some o := fun b o e => hk₁ b o (e0.bs b o e).1
  refine ks_wpAt_super_base (attr := "__init__") rfl rfl rfl rfl (X₁ _ _ lk) rfl rfl rfl (X₁ _ _ hcode) rfl hvs hfile N.top ?_
  refine PySem.W.ks_loadName_global rfl rfl (Calls.loadGlobal_builtin (e0.mod.glob.keeps hk₂) (PySem.W.mg_none_of e0.mod.kin e0.mod.glob N.nosup) (hmb.keeps hk₂) ((hbb _ (by decide)).trans (by decide +kernel)) ⟨rfl, ?_⟩)
  refine wpAny_loadName_free rfl rfl rfl ⟨_, X₁ _ _ hcell, rfl⟩ ?_
  refine wpAny_loadName_local rfl rfl F.ns (v := .ref a) rfl ?_
  refine ks_wpAny_isType_cls hD1 hD2 ⟨rfl, ?_⟩
  refine ks_wpAny_call_super hD1 hD2 ib.at_ ib.cls (fun c e => nomatch e) (PySem.W.looks_mroIn X₁ N.sub) (fun h' e k => ?_)
  obtain ⟨F1, N1, l1⟩ := PySem.W.ks_newsPush (s := ⟨h₁, s.gens, s.drawn, s.toks + 2, s.os⟩) (q := h₁.objs.size) F Nw rfl e k
  refine PySem.W.kxs_method PySem.W.kxs_ValueError F1 X₀ N1 List.mem_cons_self (PySem.W.InstAt.of_exc0 N1 (.tail _ (.head _))) N.opq N.sup N.isV rfl (fun q2 h2 F2 N2 l2 => ?_)
  refine PySem.W.kxs_callWith1 N2 List.mem_cons_self ?_
  show wpAny _ _ (spliced [(false, eval (.Constant (.str t) j p3) _)]) _ _ _
  refine Calls.spliced_cons (Calls.Constant_str (Calls.spliced_nil ⟨PySem.W.kxs_at N2 List.mem_cons_self, ?_⟩))
  have ne1 : q2 ≠ a := fun z => Nat.lt_irrefl a (by have := l2 (a, PySem.W.excObj C t1 none .none) (.tail _ (.head _)); rw [z] at this; exact this)
  have ne2 : h₁.objs.size ≠ a := fun z => absurd (Heap.lt_size (hk₁ _ _ hget)) (by rw [z]; exact Nat.lt_irrefl _)
  refine PySem.W.kxs_call (nw := fun o' => (q2, PySem.W.kxs_mw "ValueError.__init__" a) :: (h₁.objs.size, PySem.W.ks_superObj C a C) :: (a, o') :: []) F2 X₀ N2 PySem.F.excBase_ValueError N.ini List.mem_cons_self (.tail ne1 (.tail ne2 (.head fun p hp => nomatch hp))) (by show 1 ≤ sizeLine; decide) (fun t' h4 F4 N4 l4 => ?_)
  have kept : ∀ b o, b ≠ a → s.heap.get? b = some o → h4.get? b = some o := fun b o nb e => F4.keep b o (PySem.W.hideAll_get _ e fun z => nb (List.mem_singleton.mp z))
  have at4 : h4.get? a = some (PySem.W.excObj C t' none .none) := (N4 (a, PySem.W.excObj C t' none .none) (.tail _ (.tail _ (.tail _ (.head _))))).1
  have eu : upd H a (exo a C none) = H := by
    funext b
    by_cases hb : b = a
    · rw [hb, upd_same, ea]
    · rw [upd_ne hb]
  have muA : Mut (H a) := by rw [ea]; exact True.intro
  have hok4 : HOk P w H h4 := by
    have := e0.hok.write (h' := h4) (e := a) muA (.inl rfl) kept ⟨_, at4⟩ (exo_ok at4)
    rw [eu] at this; exact this
  have un4 : Un (frs outer) [] H H s.heap h4 := by
    have := Un.write (fs := frs outer) (ex := []) (h := s.heap) (h' := h4) (o := exo a C none) muA (.inl rfl) kept ⟨_, at4⟩
    rw [eu] at this; exact this
  refine wpAt_of_wpAny ?_
  show wpAny _ _ (execs [nf2 p6 p7 p8 p9] _) _ _ _
  have I : ∀ xe, Inv (cxN P w K mg base (callEnv (PySem.W.ksFn "__init__" qual (nfA p q) [nf1 t j p0 p1 p2 p3 p4 p5, nf2 p6 p7 p8 p9] nfS .none kV doc pm an (.ref cda) ct cc) s.heap.objs.size f) A outer s H xe) [] [some (.ref a), some v] H ⟨h4, s.gens, s.drawn, s.toks + 2 + 1 + 1, s.os⟩ := fun xe => by
    have noA : ∀ b : Addr, b ∉ ([] : List Addr) := fun b z => nomatch z
    refine ⟨⟨e0.mod, rfl, rfl, rfl, Nat.le_refl _, fun y z c h1 h2 => ?_, fun y hy => ?_, (fun y c hf => nomatch hf), fun _ => hr.hd, Around.frames_deeper e0.frames, .inr ⟨rfl, rfl⟩, (fun b z => nomatch z), e0.bs, e0.bsz, fun b _ _ => noA b, (fun b z => nomatch z), e0.funs, e0.frf⟩,
      rfl, e0.bare, un4, ⟨_, F4.ns, fun i y v' h1 h2 h3 => ?_⟩, fun y c h => ?_, e0.hok.fresh (Nat.le_refl _), fun y c h => ?_, (fun p hp => nomatch hp), hok4, rfl⟩
    · exact (cls_look h1).1.trans (cls_look h2).1.symm
    · have := nf_free hy
      subst this
      exact ⟨cc, rfl⟩
    · match i with
      | 0 =>
        cases h1; cases h2
        exact ⟨.ref a, rfl, .inl ⟨rfl, rfl⟩⟩
      | 1 =>
        cases h1; cases h2
        exact ⟨u2, r2, .inl ⟨rfl, rfl⟩⟩
      | _ + 2 => exact nomatch h1
    · obtain ⟨_, rfl⟩ := cls_look h
      exact ⟨some (.ref C), _, kept _ _ (notK _ _ hcell) (KX _ _ hcell), rfl⟩
    · obtain ⟨_, rfl⟩ := cls_look h
      exact (e0.bs _ _ (e0.mod.kin _ _ hcell)).2
  have J := I (fun e s' => wpAny (model P w) (A.deeper (callEnv (PySem.W.ksFn "__init__" qual (nfA p q) [nf1 t j p0 p1 p2 p3 p4 p5, nf2 p6 p7 p8 p9] nfS .none kV doc pm an (.ref cda) ct cc) s.heap.objs.size f)) (leaving (callEnv (PySem.W.ksFn "__init__" qual (nfA p q) [nf1 t j p0 p1 p2 p3 p4 p5, nf2 p6 p7 p8 p9] nfS .none kV doc pm an (.ref cda) ct cc) s.heap.objs.size f) e) (fun _ s'' => CX outer H s E e s'') (fun e' s'' => CX outer H s E e' s'') s')
  have st2 := (pss_one (ps_ost (X := cxN P w K mg base (callEnv (PySem.W.ksFn "__init__" qual (nfA p q) [nf1 t j p0 p1 p2 p3 p4 p5, nf2 p6 p7 p8 p9] nfS .none kV doc pm an (.ref cda) ct cc) s.heap.objs.size f) A outer s H (fun e s' => wpAny (model P w) (A.deeper (callEnv (PySem.W.ksFn "__init__" qual (nfA p q) [nf1 t j p0 p1 p2 p3 p4 p5, nf2 p6 p7 p8 p9] nfS .none kV doc pm an (.ref cda) ct cc) s.heap.objs.size f)) (leaving (callEnv (PySem.W.ksFn "__init__" qual (nfA p q) [nf1 t j p0 p1 p2 p3 p4 p5, nf2 p6 p7 p8 p9] nfS .none kV doc pm an (.ref cda) ct cc) s.heap.objs.size f) e) (fun _ s'' => CX outer H s E e s'') (fun e' s'' => CX outer H s E e' s'') s'))
    (o := .Name "self" p6) (e := .Name "at" p8) (f := "at") (p' := p7) (pos := p9) (pe_var (x := "self") (i := 0) rfl (Or.inl rfl)) (pe_var (x := "at") (i := 1) rfl (Or.inl rfl)))).run [] _ _ _ { nx := fun _ H' => Q .non H', rt := Q } J
    ⟨_, rfl, _, rfl, a, C, rfl, N.oex, N.no, .inl ⟨ea, fun dx hd hn => hq dx hd hn⟩⟩
  refine wpAny_mono st2 (fun fl s' hs => ?_) (fun _ _ z => z)
  cases fl with
  | next =>
    obtain ⟨σ', H', J', q'⟩ := hs
    exact ⟨.non, H', J'.os, J'.bare, J'.base, J'.hok, rfl, q'⟩
  | ret u =>
    obtain ⟨v', σ', H', J', rv, q'⟩ := hs
    exact ⟨v', H', J'.os, J'.bare, J'.base, J'.hok, rv, q'⟩
  | brk => obtain ⟨_, _, _, z⟩ := hs; exact z.elim
  | cont => obtain ⟨_, _, _, z⟩ := hs; exact z.elim
end
end KV

namespace KV
open PySem PySem.Spec PyProof.Rows L2 KGX L2H
/-! ### raise C(e), C's exceptions keep what they are made of -/
section
variable {X : Cx} {CX : CXT} {x : Str} {e : Expr} {ta : TA} {p pos : Pos} {C fI : Addr} {k : Nat} {fd : FuncData} {ps : List Str} {sp : Sp}
theorem pmkN_oex (T : OexC X.K C) (iC : PySem.W.findIn X.K (.ref C) "__init__" = some (some (.ref fI))) (tI : PySem.W.typeIn X.K (.ref fI) = some (.type "function"))
    (F1 : FnOk X.prog X.w X.K X.mg X.base CX k fI fd ps sp) (hr : Room (k + 1) X.A) (hb : Binds X.K fd ps []) (hx : Passes CX X (fun _ _ _ => False)) (hg : Gl X x) (hm : X.mg x = some (.ref C)) (ha : PA X (e :: []) ta)
    (hdb : (x == ("__debug__" : Str)) = false := by decide) (he : starEach (e :: []) X.env = (false, eval e X.env) :: starEach [] X.env := by rfl) (hpl : (backTo pos (starEach [] X.env)).any (·.1) = false := by rfl) :
    L2N.PMk X (.Call (.Name x p) (e :: []) [] pos) (tMkO C sp [] ta) := fun pins s σ H Q I h => by
  obtain ⟨cn, cq, cN, cb, cm, c1, c2, c3, c4, c5, z0, z1, z2, z3, z5, look, refs⟩ := T.cls
  refine wpAny_Call_Name_kw (ld_glob I hg hm (PySem.W.callWith_K (h₀ := X.base) I.ok.mod.kin T.kC (thn (ha.run pos pins s σ H _ I h) fun us sB ⟨vs, HB, IB, rB, hz, qB⟩ => ⟨IB.kIn, ?_⟩) he hpl) hdb)
  obtain ⟨hB, gB, dB, tB, oB⟩ := sB
  let a := hB.objs.size + 1
  have big : hB.objs.size ≤ a := Nat.le_succ _
  have fresh : HB a = none := IB.hok.fresh big
  have go := qB a fresh
  rw [List.append_nil] at go
  let hN := (hB.push (PySem.W.kdv_tup us)).push (PySem.HandSPX.excO C hB.objs.size)
  have keep : ∀ b o, hB.get? b = some o → hN.get? b = some o := fun b o q => Heap.get?_push_of_some _ (Heap.get?_push_of_some _ q)
  have there : hN.get? a = some (PySem.HandSPX.excO C hB.objs.size) := by show ((hB.push _).push _).get? (hB.objs.size + 1) = _; heap_get
  have IN : Inv X pins σ (upd HB a (exo a C none)) ⟨hN, gB, dB, tB, oB⟩ := IB.laid (t' := tB) (a := a) (o := exo a C none) (h' := hN) keep big (exo_ok there)
  have rN : Vals (V.ref a :: vs) (Value.ref a :: us) := .cons rfl rB
  have lenN : (Value.ref a :: us ++ []).length = ps.length := by
    rw [List.append_nil, ← F1.len _ _ _ _ go]
    exact rN.length.symm
  have few : us.length ≤ sizeLine := by
    rw [← Paired.length rB, sizeLine_eq]
    omega
  have bN := hb _ (Value.ref a :: us) IN.kIn lenN
  rw [List.append_nil] at bN
  refine wpAny_call (PySem.HandSPX.call_own PySem.F.excBase_ValueError (fun Y => PySem.HandSPX.refsVE_contains Y cm refs) (IB.kIn _ _ look) (PySem.W.looks_findIn IB.kIn iC) (fun self => PySem.W.bind_fn IB.kIn self tI) few ?_)
  refine codeAny_mono (F1.run _ X.stack _ _ ⟨Value.ref a :: us, []⟩ (Value.ref a :: us) _ _ (fun _ _ _ => False) (hr.make C us []) (IN.env0.make C us []) bN rN go) fun r sE hE => ?_
  match r, hE with
  | .error er, hE => exact hx pins σ _ _ er sE IN hE
  | .ok (.ret u), ⟨v, HE, osE, bareE, unE, okE, rv, ev, d, fs, ea, ed, dn, q2⟩ =>
    subst ev
    obtain ⟨hE', gE, dE, tE', oE⟩ := sE
    obtain ⟨t0, G, J, kG, gG, oG, nG⟩ := mk_end0 (d2 := dE) (t2 := tE') IB big keep unE okE osE bareE ea ed dn
    refine ⟨rv, a, _, _, ⟨G, gE, dE, tE', oE⟩, _, .ref C, some d, rfl, J, kG, gG, oG, ⟨rfl, rfl, fun ws hw => ?_⟩, rfl, rfl, nG, rfl, bareE, raises_own T.exC T.tyC, q2⟩
    cases hw
    rfl
  | .ok .next, hE => exact False.elim hE
  | .ok .brk, hE => exact False.elim hE
  | .ok .cont, hE => exact False.elim hE
end
/-- a class whose exceptions keep what they are made of -/
structure NfX (P : Program) (K : PySem.W.Frag) (mg : Str → Option Value) (x : Str) (C f cc cda : Addr) (t : Str) (j : Nat) (p q p0 p1 p2 p3 p4 p5 p6 p7 p8 p9 : Pos) (fd : FuncData) : Prop where
  n : NfC P K C f cc cda t j p q p0 p1 p2 p3 p4 p5 p6 p7 p8 p9 fd
  g : mg x = some (.ref C)
  i : PySem.W.findIn K (.ref C) "__init__" = some (some (.ref f))
  t : PySem.W.typeIn K (.ref f) = some (.type "function")
  b : Binds K fd ["self", "at"] []
def sRaiseF (c : Str) (g : EW) : SW := fun ρ _ R => g ρ (onI fun i => R (.exc c (some i)))
section
variable {X : Cx} {W : WX} {m : Bool} {x : Str} {e : Expr} {g : EW} {C f cc cda : Addr} {t : Str} {j : Nat} {p q p0 p1 p2 p3 p4 p5 p6 p7 p8 p9 pn pos2 pos : Pos} {fd : FuncData} {k : Nat}
theorem qx_raiseF (hc : X.calm = true) (tk : L2N.Takes X W) (E : NfX X.prog X.K X.mg x C f cc cda t j p q p0 p1 p2 p3 p4 p5 p6 p7 p8 p9 fd) (hr : Room (k + 2) X.A) (hg : Gl X x) (he : PP X e g) (hs : starEach [e] X.env = (false, eval e X.env) :: starEach [] X.env := by rfl) (hpl : (backTo pos2 (starEach [] X.env)).any (·.1) = false := by rfl)
    (hdb : (x == ("__debug__" : Str)) = false := by decide) :
    QX X W m (.Raise (some (.Call (.Name x pn) [e] [] pos2)) none pos) (sRaiseF x g) :=
  PS.weak (L2N.ps_raise hc tk (pmkN_oex (CX := CX0) E.n.oex E.i E.t (nf_ok (k := k) E.n) hr E.b pass0 hg E.g (pa_cons he pa_nil hs) hdb hs hpl)) fun D σ H ⟨B0, F0, H0, F, ρ, N, R, w, hp, hq, hr', z⟩ => by
  refine ⟨_, _, _, _, w.x, hp, fun u y F1 H1 p1 e1 r1 => ?_⟩
  obtain ⟨i, rfl, p2⟩ := onI_ex p1
  rw [Rep] at r1
  subst r1
  refine ⟨by show 1 ≤ 1000; decide, fun a ha => ⟨a, .int i, rfl, upd_same, fun dx hd hn => ⟨rfl, dx, [("at", .int i)], upd_same, by rw [upd_ne hn, upd_same], ?_, ?_⟩⟩⟩
  · rw [upd_ne hn] at hd; exact hd
  · have hd1 : H1 dx = none := by rw [upd_ne hn] at hd; exact hd
    have eH : upd (del (upd (upd (upd H1 a (exo a C none)) dx (exd dx [("at", .int i)])) a (exo a C (some dx))) a) dx (.xd [("at", .int i)]) = upd H1 dx (.xd [("at", .int i)]) := by
      funext b
      by_cases h1 : b = dx
      · subst h1; rw [upd_same, upd_same]
      · rw [upd_ne h1, upd_ne h1]
        by_cases h2 : b = a
        · subst h2; rw [del_same, ha]
        · rw [del_ne h2, upd_ne h2, upd_ne h1, upd_ne h2]
    rw [eH]
    have ex : Ext B0 F0 H0 F1 (upd H1 dx (.xd [("at", .int i)])) := by
      have e0 := w.extR e1
      exact ⟨e0.ff, fun b o e => same_new hd1 b o (e0.fh b o e), e0.new, fun b o nb e => same_new hd1 b o (e0.keep b o nb e), fun b hb => by obtain ⟨n, e⟩ := e0.box b hb; exact ⟨n, same_new hd1 b _ e⟩⟩
    exact z σ x (some i) C (some dx) F1 _ p2 E.g ex ⟨dx, rfl, upd_same⟩
end
end KV

namespace KV
open PySem PySem.Spec PyProof.Rows L2 KGX L2H
/-! ### looking at a caught exception that keeps something -/
def KitD (K : PySem.W.Frag) (p : Addr × Obj) (u : Value) (b : Bool) : Prop := ∃ C, (∀ od, PySem.W.KitX K (.ref p.1) (.ref C) (fun h => PySem.W.InstAt h p.1 p.2 C od)) ∧ p.2.cls = .ref C ∧ PySem.W.notCls p.2 = true ∧ PySem.W.kitOne K (.ref C) u = some b
def DOkX (p : Addr × Obj) (H : Hp) : Prop := ∃ dx fs, p.2.dict = some dx ∧ H dx = some (.xd fs)
theorem DOkX.mono {p : Addr × Obj} {H H' : Hp} (d : DOkX p H) (s : Same H H') : DOkX p H' := by
  obtain ⟨dx, fs, h1, h2⟩ := d
  exact ⟨dx, fs, h1, s _ _ h2⟩
def rIsD (K : PySem.W.Frag) (p : Addr × Obj) : List V → Hp → VK → Prop := fun xs H Q => ∃ c u b, xs = [.ref p.1, c] ∧ ClsV c u ∧ KitD K p u b ∧ DOkX p H ∧ Q (.bl b) H
theorem call_isD {X : Cx} {p : Addr × Obj} (hp : p ∈ X.pn) : CallR X (.builtin "isinstance") (rIsD X.K p) := by
  rintro pins s σ H xs us Q I r ⟨c, u, b, rfl, k, ⟨C, kx, h1, h3, e⟩, ⟨dx, fs, hd, hx⟩, q⟩
  obtain ⟨u1, u2, rfl, r1, r2⟩ := vals2 r
  have e2 := k.eq r2
  subst e2
  cases r1
  have ok : ObjOk X.prog X.w H s.heap dx (.xd fs) := I.hok dx _ hx
  obtain ⟨mA, hns, _⟩ := ok
  obtain ⟨od, ho, hl⟩ := lookIn_ns hns
  exact PySem.W.kia_one (kx (some od)) I.kIn ⟨(I.pin p (List.mem_append_left _ hp)).1, h1, h3, by rw [hd]; exact ho⟩ e (fun z => nomatch z) fun tk => ⟨.bl b, H, I.tok tk, rfl, q⟩
structure ExPD (K : PySem.W.Frag) (p : Addr × Obj) (G : Addr) (cs : List Addr) (n : Nat) : Prop where
  g : KitD K p (.ref G) true
  v : KitD K p (.type "ValueError") true
  c : ∀ (j : Nat) (C : Addr), cs[j]? = some C → KitD K p (.ref C) (decide (n = j))
def spMkD (K : PySem.W.Frag) (G : Addr) (cs : List Addr) : SpH := fun p vs H Q => ∃ n, vs = [.ref p.1] ∧ ExPD K p G cs n ∧ DOkX p H ∧ n < 6 ∧ ∀ H', Same H H' → Q (.str (markN n)) H'
section
variable {K : PySem.W.Frag} {p : Addr × Obj} {G : Addr} {cs : List Addr} {σ : L2.St} {H : Hp} {Q : VK}
abbrev tIsD (K : PySem.W.Frag) (p : Addr × Obj) (i : Nat) (c : V) : TE := tCB (rIsD K p) (tCons (tVar i) (tCons (tC c) tNil))
theorem isD_read {i : Nat} {c : V} {u : Value} {b : Bool} (e : σ[i]? = some (some (.ref p.1))) (k : ClsV c u) (h : KitD K p u b) (d : DOkX p H) (q : Q (.bl b) H) : tIsD K p i c σ H Q := ⟨_, e, c, u, b, rfl, k, h, d, q⟩
abbrev tL4D (K : PySem.W.Frag) (p : Addr × Obj) (i : Nat) (a b c d : Addr) : TE := tLst (tCons (tIsD K p i (.ref a)) (tCons (tIsD K p i (.ref b)) (tCons (tIsD K p i (.ref c)) (tCons (tIsD K p i (.ref d)) tNil))))
abbrev tL2D (K : PySem.W.Frag) (p : Addr × Obj) (i : Nat) (a b : Addr) : TE := tLst (tCons (tIsD K p i (.ref a)) (tCons (tIsD K p i (.ref b)) tNil))
theorem l4D_read {i m j : Nat} {a b c d : Addr} (e : σ[i]? = some (some (.ref p.1))) (E : ExPD K p G cs m) (dk : DOkX p H) (h0 : cs[j]? = some a) (h1 : cs[j + 1]? = some b) (h2 : cs[j + 2]? = some c) (h3 : cs[j + 3]? = some d)
    (q : ∀ l, H l = none → Q (.ref l) (upd H l (.lst [.bl (decide (m = j)), .bl (decide (m = j + 1)), .bl (decide (m = j + 2)), .bl (decide (m = j + 3))]))) : tL4D K p i a b c d σ H Q :=
  isD_read e (.own _) (E.c _ _ h0) dk (isD_read e (.own _) (E.c _ _ h1) dk (isD_read e (.own _) (E.c _ _ h2) dk (isD_read e (.own _) (E.c _ _ h3) dk ⟨by show 4 ≤ sizeLine; decide, q⟩)))
theorem l2D_read {i m j : Nat} {a b : Addr} (e : σ[i]? = some (some (.ref p.1))) (E : ExPD K p G cs m) (dk : DOkX p H) (h0 : cs[j]? = some a) (h1 : cs[j + 1]? = some b)
    (q : ∀ l, H l = none → Q (.ref l) (upd H l (.lst [.bl (decide (m = j)), .bl (decide (m = j + 1))]))) : tL2D K p i a b σ H Q :=
  isD_read e (.own _) (E.c _ _ h0) dk (isD_read e (.own _) (E.c _ _ h1) dk ⟨by show 2 ≤ sizeLine; decide, q⟩)
theorem mkD_read {vs : List V} {a b c d a' b' : Addr} {N : List Str} (hN : N.length = 2) {D : Ends} (hs : spMkD K G [a, b, c, d, a', b'] p vs H D.rt) :
    tSeq (tIfS (tOr (tNot (tB (tIsD K p 0 (.ref G)))) (tNot (tB (tIsD K p 0 (.ty "ValueError"))))) (tRet (tC (.str "other"))) tNext)
      (tSeq (tAsg (tL4D K p 0 a b c d) (gName 1)) (tSeq (tAsg (tOp rCat (tVar 1) (tL2D K p 0 a' b')) (gName 1))
        (tSeq (tIfS (tTest (tOp rNe (tBM K "list" (rCntB K) (tVar 1) (tCons (tC (.bl true)) tNil)) (tC (.int 1)))) (tRet (tC (.str "other"))) tNext)
          (tRet (tOp (rIxL K) tStrs (tBM K "list" (rIndexD K) (tVar 1) (tCons (tC (.bl true)) tNil))))))) D (L2.start N vs) H := by
  obtain ⟨m, rfl, E, dk, hm, q⟩ := hs
  obtain ⟨o1, o2, o3⟩ := bsM_ok m hm
  have hst : L2.start N [.ref p.1] = [some (.ref p.1), none] := by unfold L2.start; rw [hN]; rfl
  rw [hst]
  refine isD_read rfl (.own _) E.g dk ⟨_, rfl, ?_⟩
  refine iteF (isD_read rfl (.ty _) E.v dk ⟨_, rfl, iteF ?_⟩)
  unfold tNext
  dsimp only
  unfold tSeq tAsg
  dsimp only
  refine l4D_read (j := 0) rfl E dk rfl rfl rfl rfl fun l hl => ?_
  have k1 : upd H l (.lst [.bl (decide (m = 0)), .bl (decide (m = 0 + 1)), .bl (decide (m = 0 + 2)), .bl (decide (m = 0 + 3))]) l = some (.lst [.bl (decide (m = 0)), .bl (decide (m = 0 + 1)), .bl (decide (m = 0 + 2)), .bl (decide (m = 0 + 3))]) := upd_same
  have s1 : Same H (upd H l (.lst [.bl (decide (m = 0)), .bl (decide (m = 0 + 1)), .bl (decide (m = 0 + 2)), .bl (decide (m = 0 + 3))])) := same_new hl
  generalize upd H l (.lst [.bl (decide (m = 0)), .bl (decide (m = 0 + 1)), .bl (decide (m = 0 + 2)), .bl (decide (m = 0 + 3))]) = H1 at k1 s1 ⊢
  refine ⟨_, rfl, ?_⟩
  dsimp only [List.set]
  refine l2D_read (j := 4) rfl E (dk.mono s1) rfl rfl fun l2 hl2 => ?_
  have n12 : l2 ≠ l := fun z => by rw [z, k1] at hl2; exact nomatch hl2
  have k2 : upd H1 l2 (.lst [.bl (decide (m = 4)), .bl (decide (m = 4 + 1))]) l2 = some (.lst [.bl (decide (m = 4)), .bl (decide (m = 4 + 1))]) := upd_same
  have k1' : upd H1 l2 (.lst [.bl (decide (m = 4)), .bl (decide (m = 4 + 1))]) l = some (.lst [.bl (decide (m = 0)), .bl (decide (m = 0 + 1)), .bl (decide (m = 0 + 2)), .bl (decide (m = 0 + 3))]) := by rw [upd_ne n12.symm]; exact k1
  have s2 : Same H (upd H1 l2 (.lst [.bl (decide (m = 4)), .bl (decide (m = 4 + 1))])) := s1.trans (same_new hl2)
  generalize upd H1 l2 (.lst [.bl (decide (m = 4)), .bl (decide (m = 4 + 1))]) = H2 at k2 k1' s2 ⊢
  refine ⟨l, l2, _, _, rfl, rfl, k1', k2, by show 6 ≤ sizeLine; decide, fun l3 hl3 => ?_⟩
  show gName 1 (.ref l3) _ (upd H2 l3 (.lst ((bsM m).map V.bl))) _
  have k3 : upd H2 l3 (.lst ((bsM m).map V.bl)) l3 = some (.lst ((bsM m).map V.bl)) := upd_same
  have s3 : Same H (upd H2 l3 (.lst ((bsM m).map V.bl))) := s2.trans (same_new hl3)
  generalize upd H2 l3 (.lst ((bsM m).map V.bl)) = H3 at k3 s3 ⊢
  unfold gName tIfS
  dsimp only [List.set]
  refine ⟨_, rfl, .inl ⟨rfl, _, .inl (.inl k3)⟩, l3, bsM m, true, rfl, rfl, .inl (.inl k3), rfl, false, ?_, ?_⟩
  · rw [o1, decide_eq_true (show V.int ((1 : Nat) : Int) = V.int 1 from rfl)]; rfl
  refine iteF ?_
  unfold tRet
  refine ⟨by show 6 ≤ sizeLine; decide, fun l4 hl4 => ?_⟩
  have n34 : l3 ≠ l4 := fun z => by rw [← z, k3] at hl4; exact nomatch hl4
  have k4 : upd H3 l4 (.lst mkStrs) l3 = some (.lst ((bsM m).map V.bl)) := by rw [upd_ne n34]; exact k3
  refine ⟨_, rfl, .inl ⟨rfl, _, .inl (.inl k4)⟩, l3, .bl true, .bool true, (bsM m).map PyData.bool, m, .bool true, rfl, rfl, .lst (.inl (.inl k4)) (dpBls _), .bl _, bsM_sh m hm, rfl, by rw [List.getElem?_map, o2]; rfl, rfl, fun k z hk hz => ?_, ?_⟩
  · rw [List.getElem?_map, o3 k hk] at hz
    cases hz; rfl
  · refine ⟨l4, mkStrs, m, .str (markN m), rfl, rfl, .inl (.inl upd_same), ?_, q _ (s3.trans (same_new hl4))⟩
    unfold atI ixN
    have h6 : mkStrs.length = 6 := rfl
    rw [if_pos (by omega)]
    simp
    rw [if_pos (show m < mkStrs.length from hm)]
    exact mk_at m hm
/-- what the suite of a try tells that looks at .at -/
def tSuA (a C : Addr) (dx : Addr) (i : Nat) : TS := fun D σ H => ∃ k : Int, σ[i]? = some (some (.ref a)) ∧ H dx = some (.xd [("at", .int k)]) ∧ ∀ H', Same H H' → D.rt (.int k) H'
theorem su_at {a C dx : Addr} {o : Obj} {i : Nat} {spW : SpH} {tl : TS} (hz : L2N.Zn (.ref C) (some dx) o) (E : ExPD K (a, o) G cs 5) (hW : ∀ (k : Int) (H : Hp) (Q : VK), (∀ H', Same H H' → Q (.bl true) H') → spW (a, o) [.int k] H Q) (D : Ends) (σ : L2.St) (H : Hp) (h : tSuA a C dx i D σ H) :
    tSeq (tIfS (tAnd (tTest (tOp rEq (tCallX (spMkD K G cs) (a, o) (tCons (tVar i) tNil)) (tC (.str "text")))) (tB (tCallX spW (a, o) (tCons (tXf a (.ref C) (some dx) C "at" (tVar i)) tNil)))) (tRet (tXf a (.ref C) (some dx) C "at" (tVar i))) tNext) tl D σ H := by
  obtain ⟨k, e, hx, q⟩ := h
  have dk : DOkX (a, o) H := ⟨dx, _, hz.2.1, hx⟩
  refine ⟨_, e, 5, rfl, E, dk, by decide, fun H1 s1 => ⟨rfl, true, congrArg V.bl (decide_eq_true (show V.str (markN 5) = V.str "text" from rfl)), iteT ⟨_, e, rfl, rfl, dx, _, _, rfl, s1 _ _ hx, rfl, hW k _ _ fun H2 s2 => ⟨true, rfl, iteT ⟨_, e, rfl, rfl, dx, _, _, rfl, s2 _ _ (s1 _ _ hx), rfl, q _ (s1.trans s2)⟩⟩⟩⟩⟩
end
/-- what is known of a class that may be caught and keeps something -/
structure ExHD (K : PySem.W.Frag) (G : Addr) (cs : List Addr) (C : Addr) (n : Nat) : Prop where
  kx : ∀ x ox od, PySem.W.KitX K (.ref x) (.ref C) (fun h => PySem.W.InstAt h x ox C od)
  g : PySem.W.kitOne K (.ref C) (.ref G) = some true
  v : PySem.W.kitOne K (.ref C) (.type "ValueError") = some true
  c : ∀ (j : Nat) (C' : Addr), cs[j]? = some C' → PySem.W.kitOne K (.ref C) (.ref C') = some (decide (n = j))
  ex : PySem.W.exmOne K (.ref C) (.ref G) = some true
theorem ExHD.p {K : PySem.W.Frag} {G : Addr} {cs : List Addr} {C dx : Addr} {n : Nat} (E : ExHD K G cs C n) {a : Addr} {o : Obj} (hz : L2N.Zn (.ref C) (some dx) o) (hd : ∃ vs, o.data = .fields vs) : ExPD K (a, o) G cs n := by
  obtain ⟨vs, hd⟩ := hd
  have hn : PySem.W.notCls o = true := by unfold PySem.W.notCls; rw [hd]
  have mk : ∀ u b, PySem.W.kitOne K (.ref C) u = some b → KitD K (a, o) u b := fun u b e => ⟨C, fun od => E.kx _ _ od, hz.1, hn, e⟩
  exact ⟨mk _ _ E.g, mk _ _ E.v, fun j C' e => mk _ _ (E.c j C' e)⟩
def tSuF (K : PySem.W.Frag) (C : Addr) (i : Nat) : TSu := fun a cls d Rt σ H => ∃ (dx : Addr) (k : Int), cls = .ref C ∧ d = some dx ∧ σ[i]? = some (some (.ref a)) ∧ H dx = some (.xd [("at", .int k)]) ∧ ∀ H', Same H H' → Rt (.int k) H'
def sTryF (c0 : Str) (sb : SW) : SW := fun ρ N R => sb ρ N fun v => match v with
  | .exc c (some i) => c = c0 ∧ R (.int i)
  | .exc _ none => False
  | v => R v
section
variable {X : Cx} {x n c0 : Str} {i m : Nat} {body suite : List Stmt} {b₀ : Stmt} {np pos pos' : Pos} {sb : SW} {G C : Addr} {cs : List Addr}
theorem qs_tryF (hs : X.stack = X.env :: X.outer) (hf : X.env.frame = some X.env.locals) (hN : X.N.Nodup) (hi : X.N[i]? = some n) (hk : X.env.kindOf n = some .local) (hc : Names X x (.ref G)) (hm : X.mg c0 = some (.ref C)) (E : ExHD X.K G cs C m)
    (hb : ∀ (W : WX) (pn : List (Addr × Obj)) (xe : Value → Shared → Prop), L2N.Takes (X.tr pn xe) W → PassesOwn (model X.prog X.w) X.A X.env xe → QXs (X.tr pn xe) W false body sb)
    (hsu : ∀ (a : Addr) (oe : Obj) (dx : Addr) (pn : List (Addr × Obj)), L2N.Zn (.ref C) (some dx) oe → (∃ vs, oe.data = .fields vs) → ExPD X.K (a, oe) G cs m → Hot1 (X.A.mark (some (.ref a))) (a, oe) → PSs (X.suite a ((a, oe) :: pn)) (b₀ :: suite) (tSuA a C dx i)) :
    QS X false (.Try body [.ExceptHandler (some (.Name x np)) (some n) (b₀ :: suite) pos'] [] [] pos) (sTryF c0 sb) := by
  refine PS.weak (ps_tryL (tb := fun W => tSX X.K X.mg false (fun cls d σ H => σ.length = X.N.length → W cls d σ H) sb) (ts := tSuF X.K C i) hs hf hN hi hk hc (fun W pn xe tk ps => hb _ pn xe (takesL tk) ps) (fun a oe cls d pn hz hd => ⟨fun pins s σ H D I q => ?_⟩)) ?_
  · obtain ⟨dx, k, rfl, rfl, e1, hx, q⟩ := q
    obtain ⟨vs, ed⟩ := id hd
    exact (hsu a oe dx pn hz hd (E.p hz hd) ⟨rfl, vs, ed, hz.2.2 vs ed⟩).run pins s σ H D I ⟨k, e1, hx, q⟩
  · rintro D σ H ⟨B0, F0, H0, F, ρ, N, R, w, p, q, r⟩
    refine ⟨B0, F0, H0, F, ρ, N, _, w, p, q, fun v z F' H' pv rt => ?_, fun σ' c n C' d F' H' pc mc ex fa hl => ?_⟩
    · refine r v z F' H' ?_ rt
      cases v <;> first
        | exact pv
        | (have rr := rt.2; simp only [Rep] at rr)
    · cases n with
      | none => exact pc.elim
      | some k =>
        obtain ⟨rfl, pc⟩ := pc
        obtain ⟨dx, rfl, hx⟩ := fa
        rw [hm] at mc
        cases mc
        refine ⟨E.ex, fun a ha => ⟨dx, k, rfl, rfl, List.getElem?_set_self (by rw [hl]; exact (List.getElem?_eq_some_iff.mp hi).1), hx, fun H2 sm => ?_⟩⟩
        refine r _ _ F' H2 pc ⟨⟨ex.ff, ex.fh.trans sm, ex.new, fun b o nb e => sm b o (ex.keep b o nb e), fun b hb0 => ?_⟩, ?_⟩
        · obtain ⟨k, e⟩ := ex.box b hb0
          exact ⟨k, sm _ _ e⟩
        · show Rep X.K _ _ _
          rw [Rep]
end
theorem exhd_mk6 {K : PySem.W.Frag} {G C a b c d a' b' : Addr} {n : Nat} {gt : Option Value} (i : PySem.W.isClsIn K C = true) (f1 : PySem.W.findIn K (.ref C) "__getattribute__" = some (some (.builtin "BaseException.__getattribute__"))) (f2 : PySem.W.findIn K (.ref C) "__getattr__" = some gt)
    (s : PySem.W.subIn K (.ref C) (.type "BaseException") = some true) (f3 : PySem.W.findIn K (.ref C) "__class__" = some (some (.builtin "object.__class__"))) (sp : PySem.W.specialIn K (.builtin "object.__class__") "__get__" = some (some (.builtin "getset_descriptor.__get__")))
    (tk : PySem.W.takesIn K (.builtin "object.__class__") = some true) (mr : PySem.W.mroIn K C (.type "object") = some true) (g : PySem.W.kitOne K (.ref C) (.ref G) = some true) (v : PySem.W.kitOne K (.ref C) (.type "ValueError") = some true)
    (k0 : PySem.W.kitOne K (.ref C) (.ref a) = some (decide (n = 0))) (k1 : PySem.W.kitOne K (.ref C) (.ref b) = some (decide (n = 1))) (k2 : PySem.W.kitOne K (.ref C) (.ref c) = some (decide (n = 2))) (k3 : PySem.W.kitOne K (.ref C) (.ref d) = some (decide (n = 3)))
    (k4 : PySem.W.kitOne K (.ref C) (.ref a') = some (decide (n = 4))) (k5 : PySem.W.kitOne K (.ref C) (.ref b') = some (decide (n = 5)))
    (ex : PySem.W.exmOne K (.ref C) (.ref G) = some true) : ExHD K G [a, b, c, d, a', b'] C n := by
  refine ⟨fun x ox od => PySem.W.kitx_exc i f1 f2 s f3 sp tk mr, g, v, fun j C' e => ?_, ex⟩
  match j, e with
  | 0, e => cases e; exact k0
  | 1, e => cases e; exact k1
  | 2, e => cases e; exact k2
  | 3, e => cases e; exact k3
  | 4, e => cases e; exact k4
  | 5, e => cases e; exact k5
  | _ + 6, e => simp at e
/-- F, a def by values, of whole numbers: while an exception is handled -/
def spHv (K : PySem.W.Frag) (sp : CW) : SpH := fun _ vs H Q => spP K sp vs H Q E0
theorem hv_true {K : PySem.W.Frag} {F : PV → (PV → Prop) → Prop} (hF : ∀ k : Int, F (.int k) fun v => v = .bl true) {p : Addr × Obj} (k : Int) (H : Hp) (Q : VK) (q : ∀ H', Same H H' → Q (.bl true) H') : spHv K (S1 F) p [.int k] H Q := by
  refine ⟨fun _ => False, fun _ => none, [.int k], fun v => v = .bl true, (fun a o e => nomatch e), (fun a h => h.elim), Reps.cons (by rw [Rep]) Reps.nil, hF k, fun v x F' H' pv ex rx => ?_⟩
  subst pv
  rw [Rep] at rx
  subst rx
  exact q H' fun a o e => ex.keep a o (fun h => h) e
end KV

namespace KV
open PySem PySem.Spec PyProof.Rows L2 KGX L2H
/-! ### for, the body may refuse -/
section
variable {m : Bool} {X : Cx} {W : WX} {tg iter : Expr} {pos : Pos} {fi : AW} {g : TG} {gw : GW} {body : List Stmt} {sb : SW}
theorem qx_for (hp : PassesOwn (model X.prog X.w) X.A X.env X.xe) (hc : X.calm = true) (hi : QI X tg iter fi) (hg : PG X tg g) (gv : GV X.K g gw) (hb : QXs X W m body sb) (hs : ∀ x, foldedSetIterable iter X.env x = pure x := by intro _; rfl) : QX X W m (.For tg iter body [] pos) (sFor fi gw sb) :=
  PS.weak (ps_for hp hc hi hg hb hs) fun D σ H ⟨B0, F0, H0, F, ρ, N, R, w, p, q, r, z⟩ => by
  refine ⟨_, _, _, _, w.h, p, fun ds J F1 H1 pd ex iv => ?_⟩
  have w1 := w.backH ex
  refine ⟨fun i m σ' H' => m = ds.length - i ∧ i ≤ ds.length ∧ ∃ F2 ρ', Same F1 F2 ∧ Ws X.K B0 F0 H0 F2 H' σ' ρ' ∧ forW gw sb (ds.drop i) ρ' N R, ⟨_, rfl, Nat.zero_le _, F1, ρ, fun _ _ z => z, w1, pd⟩, ?_⟩
  rintro i m σ' H' ⟨em, hi, F2, ρ', s12, w2, pf⟩
  by_cases hl : i = ds.length
  · subst hl
    rw [List.drop_length] at pf
    exact .inl ⟨iv.stops H' (s12.trans w2.ext.fh), q _ _ _ _ pf (ex.ff.trans s12) w2⟩
  · have hlt : i < ds.length := by omega
    refine .inr ⟨iv.goes i H' (s12.trans w2.ext.fh) hlt, fun σ3 H3 => ∃ F3 ρ3, Same F1 F3 ∧ Ws X.K B0 F0 H0 F3 H3 σ3 ρ3 ∧ forW gw sb (ds.drop (i + 1)) ρ3 N R, ?_, ?_⟩
    · rintro σ3 H3 ⟨F3, ρ3, s3, w3, p3⟩
      exact ⟨_, by omega, rfl, hlt, F3, ρ3, s3, w3, p3⟩
    · intro x H3 y
      obtain ⟨d, ed, yv⟩ := iv.yields i H' x H3 (s12.trans w2.ext.fh) hlt y
      obtain ⟨F3, s23, w3, rx⟩ := w2.yv s12 yv
      have edrop : ds.drop i = d :: ds.drop (i + 1) := by
        rw [List.drop_eq_getElem_cons hlt]
        rw [List.getElem?_eq_getElem hlt] at ed
        rw [Option.some.inj ed]
      rw [edrop] at pf
      refine gv x d _ _ _ _ _ _ _ _ _ w3 rx pf fun ρ4 σ4 p4 w4 => ?_
      refine ⟨B0, F0, H0, F3, ρ4, _, R, w4, p4, fun ρ5 σ5 F5 H5 p5 s5 w5 => ⟨F5, ρ5, (s12.trans s23).trans s5, w5, p5⟩, r, z⟩
end
/-! ### the class, put together from what is looked up -/
/-- super().__init__('..') is a call of a method -/
def McOk (t : Str) (j : Nat) (p0 p1 p2 p3 p4 : Pos) : Prop := ∃ pl : Env → Sem Bool, ∀ env : Env, eval (.Call (.Attribute (.Call (.Name "super" p0) [] [] p1) "__init__" p2) [.Constant (.str t) j p3] [] p4) env = (do
      let ov ← attributeBase (.Call (.Name "super" p0) [] [] p1) "__init__" env (eval (.Call (.Name "super" p0) [] [] p1) env)
      standAt p2.atName
      let (f, first) ← holding [ov] (getMethod ov "__init__" (pl env))
      callWith p4 f first (backTo p4 (starEach [.Constant (.str t) j p3] env)) [])
theorem nf_mk {P : Program} {K : PySem.W.Frag} {mg : Str → Option Value} {x : Str} {C G f cc cda N : Addr} {t : Str} {j : Nat} {p q p0 p1 p2 p3 p4 p5 p6 p7 p8 p9 : Pos}
    {nm qn qual file : Str} {tf : Tok} {bs : List Value} {sn : List Str} {sub : List Value} {ab : Bool} {col : Option Bool} {dd od an cld cdd : Option Addr} {m0 m1 m2 m3 m5 : Option Value} {oc kV dc pm ct cl ccl : Value} {osl csl ccs : Array (Option Value)} {vs : Array Value}
    (y : mg x = some (.ref C))
    (xL : K.lookup C = some (excClassObj nm qn C N bs [.ref G, .type "ValueError", .type "Exception", .type "BaseException", .type "object"] true sn sub ab col dd m0 m1 m2 m3 m5 "ValueError.__new__"))
    (sa : PySem.W.findIn K (.ref C) "__setattr__" = some (some (.builtin "object.__setattr__"))) (eC : PySem.W.subIn K (.ref C) (.type "BaseException") = some true) (tC : PySem.W.typeIn K (.ref C) = some (.type "type")) (kC : PySem.W.keepIn K (.ref C) = true)
    (no : PySem.W.findIn K (.ref C) "at" = some none)
    (lf : K.lookup f = some ⟨oc, od, .func (PySem.W.ksFn "__init__" qual (nfA p q) [nf1 t j p0 p1 p2 p3 p4 p5, nf2 p6 p7 p8 p9] nfS .none kV dc pm an (.ref cda) ct cc), osl⟩) (cf : PySem.W.codeIn K (.ref cda) qual = true)
    (lc : K.lookup cc = some ⟨cl, cld, .cell (some (.ref C)), csl⟩) (ld : K.lookup cda = some ⟨ccl, cdd, .fields vs, ccs⟩) (hv : vs[2]? = some (.str file tf)) (hfile : ((P.main.file : Str) == file) = true)
    (sb : PySem.W.mroIn K C (.ref C) = some true) (ns : PySem.W.nsIn K mainGlobals "super" = some none) (top : (P.main.scope.names.lookup ("super" : Str)).isSome = false) (opq : PySem.W.nsIn K cStatics "thirdparty.any" = some none)
    (sup : PySem.W.ks_superIn K C C "__init__" = some (some (.builtin "ValueError.__init__"))) (isV : PySem.W.subIn K (.ref C) (.type "ValueError") = some true) (ini : PySem.W.excInitIn K C veB "ValueError.__new__" = true)
    (mc : McOk t j p0 p1 p2 p3 p4) (iC : PySem.W.findIn K (.ref C) "__init__" = some (some (.ref f))) (tI : PySem.W.typeIn K (.ref f) = some (.type "function")) :
    NfX P K mg x C f cc cda t j p q p0 p1 p2 p3 p4 p5 p6 p7 p8 p9 (PySem.W.ksFn "__init__" qual (nfA p q) [nf1 t j p0 p1 p2 p3 p4 p5, nf2 p6 p7 p8 p9] nfS .none kV dc pm an (.ref cda) ct cc) := by
  refine ⟨⟨⟨⟨nm, qn, N, bs, _, sn, sub, ab, col, dd, m0, m1, m2, m3, m5, xL, show PySem.HandSPX.refsVE [.type "ValueError", .type "Exception", .type "BaseException", .type "object"] = true by decide +kernel⟩, sa, eC, tC, kC⟩, no, ⟨qual, oc, od, kV, dc, pm, an, ct, osl, rfl, lf, cf⟩, ⟨cl, cld, csl, lc⟩, ⟨vs, ccl, cdd, ccs, file, tf, ld, hv, hfile⟩, ?_, sb, ns, top, opq, sup, isV, mc, ini⟩, y, iC, tI, ?_⟩
  · have e : (PySem.W.clsIn K C).isSome = true := by
      unfold PySem.W.clsIn
      rw [xL]
      rfl
    exact Option.isSome_iff_exists.mp e
  · exact fun s us _ hl => match us, hl with | [_, _], _ => .of_eq rfl
end KV

namespace KGX
open PySem PySem.Spec PyProof.Rows L2 KV
def B_is_whole : SW :=
    (sRet (eAnd (eIsi "int" (mVar 0)) (eNot (eIsi "bool" (mVar 0)))))
@[irreducible] noncomputable def F_is_whole : PV → (PV → Prop) → Prop := shut fun a0 k => run 1 B_is_whole [.fr a0] k
theorem e_is_whole (a0 : PV) (k : PV → Prop) : F_is_whole a0 k = (run 1 B_is_whole [.fr a0] k) := by unfold F_is_whole; rw [shut_eq]
def B_is_whole_within : SW :=
    (sRet (eAnd (eCall (S1 F_is_whole) (aCons (mVar 0) aNil)) (eChain (mCmp cLe) (mCmp cLe) (mVar 1) (mVar 0) (mVar 2))))
@[irreducible] noncomputable def F_is_whole_within : PV → PV → PV → (PV → Prop) → Prop := shut fun a0 a1 a2 k => run 3 B_is_whole_within [.fr a0, .fr a1, .fr a2] k
theorem e_is_whole_within (a0 : PV) (a1 : PV) (a2 : PV) (k : PV → Prop) : F_is_whole_within a0 a1 a2 k = (run 3 B_is_whole_within [.fr a0, .fr a1, .fr a2] k) := by unfold F_is_whole_within; rw [shut_eq]
def B_is_shares : SW :=
    (sSeq (sIf (bOr (bNot (bV (eIsi "tuple" (mVar 0)))) (bNot (bV (eChain (mCmp cLe) (mCmp cLe) (eC (.int 1)) (eCall cLen (aCons (mVar 0) aNil)) (eC (.int 5)))))) (sRet (eC (.bl false))) sNil)
    (sRet (eCall (cAll false) (aCons (eLc (wSeq (mVar 0)) (gwName 1) tYesW (eCall (S3 F_is_whole_within) (aCons (mVar 1) (aCons (eC (.int 1)) (aCons (eC (.int 9)) aNil)))) [1]) aNil))))
@[irreducible] noncomputable def F_is_shares : PV → (PV → Prop) → Prop := shut fun a0 k => run 2 B_is_shares [.fr a0] k
theorem e_is_shares (a0 : PV) (k : PV → Prop) : F_is_shares a0 k = (run 2 B_is_shares [.fr a0] k) := by unfold F_is_shares; rw [shut_eq]
def B_check_shares : SW :=
    (sIf (bNot (bV (eCall (S1 F_is_shares) (aCons (mVar 0) aNil)))) sNever sNil)
@[irreducible] noncomputable def F_check_shares : PV → (PV → Prop) → Prop := shut fun a0 k => run 1 B_check_shares [.fr a0] k
theorem e_check_shares (a0 : PV) (k : PV → Prop) : F_check_shares a0 k = (run 1 B_check_shares [.fr a0] k) := by unfold F_check_shares; rw [shut_eq]
def B_show : SW :=
    (sSeq (sDrop (eCall (S1 F_check_shares) (aCons (mVar 0) aNil)))
    (sRet (eJoin (eC (.str " ")) (eLc (wSeq (mVar 0)) (gwName 1) tYesW (eCall cStr (aCons (mVar 1) aNil)) [1]))))
@[irreducible] noncomputable def F_show : PV → (PV → Prop) → Prop := shut fun a0 k => run 2 B_show [.fr a0] k
theorem e_show (a0 : PV) (k : PV → Prop) : F_show a0 k = (run 2 B_show [.fr a0] k) := by unfold F_show; rw [shut_eq]
def B_is_share_word : SW :=
    (sRet (eBin (mIn false) (mVar 0) (eLc (wRng2 (eC (.int 1)) (eBin mAddT (eC (.int 9)) (eC (.int 1)))) (gwName 1) tYesW (eCall cStr (aCons (mVar 1) aNil)) [1])))
@[irreducible] noncomputable def F_is_share_word : PV → (PV → Prop) → Prop := shut fun a0 k => run 2 B_is_share_word [.fr a0] k
theorem e_is_share_word (a0 : PV) (k : PV → Prop) : F_is_share_word a0 k = (run 2 B_is_share_word [.fr a0] k) := by unfold F_is_share_word; rw [shut_eq]
def B_read : SW :=
    (sSeq (sIf (bNot (bV (eIsi "str" (mVar 0)))) (sRaiseF "NoText" (eC (.int 0))) sNil)
    (sSeq (sSet 1 (eSplit (mVar 0) (eC (.str " "))))
    (sSeq (sFor (wEnumL (mVar 1)) (gwTup 2 (gwCons (gwName 2) (gwCons (gwName 3) gwNil))) (sIf (bOr (bV (eBin mEq (mVar 2) (eC (.int 5)))) (bNot (bV (eCall (S1 F_is_share_word) (aCons (mVar 3) aNil))))) (sRaiseF "NoText" (mVar 2)) sNil))
    (sRet (eCall mTuple (aCons (eLc (wSeq (mVar 1)) (gwName 3) tYesW (eCall mIntT (aCons (mVar 3) aNil)) [3]) aNil))))))
@[irreducible] noncomputable def F_read : PV → (PV → Prop) → Prop := shut fun a0 k => run 4 B_read [.fr a0] k
theorem e_read (a0 : PV) (k : PV → Prop) : F_read a0 k = (run 4 B_read [.fr a0] k) := by unfold F_read; rw [shut_eq]
abbrev F__law_take := KV.pTake
def B__law_whole : SW :=
    (sRet (eAnd (eIsi "int" (mVar 0)) (eNot (eIsi "bool" (mVar 0)))))
@[irreducible] noncomputable def F__law_whole : PV → (PV → Prop) → Prop := shut fun a0 k => run 1 B__law_whole [.fr a0] k
theorem e__law_whole (a0 : PV) (k : PV → Prop) : F__law_whole a0 k = (run 1 B__law_whole [.fr a0] k) := by unfold F__law_whole; rw [shut_eq]
def B__law_sign : SW :=
    (sSeq (sSet 1 (eC (.str " !#$&'()*+,-./0123456789:;<=>?\x40[]^_`{|}~\t\n\"\\AaBbCcDdEeFfGgHhIiJjKkLlMmNnOoPpQqRrSsTtUuVvWwXxYyZz")))
    (sRet (eBin mAtT (mVar 1) (eCallB 0 (S1 F__law_take) (aCons (eCall cLenT (aCons (mVar 1) aNil)) aNil)))))
@[irreducible] noncomputable def F__law_sign : (PV → Prop) → Prop := shut fun  k => run 2 B__law_sign [.box] k
theorem e__law_sign  (k : PV → Prop) : F__law_sign  k = (run 2 B__law_sign [.box] k) := by unfold F__law_sign; rw [shut_eq]
def B__law_drawn_shares : SW :=
    (sSeq (sSet 3 (eBin mAddT (eC (.int 1)) (eCallB 0 (S1 F__law_take) (aCons (mVar 1) aNil))))
    (sSeq (sSet 4 (eCallB 0 (S1 F__law_take) (aCons (eC (.int 4)) aNil)))
    (sSeq (sIf (bV (eBin mEq (mVar 4) (eC (.int 0)))) (sRet (eBin mMul (eTup (aCons (eBin mAddT (eC (.int 1)) (eCallB 0 (S1 F__law_take) (aCons (mVar 2) aNil))) aNil)) (mVar 3))) sNil)
    (sRet (eCall mTuple (aCons (eLc (wRng1 (mVar 3)) (gwName 5) tYesW (eBin mAddT (eC (.int 1)) (eCallB 0 (S1 F__law_take) (aCons (eBin mAtT (eLst (aCons (mVar 2) (aCons (eC (.int 2)) (aCons (mVar 2) aNil)))) (eBin mSub (mVar 4) (eC (.int 1)))) aNil))) [5]) aNil))))))
@[irreducible] noncomputable def F__law_drawn_shares : PV → PV → (PV → Prop) → Prop := shut fun a0 a1 k => run 6 B__law_drawn_shares [.box, .fr a0, .fr a1] k
theorem e__law_drawn_shares (a0 : PV) (a1 : PV) (k : PV → Prop) : F__law_drawn_shares a0 a1 k = (run 6 B__law_drawn_shares [.box, .fr a0, .fr a1] k) := by unfold F__law_drawn_shares; rw [shut_eq]
def B__law_odd : SW :=
    (sSeq (sSet 1 (eLst (aCons (eC .non) (aCons (eC (.bl true)) (aCons (eC (.bl false)) (aCons (eNeg (eC (.int 1))) (aCons (eC (.int 0)) (aCons (eC (.int 1)) (aCons (eC (.str "")) (aCons (eC (.str "1")) (aCons (eTup aNil) (aCons (eLst aNil) (aCons (eTup (aCons (eC (.int 0)) aNil)) (aCons (eLst (aCons (eC (.int 1)) aNil)) (aCons (eTup (aCons (eC (.int 0)) (aCons (eC (.int 1)) aNil))) (aCons (eDispS "a" 1) (aCons (eC (.dic [])) (aCons (eBin mPow (eC (.int 10)) (eC (.int 29))) (aCons (eTup (aCons (eC (.int 1)) (aCons (eC (.int 2)) aNil))) (aCons (eTup (aCons (eC (.int 2)) (aCons (eC (.int 4)) aNil))) aNil))))))))))))))))))))
    (sRet (eBin mAtT (eBin mAddT (mVar 1) (eLst (aCons (eTup (aCons (eTup (aCons (eC (.int 1)) (aCons (eC (.int 2)) aNil))) aNil)) (aCons (eTup (aCons (eC (.int 1)) (aCons (eC (.int 0)) aNil))) (aCons (eTup (aCons (eC (.int 3)) (aCons (eNeg (eC (.int 1))) aNil))) (aCons (eTup (aCons (eC (.bl true)) (aCons (eC (.int 1)) aNil))) (aCons (eTup (aCons (eC (.int 1)) (aCons (eC (.int 2)) (aCons (eC (.int 3)) aNil)))) (aCons (eTup (aCons (eLst (aCons (eC (.int 1)) aNil)) aNil)) aNil)))))))) (eCallB 0 (S1 F__law_take) (aCons (eC (.int 24)) aNil)))))
@[irreducible] noncomputable def F__law_odd : (PV → Prop) → Prop := shut fun  k => run 2 B__law_odd [.box] k
theorem e__law_odd  (k : PV → Prop) : F__law_odd  k = (run 2 B__law_odd [.box] k) := by unfold F__law_odd; rw [shut_eq]
def B__law_read : SW :=
    (sSeq (sSet 1 (eSplit (mVar 0) (eC (.str " "))))
    (sSeq (sFor (wRng1 (eCall cLen (aCons (mVar 1) aNil))) (gwName 2) (sIf (bOr (bV (eBin mEq (mVar 2) (eC (.int 5)))) (bV (eBin (mIn true) (eBin mAtT (mVar 1) (mVar 2)) (eLst (aCons (eC (.str "1")) (aCons (eC (.str "2")) (aCons (eC (.str "3")) (aCons (eC (.str "4")) (aCons (eC (.str "5")) (aCons (eC (.str "6")) (aCons (eC (.str "7")) (aCons (eC (.str "8")) (aCons (eC (.str "9")) aNil))))))))))))) (sRet (mVar 2)) sNil))
    (sRet (eCall mTuple (aCons (eLc (wSeq (mVar 1)) (gwName 3) tYesW (eCall mIntT (aCons (mVar 3) aNil)) [3]) aNil)))))
@[irreducible] noncomputable def F__law_read : PV → (PV → Prop) → Prop := shut fun a0 k => run 4 B__law_read [.fr a0] k
theorem e__law_read (a0 : PV) (k : PV → Prop) : F__law_read a0 k = (run 4 B__law_read [.fr a0] k) := by unfold F__law_read; rw [shut_eq]
def B__law_said : SW :=
    (sTryF "NoText" (sRet (eCall (S1 F_read) (aCons (mVar 0) aNil))))
@[irreducible] noncomputable def F__law_said : PV → (PV → Prop) → Prop := shut fun a0 k => run 2 B__law_said [.fr a0] k
theorem e__law_said (a0 : PV) (k : PV → Prop) : F__law_said a0 k = (run 2 B__law_said [.fr a0] k) := by unfold F__law_said; rw [shut_eq]
def B__law_bent : SW :=
    (sSeq (sSet 2 (eSplit (mVar 1) (eC (.str " "))))
    (sSeq (sSet 3 (eCallB 0 (S1 F__law_take) (aCons (eCall cLenT (aCons (mVar 2) aNil)) aNil)))
    (sSeq (sSet 4 (eCallB 0 (S1 F__law_take) (aCons (eCall cLenT (aCons (mVar 2) aNil)) aNil)))
    (sSeq (sSet 5 (eCallB 0 (S1 F__law_take) (aCons (eBin mAddT (eCall cLenT (aCons (mVar 1) aNil)) (eC (.int 1))) aNil)))
    (sSeq (sSet 6 (eCallB 0 (S0 F__law_sign) aNil))
    (sSeq (sSet 7 (eCallB 0 (S1 F__law_take) (aCons (eC (.int 8)) aNil)))
    (sSeq (sIf (bV (eBin (mCmp cLt) (mVar 7) (eC (.int 3)))) (sRet (eBin mAddT (eBin mAddT (eSlZ (mVar 1) oNone (oSome (mVar 5))) (eBin mAtT (eLst (aCons (mVar 6) (aCons (eC (.str "")) (aCons (mVar 6) aNil)))) (mVar 7))) (eSlZ (mVar 1) (oSome (eBin mAddT (mVar 5) (eCall mIntT (aCons (eBin (mCmp cGt) (mVar 7) (eC (.int 0))) aNil)))) oNone))) sNil)
    (sSeq (sOwn 8 (eCall mList (aCons (mVar 2) aNil)))
    (sSeq (sSwap 8 (mVar 3) (mVar 4) (eTup (aCons (eBin mAtT (mVar 8) (mVar 4)) (aCons (eBin mAtT (mVar 8) (mVar 3)) aNil))))
    (sSeq (sSet 9 (eBin mAtT (eLst (aCons (eC (.str "")) (aCons (eC (.str "0")) (aCons (eC (.str "9")) (aCons (eC (.str "10")) (aCons (eC (.str "01")) (aCons (eC (.str "-1")) (aCons (eC (.str "1,")) (aCons (eC (.str "a")) (aCons (eC (.str "1 1")) (aCons (eC (.str "12")) (aCons (eC (.str "+3")) (aCons (eC (.str "3.0")) aNil))))))))))))) (eCallB 0 (S1 F__law_take) (aCons (eC (.int 12)) aNil))))
    (sSeq (sFrz 8 (sSet 10 (eLst (aCons (eBin mAddT (eSl (mVar 2) oNone (oSome (mVar 3))) (eSl (mVar 2) (oSome (eBin mAddT (mVar 3) (eC (.int 1)))) oNone)) (aCons (eBin mAddT (eBin mAddT (eSl (mVar 2) oNone (oSome (mVar 3))) (eLst (aCons (eBin mAtT (mVar 2) (mVar 3)) aNil))) (eSl (mVar 2) (oSome (mVar 3)) oNone)) (aCons (mVar 8) aNil))))))
    (sRet (eJoin (eC (.str " ")) (eBin mAtT (eBin mAddT (mVar 10) (eLst (aCons (eBin mAddT (eBin mAddT (eSl (mVar 2) oNone (oSome (mVar 3))) (eLst (aCons (mVar 9) aNil))) (eSl (mVar 2) (oSome (mVar 3)) oNone)) (aCons (eBin mAddT (eBin mAddT (eSl (mVar 2) oNone (oSome (mVar 3))) (eLst (aCons (mVar 9) aNil))) (eSl (mVar 2) (oSome (eBin mAddT (mVar 3) (eC (.int 1)))) oNone)) aNil)))) (eBin mSub (mVar 7) (eC (.int 3)))))))))))))))))
@[irreducible] noncomputable def F__law_bent : PV → (PV → Prop) → Prop := shut fun a0 k => run 11 B__law_bent [.box, .fr a0] k
theorem e__law_bent (a0 : PV) (k : PV → Prop) : F__law_bent a0 k = (run 11 B__law_bent [.box, .fr a0] k) := by unfold F__law_bent; rw [shut_eq]
def B_law : SW :=
    (sSeq (sIf (bOr (bV (eBin mNe (eCall (S1 F__law_said) (aCons (eC (.str "")) aNil)) (eC (.int 0)))) (bOr (bV (eBin mNe (eCall (S1 F__law_said) (aCons (eC (.str "1 1 1 1 1 1")) aNil)) (eC (.int 5)))) (bOr (bV (eBin mNe (eCall (S1 F__law_said) (aCons (eC (.str "1 ")) aNil)) (eC (.int 1)))) (bV (eBin mNe (eCall (S1 F__law_said) (aCons (eC (.str "10")) aNil)) (eC (.int 0))))))) (sRet (eC (.bl false))) sNil)
    (sSeq (sFor (wRng1 (eCall mMax (aCons (eC (.int 1)) (aCons (eCall mMin (aCons (eCall cLen (aCons (mVar 0) aNil)) (aCons (eC (.int 6)) aNil))) aNil)))) (gwName 1) (sSeq (sBox 2 (aCons (mVar 0) (aCons (mVar 1) aNil)))
    (sSeq (sSet 3 (eCallB 2 (S2 F__law_drawn_shares) (aCons (eC (.int 5)) (aCons (eC (.int 9)) aNil))))
    (sSeq (sSet 4 (eJoin (eC (.str " ")) (eLc (wSeq (mVar 3)) (gwName 7) tYesW (eCall cStr (aCons (mVar 7) aNil)) [7])))
    (sSeq (sIf (bV (eBin mNe (eCall cRepr (aCons (eCall (S1 F_show) (aCons (mVar 3) aNil)) aNil)) (eCall cRepr (aCons (mVar 4) aNil)))) (sRet (eC (.bl false))) sNil)
    (sSeq (sFor (wSeq (eBin mAddT (eLst (aCons (mVar 4) (aCons (eBin mAddT (mVar 4) (eC (.str " "))) (aCons (eBin mAddT (eC (.str " ")) (mVar 4)) aNil)))) (eLc (wRng1 (eC (.int 5))) (gwName 8) tYesW (eCallB 2 (S1 F__law_bent) (aCons (mVar 4) aNil)) [8]))) (gwName 5) (sIf (bV (eBin mNe (eCall cRepr (aCons (eCall (S1 F__law_said) (aCons (mVar 5) aNil)) aNil)) (eCall cRepr (aCons (eCall (S1 F__law_read) (aCons (mVar 5) aNil)) aNil)))) (sRet (eC (.bl false))) sNil))
    (sSeq (sSet 6 (eCallB 2 (S0 F__law_odd) aNil))
    (sIf (bOr (bAnd (bNot (bV (eIsi "str" (mVar 6)))) (bV (eBin mNe (eCall cRepr (aCons (eCall (S1 F__law_said) (aCons (mVar 6) aNil)) aNil)) (eC (.str "0"))))) (bV (eBin mNe (eCall cRepr (aCons (eCall (S1 F__law_said) (aCons (eLst (aCons (mVar 4) aNil)) aNil)) aNil)) (eC (.str "0"))))) (sRet (eC (.bl false))) sNil))))))))
    (sRet (eC (.bl true)))))
@[irreducible] noncomputable def F_law : PV → (PV → Prop) → Prop := shut fun a0 k => run 9 B_law [.fr a0] k
theorem e_law (a0 : PV) (k : PV → Prop) : F_law a0 k = (run 9 B_law [.fr a0] k) := by unfold F_law; rw [shut_eq]
end KGX

namespace KGX
open PySem PySem.Spec PyProof.Rows L2 KV
def topS (i : Nat) : Stmt := PySem.Challenge.pw_kindsgathered_k04_shares_written.main.body.getD i (.Pass ⟨0, 0, 0, 0⟩)
abbrev s_is_whole : Stmt := topS 9
theorem sc_is_whole : FnScope ["thing"] ["thing"] (defScope s_is_whole) := ⟨rfl, rfl, rfl, by decide +kernel, rfl, by decide +kernel, by decide +kernel⟩
abbrev s_is_whole_within : Stmt := topS 10
theorem sc_is_whole_within : FnScope ["thing", "least", "most"] ["thing", "least", "most"] (defScope s_is_whole_within) := ⟨rfl, rfl, rfl, by decide +kernel, rfl, by decide +kernel, by decide +kernel⟩
abbrev s_is_shares : Stmt := topS 14
theorem sc_is_shares : FnScope ["thing", "share"] ["thing"] (defScope s_is_shares) := ⟨rfl, rfl, rfl, by decide +kernel, rfl, by decide +kernel, by decide +kernel⟩
abbrev s_check_shares : Stmt := topS 15
theorem sc_check_shares : FnScope ["thing"] ["thing"] (defScope s_check_shares) := ⟨rfl, rfl, rfl, by decide +kernel, rfl, by decide +kernel, by decide +kernel⟩
abbrev s_show : Stmt := topS 17
theorem sc_show : FnScope ["shares", "share"] ["shares"] (defScope s_show) := ⟨rfl, rfl, rfl, by decide +kernel, rfl, by decide +kernel, by decide +kernel⟩
abbrev s_is_share_word : Stmt := topS 18
theorem sc_is_share_word : FnScope ["word", "share"] ["word"] (defScope s_is_share_word) := ⟨rfl, rfl, rfl, by decide +kernel, rfl, by decide +kernel, by decide +kernel⟩
abbrev s_read : Stmt := topS 19
theorem sc_read : FnScope ["text", "words", "at", "word"] ["text"] (defScope s_read) := ⟨rfl, rfl, rfl, by decide +kernel, rfl, by decide +kernel, by decide +kernel⟩
abbrev s__law_cell : Stmt := topS 21
theorem sc__law_cell : FnScope ["_law_script", "_law_k"] ["_law_script", "_law_k"] (defScope s__law_cell) := ⟨rfl, rfl, rfl, by decide +kernel, rfl, by decide +kernel, by decide +kernel⟩
abbrev s__law_mix : Stmt := topS 22
theorem sc__law_mix : FnScope ["_law_cell_here", "_law_k", "_law_some", "_law_stir"] ["_law_cell_here", "_law_k"] (defScope s__law_mix) := ⟨rfl, rfl, rfl, by decide +kernel, rfl, by decide +kernel, by decide +kernel⟩
abbrev s__law_box : Stmt := topS 23
theorem sc__law_box : FnScope ["_law_script", "_law_k", "_law_cell_here", "_law_number", "_law_j"] ["_law_script", "_law_k"] (defScope s__law_box) := ⟨rfl, rfl, rfl, by decide +kernel, rfl, by decide +kernel, by decide +kernel⟩
abbrev s__law_take : Stmt := topS 24
theorem sc__law_take : FnScope ["_law_box_here", "_law_many", "_law_left", "_law_digit"] ["_law_box_here", "_law_many"] (defScope s__law_take) := ⟨rfl, rfl, rfl, by decide +kernel, rfl, by decide +kernel, by decide +kernel⟩
abbrev s__law_whole : Stmt := topS 25
theorem sc__law_whole : FnScope ["_law_thing"] ["_law_thing"] (defScope s__law_whole) := ⟨rfl, rfl, rfl, by decide +kernel, rfl, by decide +kernel, by decide +kernel⟩
abbrev s__law_sign : Stmt := topS 26
theorem sc__law_sign : FnScope ["_law_box_here", "_law_row"] ["_law_box_here"] (defScope s__law_sign) := ⟨rfl, rfl, rfl, by decide +kernel, rfl, by decide +kernel, by decide +kernel⟩
abbrev s__law_drawn_shares : Stmt := topS 27
theorem sc__law_drawn_shares : FnScope ["_law_box_here", "_law_most", "_law_top", "_law_many", "_law_kind", "_law_place"] ["_law_box_here", "_law_most", "_law_top"] (defScope s__law_drawn_shares) := ⟨rfl, rfl, rfl, by decide +kernel, rfl, by decide +kernel, by decide +kernel⟩
abbrev s__law_odd : Stmt := topS 28
theorem sc__law_odd : FnScope ["_law_box_here", "_law_some"] ["_law_box_here"] (defScope s__law_odd) := ⟨rfl, rfl, rfl, by decide +kernel, rfl, by decide +kernel, by decide +kernel⟩
abbrev s__law_marks : Stmt := topS 29
theorem sc__law_marks : FnScope ["_law_e", "_law_found"] ["_law_e"] (defScope s__law_marks) := ⟨rfl, rfl, rfl, by decide +kernel, rfl, by decide +kernel, by decide +kernel⟩
abbrev s__law_read : Stmt := topS 30
theorem sc__law_read : FnScope ["_law_text", "_law_words", "_law_at", "_law_word"] ["_law_text"] (defScope s__law_read) := ⟨rfl, rfl, rfl, by decide +kernel, rfl, by decide +kernel, by decide +kernel⟩
abbrev s__law_said : Stmt := topS 31
theorem sc__law_said : FnScope ["_law_thing", "_law_e"] ["_law_thing"] (defScope s__law_said) := ⟨rfl, rfl, rfl, by decide +kernel, rfl, by decide +kernel, by decide +kernel⟩
abbrev s__law_bent : Stmt := topS 32
theorem sc__law_bent : FnScope ["_law_box_here", "_law_text", "_law_words", "_law_at", "_law_to", "_law_where", "_law_mark", "_law_kind", "_law_other", "_law_odd_here", "_law_some"] ["_law_box_here", "_law_text"] (defScope s__law_bent) := ⟨rfl, rfl, rfl, by decide +kernel, rfl, by decide +kernel, by decide +kernel⟩
abbrev s_law : Stmt := topS 33
theorem sc_law : FnScope ["_law_script", "_law_k", "_law_box_here", "_law_shares", "_law_text", "_law_some", "_law_odd_here", "_law_one", "_law_lap"] ["_law_script"] (defScope s_law) := ⟨rfl, rfl, rfl, by decide +kernel, rfl, by decide +kernel, by decide +kernel⟩
theorem bt_isinstance : bootBuiltins "isinstance" = some (.builtin "isinstance") := by decide +kernel
theorem bt_int : bootBuiltins "int" = some (.type "int") := by decide +kernel
theorem bt_bool : bootBuiltins "bool" = some (.type "bool") := by decide +kernel
theorem bt_all : bootBuiltins "all" = some (.builtin "all") := by decide +kernel
theorem bt_tuple : bootBuiltins "tuple" = some (.type "tuple") := by decide +kernel
theorem bt_len : bootBuiltins "len" = some (.builtin "len") := by decide +kernel
theorem bt_str : bootBuiltins "str" = some (.type "str") := by decide +kernel
theorem bt_range : bootBuiltins "range" = some (.type "range") := by decide +kernel
theorem bt_enumerate : bootBuiltins "enumerate" = some (.type "enumerate") := by decide +kernel
theorem bt_abs : bootBuiltins "abs" = some (.builtin "abs") := by decide +kernel
theorem bt_divmod : bootBuiltins "divmod" = some (.builtin "divmod") := by decide +kernel
theorem bt_ValueError : bootBuiltins "ValueError" = some (.type "ValueError") := by decide +kernel
theorem bt_list : bootBuiltins "list" = some (.type "list") := by decide +kernel
theorem bt_max : bootBuiltins "max" = some (.builtin "max") := by decide +kernel
theorem bt_min : bootBuiltins "min" = some (.builtin "min") := by decide +kernel
theorem bt_repr : bootBuiltins "repr" = some (.builtin "repr") := by decide +kernel
/-- what the top has left -/
structure Tx (P : Program) (K : PySem.W.Frag) (mg : Str → Option Value) where
  a_is_whole : Addr
  d_is_whole : FuncData
  F_is_whole : Fun K "is_whole" "is_whole" s_is_whole a_is_whole d_is_whole
  g_is_whole : mg "is_whole" = some (.ref a_is_whole)
  b_is_whole : Binds K d_is_whole ["thing"] []
  a_is_whole_within : Addr
  d_is_whole_within : FuncData
  F_is_whole_within : Fun K "is_whole_within" "is_whole_within" s_is_whole_within a_is_whole_within d_is_whole_within
  g_is_whole_within : mg "is_whole_within" = some (.ref a_is_whole_within)
  b_is_whole_within : Binds K d_is_whole_within ["thing", "least", "most"] []
  a_is_shares : Addr
  d_is_shares : FuncData
  F_is_shares : Fun K "is_shares" "is_shares" s_is_shares a_is_shares d_is_shares
  g_is_shares : mg "is_shares" = some (.ref a_is_shares)
  b_is_shares : Binds K d_is_shares ["thing"] []
  a_check_shares : Addr
  d_check_shares : FuncData
  F_check_shares : Fun K "check_shares" "check_shares" s_check_shares a_check_shares d_check_shares
  g_check_shares : mg "check_shares" = some (.ref a_check_shares)
  b_check_shares : Binds K d_check_shares ["thing"] []
  a_show : Addr
  d_show : FuncData
  F_show : Fun K "show" "show" s_show a_show d_show
  g_show : mg "show" = some (.ref a_show)
  b_show : Binds K d_show ["shares"] []
  a_is_share_word : Addr
  d_is_share_word : FuncData
  F_is_share_word : Fun K "is_share_word" "is_share_word" s_is_share_word a_is_share_word d_is_share_word
  g_is_share_word : mg "is_share_word" = some (.ref a_is_share_word)
  b_is_share_word : Binds K d_is_share_word ["word"] []
  a_read : Addr
  d_read : FuncData
  F_read : Fun K "read" "read" s_read a_read d_read
  g_read : mg "read" = some (.ref a_read)
  b_read : Binds K d_read ["text"] []
  a__law_cell : Addr
  d__law_cell : FuncData
  F__law_cell : Fun K "_law_cell" "_law_cell" s__law_cell a__law_cell d__law_cell
  g__law_cell : mg "_law_cell" = some (.ref a__law_cell)
  b__law_cell : Binds K d__law_cell ["_law_script", "_law_k"] []
  a__law_mix : Addr
  d__law_mix : FuncData
  F__law_mix : Fun K "_law_mix" "_law_mix" s__law_mix a__law_mix d__law_mix
  g__law_mix : mg "_law_mix" = some (.ref a__law_mix)
  b__law_mix : Binds K d__law_mix ["_law_cell_here", "_law_k"] []
  a__law_box : Addr
  d__law_box : FuncData
  F__law_box : Fun K "_law_box" "_law_box" s__law_box a__law_box d__law_box
  g__law_box : mg "_law_box" = some (.ref a__law_box)
  b__law_box : Binds K d__law_box ["_law_script", "_law_k"] []
  a__law_take : Addr
  d__law_take : FuncData
  F__law_take : Fun K "_law_take" "_law_take" s__law_take a__law_take d__law_take
  g__law_take : mg "_law_take" = some (.ref a__law_take)
  b__law_take : Binds K d__law_take ["_law_box_here", "_law_many"] []
  a__law_whole : Addr
  d__law_whole : FuncData
  F__law_whole : Fun K "_law_whole" "_law_whole" s__law_whole a__law_whole d__law_whole
  g__law_whole : mg "_law_whole" = some (.ref a__law_whole)
  b__law_whole : Binds K d__law_whole ["_law_thing"] []
  a__law_sign : Addr
  d__law_sign : FuncData
  F__law_sign : Fun K "_law_sign" "_law_sign" s__law_sign a__law_sign d__law_sign
  g__law_sign : mg "_law_sign" = some (.ref a__law_sign)
  b__law_sign : Binds K d__law_sign ["_law_box_here"] []
  a__law_drawn_shares : Addr
  d__law_drawn_shares : FuncData
  F__law_drawn_shares : Fun K "_law_drawn_shares" "_law_drawn_shares" s__law_drawn_shares a__law_drawn_shares d__law_drawn_shares
  g__law_drawn_shares : mg "_law_drawn_shares" = some (.ref a__law_drawn_shares)
  b__law_drawn_shares : Binds K d__law_drawn_shares ["_law_box_here", "_law_most", "_law_top"] []
  a__law_odd : Addr
  d__law_odd : FuncData
  F__law_odd : Fun K "_law_odd" "_law_odd" s__law_odd a__law_odd d__law_odd
  g__law_odd : mg "_law_odd" = some (.ref a__law_odd)
  b__law_odd : Binds K d__law_odd ["_law_box_here"] []
  a__law_marks : Addr
  d__law_marks : FuncData
  F__law_marks : Fun K "_law_marks" "_law_marks" s__law_marks a__law_marks d__law_marks
  g__law_marks : mg "_law_marks" = some (.ref a__law_marks)
  b__law_marks : Binds K d__law_marks ["_law_e"] []
  a__law_read : Addr
  d__law_read : FuncData
  F__law_read : Fun K "_law_read" "_law_read" s__law_read a__law_read d__law_read
  g__law_read : mg "_law_read" = some (.ref a__law_read)
  b__law_read : Binds K d__law_read ["_law_text"] []
  a__law_said : Addr
  d__law_said : FuncData
  F__law_said : Fun K "_law_said" "_law_said" s__law_said a__law_said d__law_said
  g__law_said : mg "_law_said" = some (.ref a__law_said)
  b__law_said : Binds K d__law_said ["_law_thing"] []
  a__law_bent : Addr
  d__law_bent : FuncData
  F__law_bent : Fun K "_law_bent" "_law_bent" s__law_bent a__law_bent d__law_bent
  g__law_bent : mg "_law_bent" = some (.ref a__law_bent)
  b__law_bent : Binds K d__law_bent ["_law_box_here", "_law_text"] []
  a_law : Addr
  d_law : FuncData
  F_law : Fun K "law" "law" s_law a_law d_law
  g_law : mg "law" = some (.ref a_law)
  b_law : Binds K d_law ["_law_script"] []
  m_isinstance : mg "isinstance" = none
  m_int : mg "int" = none
  m_bool : mg "bool" = none
  m_all : mg "all" = none
  m_tuple : mg "tuple" = none
  m_len : mg "len" = none
  m_str : mg "str" = none
  m_range : mg "range" = none
  m_enumerate : mg "enumerate" = none
  m_abs : mg "abs" = none
  m_divmod : mg "divmod" = none
  m_ValueError : mg "ValueError" = none
  m_list : mg "list" = none
  m_max : mg "max" = none
  m_min : mg "min" = none
  m_repr : mg "repr" = none
  t_MOST_KINDS : Tok
  c_MOST_KINDS : mg "MOST_KINDS" = some (.int 5 t_MOST_KINDS)
  t_MOST_SHARE : Tok
  c_MOST_SHARE : mg "MOST_SHARE" = some (.int 9 t_MOST_SHARE)
  a_GatherError : Addr
  g_GatherError : mg "GatherError" = some (.ref a_GatherError)
  a_NoShares : Addr
  g_NoShares : mg "NoShares" = some (.ref a_NoShares)
  a_NoKind : Addr
  g_NoKind : mg "NoKind" = some (.ref a_NoKind)
  a_NoNumber : Addr
  g_NoNumber : mg "NoNumber" = some (.ref a_NoNumber)
  a_NoNeeds : Addr
  g_NoNeeds : mg "NoNeeds" = some (.ref a_NoNeeds)
  a_TooMany : Addr
  g_TooMany : mg "TooMany" = some (.ref a_TooMany)
  a_NoText : Addr
  g_NoText : mg "NoText" = some (.ref a_NoText)
  f_NoText : Addr
  cc_NoText : Addr
  cda_NoText : Addr
  t_NoText : Str
  j_NoText : Nat
  p_NoText : Pos
  q_NoText : Pos
  p0_NoText : Pos
  p1_NoText : Pos
  p2_NoText : Pos
  p3_NoText : Pos
  p4_NoText : Pos
  p5_NoText : Pos
  p6_NoText : Pos
  p7_NoText : Pos
  p8_NoText : Pos
  p9_NoText : Pos
  fd_NoText : FuncData
  n_NoText : KV.NfX P K mg "NoText" a_NoText f_NoText cc_NoText cda_NoText t_NoText j_NoText p_NoText q_NoText p0_NoText p1_NoText p2_NoText p3_NoText p4_NoText p5_NoText p6_NoText p7_NoText p8_NoText p9_NoText fd_NoText
  xf_NoText : L2.XfC K a_NoText
  hD_NoText : KV.ExHD K a_GatherError [a_NoShares, a_NoKind, a_NoNumber, a_NoNeeds, a_TooMany, a_NoText] a_NoText 5
section
variable {P : Program} {w : World} {K : PySem.W.Frag} {mg : Str → Option Value} {base : Heap}
theorem ok_is_whole (T : Tx P K mg) : FnOk P w K mg base CX0 1 T.a_is_whole T.d_is_whole ["thing"] (spP K (S1 F_is_whole)) :=
  T.F_is_whole.ok sc_is_whole (fun vs H Q E h => len1 h) (fun cdv A outer s H vs Q E hr h => body_p (N := ["thing"]) (s := B_is_whole) (by unfold B_is_whole; exact
    (qss_one (qs_ret (pp_and (pp_isi (T := "int") (by rfl) T.m_isinstance bt_isinstance (pe_bltn (v := .ty "int") (by rfl) T.m_int bt_int rfl) (mp_var 0 (pv 0))) (pp_one (pp_not (pp_isi (T := "bool") (by rfl) T.m_isinstance bt_isinstance (pe_bltn (v := .ty "bool") (by rfl) T.m_bool bt_bool rfl) (mp_var 0 (pv 0))))))))) (rn1 (c := []) (p := F_is_whole) (fun a0 k q => by rw [e_is_whole] at q; exact q)) h)
theorem ok_is_whole_within (T : Tx P K mg) : FnOk P w K mg base CX0 2 T.a_is_whole_within T.d_is_whole_within ["thing", "least", "most"] (spP K (S3 F_is_whole_within)) :=
  T.F_is_whole_within.ok sc_is_whole_within (fun vs H Q E h => len3 h) (fun cdv A outer s H vs Q E hr h => body_p (N := ["thing", "least", "most"]) (s := B_is_whole_within) (by unfold B_is_whole_within; exact
    (qss_one (qs_ret (pp_and (pp_call (ok_is_whole T) (hr.mono (by decide)) (by rfl) T.g_is_whole T.F_is_whole.kp T.b_is_whole (pps_cons (mp_var 0 (pv 0)) pps_nil)) (pp_one (pp_chain op_le opv_mcmp op_le opv_mcmp (mp_var 1 (pv 1)) (mp_var 0 (pv 0)) (mp_var 2 (pv 2)))))))) (rn3 (c := []) (p := F_is_whole_within) (fun a0 a1 a2 k q => by rw [e_is_whole_within] at q; exact q)) h)
theorem ok_is_shares (T : Tx P K mg) : FnOk P w K mg base CX0 3 T.a_is_shares T.d_is_shares ["thing"] (spP K (S1 F_is_shares)) :=
  T.F_is_shares.ok sc_is_shares (fun vs H Q E h => len1 h) (fun cdv A outer s H vs Q E hr h => body_p (N := ["thing", "share"]) (s := B_is_shares) (by unfold B_is_shares; exact
    (qss_cons (qs_if (PBw.pb (pbw_or (pb_not (pb_val (pp_isi (T := "tuple") (by rfl) T.m_isinstance bt_isinstance (pe_bltn (v := .ty "tuple") (by rfl) T.m_tuple bt_tuple rfl) (mp_var 0 (pv 0))))) (pbw_or1 (pb_not (pb_chain op_le opv_mcmp op_le opv_mcmp pp_int (pp_callB (r := rLenZ K) call_lenZ cv_len (by rfl) T.m_len bt_len (pps_cons (mp_var 0 (pv 0)) pps_nil)) (pp_glob (by rfl) T.c_MOST_KINDS)))))) (qss_one (qs_ret pp_bl)) qss_nil)
    (qss_one (qs_ret (pp_callB (r := rAll K) (cr_all rfl) cv_all (by rfl) T.m_all bt_all (pps_cons (PF.pp (pf_lc (own := [("share", 1)]) (g := (gName 1)) rfl sc_is_shares.nd (qi_seq (mp_var 0 (pv 0))) (blkOk_by (N := ["thing", "share"]) (sc := defScope s_is_shares) (by decide +kernel)) (gx_name (i := 1)) (by decide) (fun _ _ _ _ _ => (pg_name (i := 1) sc_is_shares.nd rfl (Or.inl rfl))) (fun _ _ _ _ _ => pbs_nil) (fun _ _ _ _ _ => (pp_call (ok_is_whole_within T) (hr.mono (by decide)) (by rfl) T.g_is_whole_within T.F_is_whole_within.kp T.b_is_whole_within (pps_cons (mp_var 1 (pv 1)) (pps_cons pp_int (pps_cons (pp_glob (by rfl) T.c_MOST_SHARE) pps_nil))))))) pps_nil)))))) (rn1 (c := []) (p := F_is_shares) (fun a0 k q => by rw [e_is_shares] at q; exact q)) h)
theorem ok_check_shares (T : Tx P K mg) : FnOk P w K mg base CX0 4 T.a_check_shares T.d_check_shares ["thing"] (spP K (S1 F_check_shares)) :=
  T.F_check_shares.ok sc_check_shares (fun vs H Q E h => len1 h) (fun cdv A outer s H vs Q E hr h => body_p (N := ["thing"]) (s := B_check_shares) (by unfold B_check_shares; exact
    (qss_one (qs_if (pb_not (pb_val (pp_call (ok_is_shares T) (hr.mono (by decide)) (by rfl) T.g_is_shares T.F_is_shares.kp T.b_is_shares (pps_cons (mp_var 0 (pv 0)) pps_nil)))) (qss_one qs_never) qss_nil))) (rn1 (c := []) (p := F_check_shares) (fun a0 k q => by rw [e_check_shares] at q; exact q)) h)
theorem ok_show (T : Tx P K mg) : FnOk P w K mg base CX0 5 T.a_show T.d_show ["shares"] (spP K (S1 F_show)) :=
  T.F_show.ok sc_show (fun vs H Q E h => len1 h) (fun cdv A outer s H vs Q E hr h => body_p (N := ["shares", "share"]) (s := B_show) (by unfold B_show; exact
    (qss_cons (qs_expr (pp_call (ok_check_shares T) (hr.mono (by decide)) (by rfl) T.g_check_shares T.F_check_shares.kp T.b_check_shares (pps_cons (mp_var 0 (pv 0)) pps_nil)))
    (qss_one (qs_ret (pp_join pp_str (PF.pp (pf_lc (own := [("share", 1)]) (g := (gName 1)) rfl sc_show.nd (qi_seq (mp_var 0 (pv 0))) (blkOk_by (N := ["shares", "share"]) (sc := defScope s_show) (by decide +kernel)) (gx_name (i := 1)) (by decide) (fun _ _ _ _ _ => (pg_name (i := 1) sc_show.nd rfl (Or.inl rfl))) (fun _ _ _ _ _ => pbs_nil) (fun _ _ _ _ _ => (pp_callTy call_str_int cv_str (by rfl) T.m_str bt_str (pps_cons (mp_var 1 (pv 1)) pps_nil)))))))))) (rn1 (c := []) (p := F_show) (fun a0 k q => by rw [e_show] at q; exact q)) h)
theorem ok_is_share_word (T : Tx P K mg) : FnOk P w K mg base CX0 1 T.a_is_share_word T.d_is_share_word ["word"] (spP K (S1 F_is_share_word)) :=
  T.F_is_share_word.ok sc_is_share_word (fun vs H Q E h => len1 h) (fun cdv A outer s H vs Q E hr h => body_p (N := ["word", "share"]) (s := B_is_share_word) (by unfold B_is_share_word; exact
    (qss_one (qs_ret (pp_cmp (r := rOr (rIn K false) (rInM false)) (opr_in hr.units) opv_mIn (mp_var 0 (pv 0)) (PF.pp (pf_lc (own := [("share", 1)]) (g := (gName 1)) rfl sc_is_share_word.nd (qi_rng2 (by rfl) T.m_range pp_int (mp_addT (pp_glob (by rfl) T.c_MOST_SHARE) pp_int)) (blkOk_by (N := ["word", "share"]) (sc := defScope s_is_share_word) (by decide +kernel)) (gx_name (i := 1)) (by decide) (fun _ _ _ _ _ => (pg_name (i := 1) sc_is_share_word.nd rfl (Or.inl rfl))) (fun _ _ _ _ _ => pbs_nil) (fun _ _ _ _ _ => (pp_callTy call_str_int cv_str (by rfl) T.m_str bt_str (pps_cons (mp_var 1 (pv 1)) pps_nil))))) (by rfl))))) (rn1 (c := []) (p := F_is_share_word) (fun a0 k q => by rw [e_is_share_word] at q; exact q)) h)
theorem ok_read (T : Tx P K mg) : FnOk P w K mg base (L2N.CX P w) 3 T.a_read T.d_read ["text"] (spX K mg (S1 F_read)) :=
  okN T.F_read sc_read (fun vs H Q E h => lnX ln1 h) (fun cdv A outer s H vs Q E tk po hr h => body_x (N := ["text", "words", "at", "word"]) (s := B_read) (by unfold B_read; exact
    (qxs_cons (qx_if (pb_not (pb_val (pp_isi (T := "str") (by rfl) T.m_isinstance bt_isinstance (pe_bltn (v := .ty "str") (by rfl) T.m_str bt_str rfl) (mp_var 0 (pv 0))))) (qxs_one (qx_raiseF (k := 0) rfl tk T.n_NoText (hr.mono (by decide)) (by rfl) pp_int)) qxs_nil)
    (qxs_cons (qx_of (qs_set (i := 1) (fun he => ps_set (i := 1) sc_read.nd rfl (Or.inl rfl) he) (pp_split (mp_var 0 (pv 0)) pp_str)))
    (qxs_cons (qx_for po rfl (qi_enumL (by rfl) T.m_enumerate (mp_var 1 (pv 1))) (pg_tup (by rfl) (pgs_cons (pg_name (i := 2) sc_read.nd rfl (Or.inl rfl)) (pgs_cons (pg_name (i := 3) sc_read.nd rfl (Or.inl rfl)) pgs_nil))) (gv_tup (gvs_cons (gv_name (i := 2)) (gvs_cons (gv_name (i := 3)) gvs_nil))) (qxs_one (qx_if (PBw.pb (pbw_or (pb_cmp (r := rOr rEq (rEqD K)) (opr_eq hr.units) opv_mEq (mp_var 2 (pv 2)) (pp_glob (by rfl) T.c_MOST_KINDS) (nomark _)) (pbw_or1 (pb_not (pb_val (pp_call (ok_is_share_word T) (hr.mono (by decide)) (by rfl) T.g_is_share_word T.F_is_share_word.kp T.b_is_share_word (pps_cons (mp_var 3 (pv 3)) pps_nil))))))) (qxs_one (qx_raiseF (k := 0) rfl tk T.n_NoText (hr.mono (by decide)) (by rfl) (mp_var 2 (pv 2)))) qxs_nil)))
    (qxs_one (qx_of (qs_ret (pp_callTy (r := rTupS K) call_tupleS cm_tuple (by rfl) T.m_tuple bt_tuple (pps_cons (PF.pp (pf_lc (own := [("word", 3)]) (g := (gName 3)) rfl sc_read.nd (qi_seq (mp_var 1 (pv 1))) (blkOk_by (N := ["text", "words", "at", "word"]) (sc := defScope s_read) (by decide +kernel)) (gx_name (i := 3)) (by decide) (fun _ _ _ _ _ => (pg_name (i := 3) sc_read.nd rfl (Or.inl rfl))) (fun _ _ _ _ _ => pbs_nil) (fun _ _ _ _ _ => (pp_callTy (r := rIntT) call_intT cm_intT (by rfl) T.m_int bt_int (pps_cons (mp_var 3 (pv 3)) pps_nil))))) pps_nil))))))))) (rn1 (c := []) (p := F_read) (fun a0 k q => by rw [e_read] at q; exact q)) h)
theorem ok__law_cell (T : Tx P K mg) : FnOk P w K mg base CX0 1 T.a__law_cell T.d__law_cell ["_law_script", "_law_k"] (sp__law_cell K) := by
  refine T.F__law_cell.ok sc__law_cell (fun vs H Q E h => ?_) (fun cdv A outer s H vs Q E hr h => ?_)
  · obtain ⟨a, ns, k, rfl, _⟩ := h; rfl
  obtain ⟨a, ns, k, rfl, hS, q⟩ := h
  refine ⟨_, (pss_cons (ps_if (pt_cmpR op_lt (pv 1) (pe_callB (r := Evl.rLenS K) call_len_seq (by rfl) T.m_len bt_len (pa_cons (pv 0) pa_nil)) (nomark _)) (pss_one (ps_ret (pe_ix (r := rIxL K) ix_list (pv 0) (pv 1) (fun _ _ => rfl)))) pss_nil)
      (pss_one (ps_ret pe_int))), ?_⟩
  refine ⟨_, rfl, _, rfl, a, _, rfl, .inl hS, (k : Int), _, rfl, rfl, _, rfl, ite2 (fun e => ?_) (fun e => ?_)⟩
  · have hk : k < ns.length := by
      have := of_decide_eq_true e
      rw [List.length_map] at this
      omega
    refine ⟨_, rfl, _, rfl, a, _, (k : Int), .int ns[k], rfl, rfl, hS, atI_nat ?_, q _⟩
    rw [List.getElem?_map, List.getElem?_eq_getElem hk]
    rfl
  · exact q 0

theorem ok__law_mix (T : Tx P K mg) : FnOk P w K mg base CX0 1 T.a__law_mix T.d__law_mix ["_law_cell_here", "_law_k"] sp__law_mix := by
  refine T.F__law_mix.ok sc__law_mix (fun vs H Q E h => ?_) (fun cdv A outer s H vs Q E hr h => ?_)
  · obtain ⟨a, k, rfl, _⟩ := h; rfl
  obtain ⟨c, k, rfl, hk, q⟩ := h
  refine ⟨_, (pss_cons (ps_set (i := 2) sc__law_mix.nd rfl (Or.inl rfl) (pe_lst (pa_cons pe_int (pa_cons pe_int (pa_cons pe_int (pa_cons pe_int (pa_cons pe_int (pa_cons pe_int (pa_cons pe_int (pa_cons pe_int (pa_cons pe_int (pa_cons pe_int (pa_cons pe_int (pa_cons pe_int (pa_cons pe_int pa_nil)))))))))))))))
      (pss_cons (ps_set (i := 3) sc__law_mix.nd rfl (Or.inl rfl) (pe_op op_mul (pe_op op_add (pe_op op_mod (pv 0) pe_int) pe_int) (pe_ix (r := rIxL K) ix_list (pv 2) (pe_op op_mod (pv 1) pe_int) (fun _ _ => rfl))))
      (pss_cons (ps_set (i := 3) sc__law_mix.nd rfl (Or.inl rfl) (pe_op op_add (pe_op op_add (pv 3) (pe_op op_mul pe_int (pv 1))) (pe_op op_mul pe_int (pe_op op_fdivW (pv 1) pe_int))))
      (pss_cons (ps_set (i := 3) sc__law_mix.nd rfl (Or.inl rfl) (pe_op op_mod (pv 3) pe_int))
      (pss_one (ps_ret (pe_op op_fdivW (pe_op op_mod (pe_op op_add (pe_op op_mul (pv 3) (pv 3)) (pe_op op_mul pe_int (pv 1))) pe_int) pe_int))))))), ?_⟩
  refine ⟨by decide, fun p hp => ?_⟩
  have hm : (k : Int) % 13 = ((k % 13 : Nat) : Int) := by omega
  have h13 : k % 13 < 13 := Nat.mod_lt _ (by decide)
  obtain ⟨z, hz⟩ : ∃ z : Int, ([V.int 48271, .int 69621, .int 16807, .int 39373, .int 30269, .int 40014, .int 40692, .int 50021, .int 61687, .int 71993, .int 83869, .int 95561, .int 30307])[k % 13]? = some (.int z) := by
    generalize k % 13 = m at h13
    match m, h13 with
    | 0, _ => exact ⟨_, rfl⟩
    | 1, _ => exact ⟨_, rfl⟩
    | 2, _ => exact ⟨_, rfl⟩
    | 3, _ => exact ⟨_, rfl⟩
    | 4, _ => exact ⟨_, rfl⟩
    | 5, _ => exact ⟨_, rfl⟩
    | 6, _ => exact ⟨_, rfl⟩
    | 7, _ => exact ⟨_, rfl⟩
    | 8, _ => exact ⟨_, rfl⟩
    | 9, _ => exact ⟨_, rfl⟩
    | 10, _ => exact ⟨_, rfl⟩
    | 11, _ => exact ⟨_, rfl⟩
    | 12, _ => exact ⟨_, rfl⟩
  have c1 := Int.emod_nonneg c (show (2147483647 : Int) ≠ 0 by decide)
  have c2 := Int.emod_lt_of_pos c (show (0 : Int) < 2147483647 by decide)
  refine ⟨_, rfl, c, 2147483647, rfl, rfl, (by show (0 : Int) < 2147483647; decide), _, _, rfl, rfl, _, rfl, _, rfl, k, 13, rfl, rfl, (by show (0 : Int) < 13; decide), p, _, _, .int z, rfl, rfl, .inl (.inl upd_same), at_of hm hz, _, z, rfl, rfl, .inl ⟨by omega, by omega⟩, ?_⟩
  refine ⟨_, rfl, _, rfl, 977, k, rfl, rfl, .inl ⟨by omega, by omega⟩, _, _, rfl, rfl, _, rfl, k, 13, rfl, rfl, ⟨by decide, by decide⟩, 7919, _, rfl, rfl, .inl ⟨by omega, by omega⟩, _, _, rfl, rfl, ?_⟩
  refine ⟨_, rfl, _, 1000000007, rfl, rfl, (by show (0 : Int) < 1000000007; decide), ?_⟩
  refine ⟨_, rfl, _, rfl, _, _, rfl, rfl, .inl ⟨Int.lt_of_lt_of_le (by decide) (Int.emod_nonneg _ (by decide)), Int.lt_trans (Int.emod_lt_of_pos _ (by decide)) (by decide)⟩, _, rfl, 48271, k, rfl, rfl, .inl ⟨by omega, by omega⟩, _, _, rfl, rfl, _, 1000000007, rfl, rfl, (by show (0 : Int) < 1000000007; decide), _, 7, rfl, rfl, ⟨by decide, by decide⟩, ?_⟩
  exact q _ _ (same_new hp)

theorem ok__law_box (T : Tx P K mg) : FnOk P w K mg base CX0 2 T.a__law_box T.d__law_box ["_law_script", "_law_k"] (spBox K) := by
  refine T.F__law_box.ok sc__law_box (fun vs H Q E h => ?_) (fun cdv A outer s H vs Q E hr h => ?_)
  · obtain ⟨a, ns, k, rfl, _⟩ := h; rfl
  obtain ⟨a, ns, k, rfl, hS, q⟩ := h
  refine ⟨_, (pss_cons (ps_set (i := 2) sc__law_box.nd rfl (Or.inl rfl) (pe_call (ok__law_cell T) (hr.mono (by decide)) (by rfl) T.g__law_cell T.F__law_cell.kp T.b__law_cell .nil pass0 (pa_cons (pv 0) (pa_cons (pv 1) pa_nil))))
      (pss_cons (ps_if (pt_cmpR op_eq (pe_op op_mod (pv 2) pe_int) pe_int (nomark _)) (pss_one (ps_ret (pe_lst (pa_cons (pe_op op_fdiv (pe_callB call_abs (by rfl) T.m_abs bt_abs (pa_cons (pv 2) pa_nil)) pe_int) pa_nil)))) pss_nil)
      (pss_cons (ps_set (i := 3) sc__law_box.nd rfl (Or.inl rfl) pe_int)
      (pss_cons (ps_for PassesOwn.never rfl (pi_range1 (by rfl) T.m_range (pa_cons pe_int pa_nil)) (pg_name (i := 4) sc__law_box.nd rfl (Or.inl rfl)) (pss_one (ps_set (i := 3) sc__law_box.nd rfl (Or.inl rfl) (pe_op op_add (pe_op op_mul (pv 3) pe_int) (pe_call (ok__law_mix T) (hr.mono (by decide)) (by rfl) T.g__law_mix T.F__law_mix.kp T.b__law_mix .nil pass0 (pa_cons (pv 2) (pa_cons (pv 4) pa_nil)))))))
      (pss_one (ps_ret (pe_lst (pa_cons (pv 3) pa_nil)))))))), ?_⟩
  refine ⟨_, rfl, _, rfl, a, ns, k, rfl, hS, fun c => ?_⟩
  refine ⟨_, rfl, c, 2, rfl, rfl, (by show (0 : Int) < 2; decide), rfl, _, rfl, ite2 (fun _ => ?_) (fun _ => ?_)⟩
  · exact ⟨_, rfl, c, rfl, _, 2, rfl, rfl, ⟨by decide, by decide⟩, sz1, fun p hp => q _ p _ (same_new hp) hp upd_same⟩
  · refine ⟨40, rfl, by decide, by decide, for_range (n := 40) (fun i σ H' => ∃ n y, σ = [some (.ref a), some (.int k), some (.int c), some (.int n), y] ∧ Same H H') ⟨0, none, rfl, Same.refl _⟩ ?_ ?_⟩
    · rintro i σ H' hi ⟨n, y, rfl, sm⟩
      refine ⟨_, rfl, n, 142857143, rfl, rfl, .inr ⟨by decide, by decide⟩, _, rfl, _, rfl, c, i, ?_, by omega, fun H2 v sm2 => ?_⟩
      · rw [Int.zero_add]; rfl
      · exact ⟨_, _, rfl, rfl, _, _, rfl, sm.trans sm2⟩
    · rintro σ H' ⟨n, y, rfl, sm⟩
      exact ⟨_, rfl, sz1, fun p hp => q _ p _ (sm.trans (same_new hp)) (sm.free hp) upd_same⟩

theorem okH__law_take (T : Tx P K mg) : FnOk P w K mg base CX0 1 T.a__law_take T.d__law_take ["_law_box_here", "_law_many"] spTake := by
  refine T.F__law_take.ok sc__law_take (fun vs H Q E h => ?_) (fun cdv A outer s H vs Q E hr h => ?_)
  · obtain ⟨b, n, m, rfl, _⟩ := h; rfl
  obtain ⟨b, n, m, rfl, hB, h0, hl, q⟩ := h
  refine ⟨_, (pss_cons (ps_asg (pe_callB call_divmodW (by rfl) T.m_divmod bt_divmod (pa_cons (pe_ix (r := rIxL K) ix_list (pv 0) pe_int (fun _ _ => rfl)) (pa_cons (pv 1) pa_nil))) (pg_tup (by rfl) (pgs_cons (pg_name (i := 2) sc__law_take.nd rfl (Or.inl rfl)) (pgs_cons (pg_name (i := 3) sc__law_take.nd rfl (Or.inl rfl)) pgs_nil))))
      (pss_cons (ps_asg (pv 2) (pg_sub (pv 0) pe_int set_list))
      (pss_one (ps_ret (pv 3))))), ?_⟩
  refine ⟨_, rfl, b, _, 0, _, rfl, rfl, .inl (.inl hB), rfl, _, rfl, n, m, rfl, noPy h0 hl, fun p hp => ?_⟩
  have nb : b ≠ p := ne_of_none hB hp
  refine ⟨p, _, rfl, .inl (.inl upd_same), rfl, _, _, rfl, _, _, rfl, rfl, ?_⟩
  refine ⟨_, rfl, _, rfl, b, [.int n], 0, 0, rfl, rfl, ?_, rfl, ?_⟩
  · rw [upd_ne nb]; exact hB
  · refine ⟨_, rfl, q _ (n / m) (n % m) ?_ upd_same (Int.emod_nonneg _ (by omega)) (Int.emod_lt_of_pos _ h0)⟩
    intro a o na ea
    rw [upd_ne na]
    exact same_new hp a o ea
theorem ok__law_take (T : Tx P K mg) : FnOk P w K mg base CX0 1 T.a__law_take T.d__law_take ["_law_box_here", "_law_many"] (spB K (S1 F__law_take)) := KV.FnOk.weak (okH__law_take T) take_of

theorem whole_says : ∀ k : Int, F__law_whole (.int k) fun v => v = .bl true := fun k => by rw [e__law_whole]; exact rfl
theorem ok__law_whole (T : Tx P K mg) : FnX P w K mg base 1 T.a__law_whole T.d__law_whole ["_law_thing"] (spHv K (S1 F__law_whole)) :=
  okH T.F__law_whole sc__law_whole (fun p vs H Q h => len1 h) (fun cdv A outer s H vs Q p hot hr h => body_p (N := ["_law_thing"]) (s := B__law_whole) (by unfold B__law_whole; exact
    (qss_one (qs_ret (pp_and (pp_isi (T := "int") (by rfl) T.m_isinstance bt_isinstance (pe_bltn (v := .ty "int") (by rfl) T.m_int bt_int rfl) (mp_var 0 (pv 0))) (pp_one (pp_not (pp_isi (T := "bool") (by rfl) T.m_isinstance bt_isinstance (pe_bltn (v := .ty "bool") (by rfl) T.m_bool bt_bool rfl) (mp_var 0 (pv 0))))))))) (rn1 (c := []) (p := F__law_whole) (fun a0 k q => by rw [e__law_whole] at q; exact q)) h)
theorem ok__law_sign (T : Tx P K mg) : FnOk P w K mg base CX0 2 T.a__law_sign T.d__law_sign ["_law_box_here"] (spB K (S0 F__law_sign)) :=
  T.F__law_sign.ok sc__law_sign (fun vs H Q E h => lenB ln0 h) (fun cdv A outer s H vs Q E hr h => body_b (N := ["_law_box_here", "_law_row"]) (s := B__law_sign) (by unfold B__law_sign; exact
    (qss_cons (qs_set (i := 1) (fun he => ps_set (i := 1) sc__law_sign.nd rfl (Or.inl rfl) he) pp_str)
    (qss_one (qs_ret (mp_atT hr.units (mp_var 1 (pv 1)) (pp_callBx (i := 0) (ok__law_take T) (hr.mono (by decide)) (by rfl) T.g__law_take T.F__law_take.kp T.b__law_take (pv 0) (pps_cons (pp_callB (r := KV.rLenT K) call_lenT cv_lenT (by rfl) T.m_len bt_len (pps_cons (mp_var 1 (pv 1)) pps_nil)) pps_nil)) (fun _ _ => rfl)))))) (rn0 (c := [.box]) (p := F__law_sign) (fun  k q => by rw [e__law_sign] at q; exact q)) h)
theorem ok__law_drawn_shares (T : Tx P K mg) : FnOk P w K mg base CX0 2 T.a__law_drawn_shares T.d__law_drawn_shares ["_law_box_here", "_law_most", "_law_top"] (spB K (S2 F__law_drawn_shares)) :=
  T.F__law_drawn_shares.ok sc__law_drawn_shares (fun vs H Q E h => lenB ln2 h) (fun cdv A outer s H vs Q E hr h => body_b (N := ["_law_box_here", "_law_most", "_law_top", "_law_many", "_law_kind", "_law_place"]) (s := B__law_drawn_shares) (by unfold B__law_drawn_shares; exact
    (qss_cons (qs_set (i := 3) (fun he => ps_set (i := 3) sc__law_drawn_shares.nd rfl (Or.inl rfl) he) (mp_addT pp_int (pp_callBx (i := 0) (ok__law_take T) (hr.mono (by decide)) (by rfl) T.g__law_take T.F__law_take.kp T.b__law_take (pv 0) (pps_cons (mp_var 1 (pv 1)) pps_nil))))
    (qss_cons (qs_set (i := 4) (fun he => ps_set (i := 4) sc__law_drawn_shares.nd rfl (Or.inr rfl) he) (pp_callBx (i := 0) (ok__law_take T) (hr.mono (by decide)) (by rfl) T.g__law_take T.F__law_take.kp T.b__law_take (pv 0) (pps_cons pp_int pps_nil)))
    (qss_cons (qs_if (pb_cmp (r := rOr rEq (rEqD K)) (opr_eq hr.units) opv_mEq (mp_var 4 (pv 4)) pp_int (nomark _)) (qss_one (qs_ret (mp_mul (pp_tup (pps_cons (mp_addT pp_int (pp_callBx (i := 0) (ok__law_take T) (hr.mono (by decide)) (by rfl) T.g__law_take T.F__law_take.kp T.b__law_take (pv 0) (pps_cons (mp_var 2 (pv 2)) pps_nil))) pps_nil)) (mp_var 3 (pv 3))))) qss_nil)
    (qss_one (qs_ret (pp_callTy (r := rTupS K) call_tupleS cm_tuple (by rfl) T.m_tuple bt_tuple (pps_cons (PF.pp (pf_lc (own := [("_law_place", 5)]) (g := (gName 5)) rfl sc__law_drawn_shares.nd (qi_rng1 (by rfl) T.m_range (mp_var 3 (pv 3))) (blkOk_by (N := ["_law_box_here", "_law_most", "_law_top", "_law_many", "_law_kind", "_law_place"]) (sc := defScope s__law_drawn_shares) (by decide +kernel)) (gx_name (i := 5)) (by decide) (fun _ _ _ _ _ => (pg_name (i := 5) sc__law_drawn_shares.nd rfl (Or.inl rfl))) (fun _ _ _ _ _ => pbs_nil) (fun _ _ _ _ _ => (mp_addT pp_int (pp_callBx (i := 0) (ok__law_take T) (hr.mono (by decide)) (by rfl) T.g__law_take T.F__law_take.kp T.b__law_take (pv 0) (pps_cons (mp_atT hr.units (PF.pp (pf_lst (pps_cons (mp_var 2 (pv 2)) (pps_cons pp_int (pps_cons (mp_var 2 (pv 2)) pps_nil))))) (mp_sub (mp_var 4 (pv 4)) pp_int) (fun _ _ => rfl)) pps_nil)))))) pps_nil)))))))) (rn2 (c := [.box]) (p := F__law_drawn_shares) (fun a0 a1 k q => by rw [e__law_drawn_shares] at q; exact q)) h)
theorem ok__law_odd (T : Tx P K mg) : FnOk P w K mg base CX0 2 T.a__law_odd T.d__law_odd ["_law_box_here"] (spB K (S0 F__law_odd)) :=
  T.F__law_odd.ok sc__law_odd (fun vs H Q E h => lenB ln0 h) (fun cdv A outer s H vs Q E hr h => body_b (N := ["_law_box_here", "_law_some"]) (s := B__law_odd) (by unfold B__law_odd; exact
    (qss_cons (qs_set (i := 1) (fun he => ps_set (i := 1) sc__law_odd.nd rfl (Or.inl rfl) he) (PF.pp (pf_lst (pps_consL pp_non (pps_consL pp_bl (pps_consL pp_bl (pps_consL (pp_neg pp_int) (pps_consL pp_int (pps_consL pp_int (pps_consL pp_str (pps_consL pp_str (pps_consL (pp_tup pps_nil) (pps_consL (PF.pp (pf_lst pps_nil)) (pps_consL (pp_tup (pps_cons pp_int pps_nil)) (pps_consL (PF.pp (pf_lst (pps_cons pp_int pps_nil))) (pps_consL (pp_tup (pps_cons pp_int (pps_cons pp_int pps_nil))) (pps_consL (PF.pp pf_dispS) (pps_consL (PF.pp pf_dnew) (pps_consL (mp_pow pp_int pp_int) (pps_consL (pp_tup (pps_cons pp_int (pps_cons pp_int pps_nil))) (pps_consL (pp_tup (pps_cons pp_int (pps_cons pp_int pps_nil))) pps_nil)))))))))))))))))))))
    (qss_one (qs_ret (mp_atT hr.units (mp_addT (mp_var 1 (pv 1)) (PF.pp (pf_lst (pps_cons (pp_tup (pps_cons (pp_tup (pps_cons pp_int (pps_cons pp_int pps_nil))) pps_nil)) (pps_cons (pp_tup (pps_cons pp_int (pps_cons pp_int pps_nil))) (pps_cons (pp_tup (pps_cons pp_int (pps_cons (pp_neg pp_int) pps_nil))) (pps_cons (pp_tup (pps_cons pp_bl (pps_cons pp_int pps_nil))) (pps_cons (pp_tup (pps_cons pp_int (pps_cons pp_int (pps_cons pp_int pps_nil)))) (pps_cons (pp_tup (pps_cons (PF.pp (pf_lst (pps_cons pp_int pps_nil))) pps_nil)) pps_nil))))))))) (pp_callBx (i := 0) (ok__law_take T) (hr.mono (by decide)) (by rfl) T.g__law_take T.F__law_take.kp T.b__law_take (pv 0) (pps_cons pp_int pps_nil)) (fun _ _ => rfl)))))) (rn0 (c := [.box]) (p := F__law_odd) (fun  k q => by rw [e__law_odd] at q; exact q)) h)
theorem ok__law_marks (T : Tx P K mg) : FnX P w K mg base 1 T.a__law_marks T.d__law_marks ["_law_e"] (spMkD K T.a_GatherError [T.a_NoShares, T.a_NoKind, T.a_NoNumber, T.a_NoNeeds, T.a_TooMany, T.a_NoText]) :=
  okH T.F__law_marks sc__law_marks (fun p vs H Q h => by obtain ⟨_, h⟩ := h; rw [h.1]; rfl) (fun cdv A outer s H vs Q p hot hr h => ⟨_, (pss_cons (ps_if (PW.pt (pw_or (pt_not (pt_val (pe_callB (r := rIsD K p) (call_isD (List.mem_singleton.mpr rfl)) (by rfl) T.m_isinstance bt_isinstance (pa_cons (pv 0) (pa_cons (pe_glob (v := .ref T.a_GatherError) (by rfl) T.g_GatherError rfl) pa_nil))))) (pw_or1 (pt_not (pt_val (pe_callB (r := rIsD K p) (call_isD (List.mem_singleton.mpr rfl)) (by rfl) T.m_isinstance bt_isinstance (pa_cons (pv 0) (pa_cons (pe_bltn (v := .ty "ValueError") (by rfl) T.m_ValueError bt_ValueError rfl) pa_nil)))))))) (pss_one (ps_ret pe_str)) pss_nil) (pss_cons (ps_set (i := 1) sc__law_marks.nd rfl (Or.inl rfl) (pe_lst (pa_cons (pe_callB (r := rIsD K p) (call_isD (List.mem_singleton.mpr rfl)) (by rfl) T.m_isinstance bt_isinstance (pa_cons (pv 0) (pa_cons (pe_glob (v := .ref T.a_NoShares) (by rfl) T.g_NoShares rfl) pa_nil))) (pa_cons (pe_callB (r := rIsD K p) (call_isD (List.mem_singleton.mpr rfl)) (by rfl) T.m_isinstance bt_isinstance (pa_cons (pv 0) (pa_cons (pe_glob (v := .ref T.a_NoKind) (by rfl) T.g_NoKind rfl) pa_nil))) (pa_cons (pe_callB (r := rIsD K p) (call_isD (List.mem_singleton.mpr rfl)) (by rfl) T.m_isinstance bt_isinstance (pa_cons (pv 0) (pa_cons (pe_glob (v := .ref T.a_NoNumber) (by rfl) T.g_NoNumber rfl) pa_nil))) (pa_cons (pe_callB (r := rIsD K p) (call_isD (List.mem_singleton.mpr rfl)) (by rfl) T.m_isinstance bt_isinstance (pa_cons (pv 0) (pa_cons (pe_glob (v := .ref T.a_NoNeeds) (by rfl) T.g_NoNeeds rfl) pa_nil))) pa_nil)))))) (pss_cons (ps_set (i := 1) sc__law_marks.nd rfl (Or.inl rfl) (pe_op op_cat (pv 1) (pe_lst (pa_cons (pe_callB (r := rIsD K p) (call_isD (List.mem_singleton.mpr rfl)) (by rfl) T.m_isinstance bt_isinstance (pa_cons (pv 0) (pa_cons (pe_glob (v := .ref T.a_TooMany) (by rfl) T.g_TooMany rfl) pa_nil))) (pa_cons (pe_callB (r := rIsD K p) (call_isD (List.mem_singleton.mpr rfl)) (by rfl) T.m_isinstance bt_isinstance (pa_cons (pv 0) (pa_cons (pe_glob (v := .ref T.a_NoText) (by rfl) T.g_NoText rfl) pa_nil))) pa_nil))))) (pss_cons (ps_if (pt_cmpR op_ne (pe_bm PySem.F.plainAttrs_list PySem.F.slot_list_count PySem.F.type_list_count (mt_lcountB (show (A.deeper _).units + 65 < cLine from by have := hr.un; omega)) (pv 1) (pa_cons pe_bl pa_nil)) pe_int (nomark _)) (pss_one (ps_ret pe_str)) pss_nil) (pss_one (ps_ret (pe_ix ix_list (pe_lst (pa_cons pe_str (pa_cons pe_str (pa_cons pe_str (pa_cons pe_str (pa_cons pe_str (pa_cons pe_str pa_nil))))))) (pe_bm PySem.F.plainAttrs_list PySem.F.slot_list_index PySem.F.type_list_index (mt_indexD (show (A.deeper _).units + 65 < cLine from by have := hr.un; omega)) (pv 1) (pa_cons pe_bl pa_nil)) (by intro _ _; rfl)))))))), mkD_read rfl h⟩)
theorem ok__law_read (T : Tx P K mg) : FnOk P w K mg base CX0 1 T.a__law_read T.d__law_read ["_law_text"] (spP K (S1 F__law_read)) :=
  T.F__law_read.ok sc__law_read (fun vs H Q E h => len1 h) (fun cdv A outer s H vs Q E hr h => body_p (N := ["_law_text", "_law_words", "_law_at", "_law_word"]) (s := B__law_read) (by unfold B__law_read; exact
    (qss_cons (qs_set (i := 1) (fun he => ps_set (i := 1) sc__law_read.nd rfl (Or.inl rfl) he) (pp_split (mp_var 0 (pv 0)) pp_str))
    (qss_cons (qs_for PassesOwn.never rfl (qi_rng1 (by rfl) T.m_range (pp_callB (r := rLenZ K) call_lenZ cv_len (by rfl) T.m_len bt_len (pps_cons (mp_var 1 (pv 1)) pps_nil))) (pg_name (i := 2) sc__law_read.nd rfl (Or.inl rfl)) (gv_name (i := 2)) (qss_one (qs_if (PBw.pb (pbw_or (pb_cmp (r := rOr rEq (rEqD K)) (opr_eq hr.units) opv_mEq (mp_var 2 (pv 2)) pp_int (nomark _)) (pbw_or1 (pb_cmp (r := rOr (rIn K true) (rInM true)) (opr_notIn hr.units) opv_mIn (mp_atT hr.units (mp_var 1 (pv 1)) (mp_var 2 (pv 2)) (fun _ _ => rfl)) (PF.pp (pf_lst (pps_consL pp_str (pps_consL pp_str (pps_consL pp_str (pps_consL pp_str (pps_consL pp_str (pps_consL pp_str (pps_consL pp_str (pps_consL pp_str (pps_consL pp_str pps_nil))))))))))) (by rfl))))) (qss_one (qs_ret (mp_var 2 (pv 2)))) qss_nil)))
    (qss_one (qs_ret (pp_callTy (r := rTupS K) call_tupleS cm_tuple (by rfl) T.m_tuple bt_tuple (pps_cons (PF.pp (pf_lc (own := [("_law_word", 3)]) (g := (gName 3)) rfl sc__law_read.nd (qi_seq (mp_var 1 (pv 1))) (blkOk_by (N := ["_law_text", "_law_words", "_law_at", "_law_word"]) (sc := defScope s__law_read) (by decide +kernel)) (gx_name (i := 3)) (by decide) (fun _ _ _ _ _ => (pg_name (i := 3) sc__law_read.nd rfl (Or.inl rfl))) (fun _ _ _ _ _ => pbs_nil) (fun _ _ _ _ _ => (pp_callTy (r := rIntT) call_intT cm_intT (by rfl) T.m_int bt_int (pps_cons (mp_var 3 (pv 3)) pps_nil))))) pps_nil))))))) (rn1 (c := []) (p := F__law_read) (fun a0 k q => by rw [e__law_read] at q; exact q)) h)
theorem ok__law_said (T : Tx P K mg) : FnOk P w K mg base CX0 4 T.a__law_said T.d__law_said ["_law_thing"] (spP K (S1 F__law_said)) :=
  T.F__law_said.ok sc__law_said (fun vs H Q E h => len1 h) (fun cdv A outer s H vs Q E hr h => body_p (N := ["_law_thing", "_law_e"]) (s := B__law_said) (by unfold B__law_said; exact
    (qss_one (qs_tryF (i := 1) rfl rfl sc__law_said.nd rfl rfl ⟨by rfl, by decide, .inl T.g_GatherError⟩ T.g_NoText T.hD_NoText (fun W pn xe tk po => (qxs_one (qx_ret (px_call tk (ok_read T) (hr.mono (by decide)) (by rfl) T.g_read T.F_read.kp T.b_read (pps_cons (mp_var 0 (pv 0)) pps_nil))))) (fun a oe dx pn hz hd E hot => (PSs.weak (pss_cons (ps_if (PW.pt (pw_and (pt_cmpR op_eq (pe_callX (ok__law_marks T) ⟨(hr.mono (by decide : 1 ≤ _)).dp, (hr.mono (by decide : 1 ≤ _)).un⟩ hot List.mem_cons_self (by rfl) T.g__law_marks T.F__law_marks.kp T.b__law_marks (pa_cons (pv 1) pa_nil)) pe_str (nomark _)) (pw_and1 (pt_val (pe_callX (ok__law_whole T) ⟨(hr.mono (by decide : 1 ≤ _)).dp, (hr.mono (by decide : 1 ≤ _)).un⟩ hot List.mem_cons_self (by rfl) T.g__law_whole T.F__law_whole.kp T.b__law_whole (pa_cons (pe_xf T.xf_NoText T.n_NoText.n.no hz.zc hd (pv 1)) pa_nil)))))) (pss_one (ps_ret (pe_xf T.xf_NoText T.n_NoText.n.no hz.zc hd (pv 1)))) pss_nil) (pss_one (ps_ret (pe_callX (ok__law_marks T) ⟨(hr.mono (by decide : 1 ≤ _)).dp, (hr.mono (by decide : 1 ≤ _)).un⟩ hot List.mem_cons_self (by rfl) T.g__law_marks T.F__law_marks.kp T.b__law_marks (pa_cons (pv 1) pa_nil))))) (su_at hz E (hv_true whole_says))))))) (rn1 (c := []) (p := F__law_said) (fun a0 k q => by rw [e__law_said] at q; exact q)) h)
theorem ok__law_bent (T : Tx P K mg) : FnOk P w K mg base CX0 3 T.a__law_bent T.d__law_bent ["_law_box_here", "_law_text"] (spB K (S1 F__law_bent)) :=
  T.F__law_bent.ok sc__law_bent (fun vs H Q E h => lenB ln1 h) (fun cdv A outer s H vs Q E hr h => body_b (N := ["_law_box_here", "_law_text", "_law_words", "_law_at", "_law_to", "_law_where", "_law_mark", "_law_kind", "_law_other", "_law_odd_here", "_law_some"]) (s := B__law_bent) (by unfold B__law_bent; exact
    (qss_cons (qs_set (i := 2) (fun he => ps_set (i := 2) sc__law_bent.nd rfl (Or.inl rfl) he) (pp_split (mp_var 1 (pv 1)) pp_str))
    (qss_cons (qs_set (i := 3) (fun he => ps_set (i := 3) sc__law_bent.nd rfl (Or.inl rfl) he) (pp_callBx (i := 0) (ok__law_take T) (hr.mono (by decide)) (by rfl) T.g__law_take T.F__law_take.kp T.b__law_take (pv 0) (pps_cons (pp_callB (r := KV.rLenT K) call_lenT cv_lenT (by rfl) T.m_len bt_len (pps_cons (mp_var 2 (pv 2)) pps_nil)) pps_nil)))
    (qss_cons (qs_set (i := 4) (fun he => ps_set (i := 4) sc__law_bent.nd rfl (Or.inl rfl) he) (pp_callBx (i := 0) (ok__law_take T) (hr.mono (by decide)) (by rfl) T.g__law_take T.F__law_take.kp T.b__law_take (pv 0) (pps_cons (pp_callB (r := KV.rLenT K) call_lenT cv_lenT (by rfl) T.m_len bt_len (pps_cons (mp_var 2 (pv 2)) pps_nil)) pps_nil)))
    (qss_cons (qs_set (i := 5) (fun he => ps_set (i := 5) sc__law_bent.nd rfl (Or.inl rfl) he) (pp_callBx (i := 0) (ok__law_take T) (hr.mono (by decide)) (by rfl) T.g__law_take T.F__law_take.kp T.b__law_take (pv 0) (pps_cons (mp_addT (pp_callB (r := KV.rLenT K) call_lenT cv_lenT (by rfl) T.m_len bt_len (pps_cons (mp_var 1 (pv 1)) pps_nil)) pp_int) pps_nil)))
    (qss_cons (qs_set (i := 6) (fun he => ps_set (i := 6) sc__law_bent.nd rfl (Or.inl rfl) he) (pp_callBx (i := 0) (ok__law_sign T) (hr.mono (by decide)) (by rfl) T.g__law_sign T.F__law_sign.kp T.b__law_sign (pv 0) pps_nil))
    (qss_cons (qs_set (i := 7) (fun he => ps_set (i := 7) sc__law_bent.nd rfl (Or.inl rfl) he) (pp_callBx (i := 0) (ok__law_take T) (hr.mono (by decide)) (by rfl) T.g__law_take T.F__law_take.kp T.b__law_take (pv 0) (pps_cons pp_int pps_nil)))
    (qss_cons (qs_if (pb_cmp op_lt opv_mcmp (mp_var 7 (pv 7)) pp_int (nomark _)) (qss_one (qs_ret (mp_addT (mp_addT (pp_sliceZ (mp_var 1 (pv 1)) ppo_none (ppo_some (mp_var 5 (pv 5)))) (mp_atT hr.units (PF.pp (pf_lst (pps_cons (mp_var 6 (pv 6)) (pps_cons pp_str (pps_cons (mp_var 6 (pv 6)) pps_nil))))) (mp_var 7 (pv 7)) (fun _ _ => rfl))) (pp_sliceZ (mp_var 1 (pv 1)) (ppo_some (mp_addT (mp_var 5 (pv 5)) (pp_callTy (r := rIntT) call_intT cm_intT (by rfl) T.m_int bt_int (pps_cons (pp_cmp op_gt opv_mcmp (mp_var 7 (pv 7)) pp_int (nomark _)) pps_nil)))) ppo_none)))) qss_nil)
    (qss_cons (qs_own (i := 8) (fun he => ps_set (i := 8) sc__law_bent.nd rfl (Or.inl rfl) he) (pf_list (x := "list") (by rfl) T.m_list bt_list (pps_cons (mp_var 2 (pv 2)) pps_nil)))
    (qss_cons (qs_swap (i := 8) (fun he ha hb => ps_asg he (pg_tup rfl (pgs_cons (pg_sub (pv 8) ha set_list) (pgs_cons (pg_sub (pv 8) hb set_list) pgs_nil)))) (pp_tup (pps_cons (mp_atT hr.units (mp_var 8 (pv 8)) (mp_var 4 (pv 4)) (fun _ _ => rfl)) (pps_cons (mp_atT hr.units (mp_var 8 (pv 8)) (mp_var 3 (pv 3)) (fun _ _ => rfl)) pps_nil))) (mp_var 3 (pv 3)) (mp_var 4 (pv 4)))
    (qss_cons (qs_set (i := 9) (fun he => ps_set (i := 9) sc__law_bent.nd rfl (Or.inl rfl) he) (mp_atT hr.units (PF.pp (pf_lst (pps_consL pp_str (pps_consL pp_str (pps_consL pp_str (pps_consL pp_str (pps_consL pp_str (pps_consL pp_str (pps_consL pp_str (pps_consL pp_str (pps_consL pp_str (pps_consL pp_str (pps_consL pp_str (pps_consL pp_str pps_nil)))))))))))))) (pp_callBx (i := 0) (ok__law_take T) (hr.mono (by decide)) (by rfl) T.g__law_take T.F__law_take.kp T.b__law_take (pv 0) (pps_cons pp_int pps_nil)) (fun _ _ => rfl)))
    (qss_cons (qs_frz (qs_set (i := 10) (fun he => ps_set (i := 10) sc__law_bent.nd rfl (Or.inl rfl) he) (PF.pp (pf_lst (pps_cons (mp_addT (pp_slice (mp_var 2 (pv 2)) ppo_none (ppo_some (mp_var 3 (pv 3)))) (pp_slice (mp_var 2 (pv 2)) (ppo_some (mp_addT (mp_var 3 (pv 3)) pp_int)) ppo_none)) (pps_cons (mp_addT (mp_addT (pp_slice (mp_var 2 (pv 2)) ppo_none (ppo_some (mp_var 3 (pv 3)))) (PF.pp (pf_lst (pps_cons (mp_atT hr.units (mp_var 2 (pv 2)) (mp_var 3 (pv 3)) (fun _ _ => rfl)) pps_nil)))) (pp_slice (mp_var 2 (pv 2)) (ppo_some (mp_var 3 (pv 3))) ppo_none)) (pps_cons (mp_var 8 (pv 8)) pps_nil)))))))
    (qss_one (qs_ret (pp_join pp_str (mp_atT hr.units (mp_addT (mp_var 10 (pv 10)) (PF.pp (pf_lst (pps_cons (mp_addT (mp_addT (pp_slice (mp_var 2 (pv 2)) ppo_none (ppo_some (mp_var 3 (pv 3)))) (PF.pp (pf_lst (pps_cons (mp_var 9 (pv 9)) pps_nil)))) (pp_slice (mp_var 2 (pv 2)) (ppo_some (mp_var 3 (pv 3))) ppo_none)) (pps_cons (mp_addT (mp_addT (pp_slice (mp_var 2 (pv 2)) ppo_none (ppo_some (mp_var 3 (pv 3)))) (PF.pp (pf_lst (pps_cons (mp_var 9 (pv 9)) pps_nil)))) (pp_slice (mp_var 2 (pv 2)) (ppo_some (mp_addT (mp_var 3 (pv 3)) pp_int)) ppo_none)) pps_nil))))) (mp_sub (mp_var 7 (pv 7)) pp_int) (fun _ _ => rfl))))))))))))))))) (rn1 (c := [.box]) (p := F__law_bent) (fun a0 k q => by rw [e__law_bent] at q; exact q)) h)
theorem ok_law (T : Tx P K mg) : KG.FnG P w K mg base 6 T.a_law T.d_law ["_law_script"] (spP K (S1 F_law)) :=
  KG.okG T.F_law sc_law (fun vs H Q E h => len1 h) (fun cdv A outer s H vs Q E gd hr h => body_p (N := ["_law_script", "_law_k", "_law_box_here", "_law_shares", "_law_text", "_law_some", "_law_odd_here", "_law_one", "_law_lap"]) (s := B_law) (by unfold B_law; exact
    (qss_cons (qs_if (PBw.pb (pbw_or (pb_cmp (r := rOr rNe (rNeD K)) (opr_ne hr.units) opv_mNe (pp_call (ok__law_said T) (hr.mono (by decide)) (by rfl) T.g__law_said T.F__law_said.kp T.b__law_said (pps_cons pp_str pps_nil)) pp_int (nomark _)) (pbw_or (pb_cmp (r := rOr rNe (rNeD K)) (opr_ne hr.units) opv_mNe (pp_call (ok__law_said T) (hr.mono (by decide)) (by rfl) T.g__law_said T.F__law_said.kp T.b__law_said (pps_cons pp_str pps_nil)) pp_int (nomark _)) (pbw_or (pb_cmp (r := rOr rNe (rNeD K)) (opr_ne hr.units) opv_mNe (pp_call (ok__law_said T) (hr.mono (by decide)) (by rfl) T.g__law_said T.F__law_said.kp T.b__law_said (pps_cons pp_str pps_nil)) pp_int (nomark _)) (pbw_or1 (pb_cmp (r := rOr rNe (rNeD K)) (opr_ne hr.units) opv_mNe (pp_call (ok__law_said T) (hr.mono (by decide)) (by rfl) T.g__law_said T.F__law_said.kp T.b__law_said (pps_cons pp_str pps_nil)) pp_int (nomark _))))))) (qss_one (qs_ret pp_bl)) qss_nil)
    (qss_cons (qs_for PassesOwn.never rfl (qi_rng1 (by rfl) T.m_range (pp_callB (call_max2 rfl) cm_max (by rfl) T.m_max bt_max (pps_cons pp_int (pps_cons (pp_callB (call_min2 rfl) cm_min (by rfl) T.m_min bt_min (pps_cons (pp_callB (r := rLenZ K) call_lenZ cv_len (by rfl) T.m_len bt_len (pps_cons (mp_var 0 (pv 0)) pps_nil)) (pps_cons pp_int pps_nil))) pps_nil)))) (pg_name (i := 1) sc_law.nd rfl (Or.inl rfl)) (gv_name (i := 1)) (qss_cons (qs_box (i := 2) (ok__law_box T) (hr.mono (by decide)) (by rfl) T.g__law_box T.F__law_box.kp T.b__law_box (fun te he => ps_set (i := 2) sc_law.nd rfl (Or.inr rfl) he) (pps_cons (mp_var 0 (pv 0)) (pps_cons (mp_var 1 (pv 1)) pps_nil)))
    (qss_cons (qs_set (i := 3) (fun he => ps_set (i := 3) sc_law.nd rfl (Or.inl rfl) he) (pp_callBx (i := 2) (ok__law_drawn_shares T) (hr.mono (by decide)) (by rfl) T.g__law_drawn_shares T.F__law_drawn_shares.kp T.b__law_drawn_shares (pv 2) (pps_cons pp_int (pps_cons pp_int pps_nil))))
    (qss_cons (qs_set (i := 4) (fun he => ps_set (i := 4) sc_law.nd rfl (Or.inr rfl) he) (pp_join pp_str (PF.pp (pf_lc (own := [("_law_one", 7)]) (g := (gName 7)) rfl sc_law.nd (qi_seq (mp_var 3 (pv 3))) (blkOk_by (N := ["_law_script", "_law_k", "_law_box_here", "_law_shares", "_law_text", "_law_some", "_law_odd_here", "_law_one", "_law_lap"]) (sc := defScope s_law) (by decide +kernel)) (gx_name (i := 7)) (by decide) (fun _ _ _ _ _ => (pg_name (i := 7) sc_law.nd rfl (Or.inl rfl))) (fun _ _ _ _ _ => pbs_nil) (fun _ _ _ _ _ => (pp_callTy call_str_int cv_str (by rfl) T.m_str bt_str (pps_cons (mp_var 7 (pv 7)) pps_nil)))))))
    (qss_cons (qs_if (pb_cmp (r := rOr rNe (rNeD K)) (opr_ne hr.units) opv_mNe (pp_callB (r := KG.rRepr K) (KG.call_repr gd hr) cv_repr (by rfl) T.m_repr bt_repr (pps_cons (pp_call (ok_show T) (hr.mono (by decide)) (by rfl) T.g_show T.F_show.kp T.b_show (pps_cons (mp_var 3 (pv 3)) pps_nil)) pps_nil)) (pp_callB (r := KG.rRepr K) (KG.call_repr gd hr) cv_repr (by rfl) T.m_repr bt_repr (pps_cons (mp_var 4 (pv 4)) pps_nil)) (nomark _)) (qss_one (qs_ret pp_bl)) qss_nil)
    (qss_cons (qs_for PassesOwn.never rfl (qi_seq (mp_addT (PF.pp (pf_lst (pps_cons (mp_var 4 (pv 4)) (pps_cons (mp_addT (mp_var 4 (pv 4)) pp_str) (pps_cons (mp_addT pp_str (mp_var 4 (pv 4))) pps_nil))))) (PF.pp (pf_lc (own := [("_law_lap", 8)]) (g := (gName 8)) rfl sc_law.nd (qi_rng1 (by rfl) T.m_range pp_int) (blkOk_by (N := ["_law_script", "_law_k", "_law_box_here", "_law_shares", "_law_text", "_law_some", "_law_odd_here", "_law_one", "_law_lap"]) (sc := defScope s_law) (by decide +kernel)) (gx_name (i := 8)) (by decide) (fun _ _ _ _ _ => (pg_name (i := 8) sc_law.nd rfl (Or.inl rfl))) (fun _ _ _ _ _ => pbs_nil) (fun _ _ _ _ _ => (pp_callBx (i := 2) (ok__law_bent T) (hr.mono (by decide)) (by rfl) T.g__law_bent T.F__law_bent.kp T.b__law_bent (pv 2) (pps_cons (mp_var 4 (pv 4)) pps_nil))))))) (pg_name (i := 5) sc_law.nd rfl (Or.inl rfl)) (gv_name (i := 5)) (qss_one (qs_if (pb_cmp (r := rOr rNe (rNeD K)) (opr_ne hr.units) opv_mNe (pp_callB (r := KG.rRepr K) (KG.call_repr gd hr) cv_repr (by rfl) T.m_repr bt_repr (pps_cons (pp_call (ok__law_said T) (hr.mono (by decide)) (by rfl) T.g__law_said T.F__law_said.kp T.b__law_said (pps_cons (mp_var 5 (pv 5)) pps_nil)) pps_nil)) (pp_callB (r := KG.rRepr K) (KG.call_repr gd hr) cv_repr (by rfl) T.m_repr bt_repr (pps_cons (pp_call (ok__law_read T) (hr.mono (by decide)) (by rfl) T.g__law_read T.F__law_read.kp T.b__law_read (pps_cons (mp_var 5 (pv 5)) pps_nil)) pps_nil)) (nomark _)) (qss_one (qs_ret pp_bl)) qss_nil)))
    (qss_cons (qs_set (i := 6) (fun he => ps_set (i := 6) sc_law.nd rfl (Or.inl rfl) he) (pp_callBx (i := 2) (ok__law_odd T) (hr.mono (by decide)) (by rfl) T.g__law_odd T.F__law_odd.kp T.b__law_odd (pv 2) pps_nil))
    (qss_one (qs_if (PBw.pb (pbw_or (PBw.pb (pbw_and (pb_not (pb_val (pp_isi (T := "str") (by rfl) T.m_isinstance bt_isinstance (pe_bltn (v := .ty "str") (by rfl) T.m_str bt_str rfl) (mp_var 6 (pv 6))))) (pbw_and1 (pb_cmp (r := rOr rNe (rNeD K)) (opr_ne hr.units) opv_mNe (pp_callB (r := KG.rRepr K) (KG.call_repr gd hr) cv_repr (by rfl) T.m_repr bt_repr (pps_cons (pp_call (ok__law_said T) (hr.mono (by decide)) (by rfl) T.g__law_said T.F__law_said.kp T.b__law_said (pps_cons (mp_var 6 (pv 6)) pps_nil)) pps_nil)) pp_str (nomark _))))) (pbw_or1 (pb_cmp (r := rOr rNe (rNeD K)) (opr_ne hr.units) opv_mNe (pp_callB (r := KG.rRepr K) (KG.call_repr gd hr) cv_repr (by rfl) T.m_repr bt_repr (pps_cons (pp_call (ok__law_said T) (hr.mono (by decide)) (by rfl) T.g__law_said T.F__law_said.kp T.b__law_said (pps_cons (PF.pp (pf_lst (pps_cons (mp_var 4 (pv 4)) pps_nil))) pps_nil)) pps_nil)) pp_str (nomark _))))) (qss_one (qs_ret pp_bl)) qss_nil)))))))))
    (qss_one (qs_ret pp_bl))))) (rn1 (c := []) (p := F_law) (fun a0 k q => by rw [e_law] at q; exact q)) h)
end
end KGX

namespace KGX
open PySem PySem.Spec PyProof.Rows L2 KV
theorem v_is_whole {i : Int} {k : PV → Prop} (q : k (.bl true)) : F_is_whole (.int i) k := by rw [e_is_whole]; exact q
theorem v_is_wholeA {v : PV} {k : PV → Prop} (h : anyV v = true) (q : k (.bl (wholeB v))) : F_is_whole v k := by
  rw [e_is_whole]
  cases v <;> first
    | exact q
    | exact absurd h Bool.false_ne_true
theorem v_is_whole_within {i lo hi : Int} {k : PV → Prop} (h1 : lo ≤ i) (h2 : i ≤ hi) (q : k (.bl true)) : F_is_whole_within (.int i) (.int lo) (.int hi) k := by
  rw [e_is_whole_within]
  refine v_is_whole (ifT h1 ?_)
  show k (.bl (decide (i ≤ hi)))
  rw [decide_eq_true h2]; exact q
theorem v_is_whole_withinA {v : PV} {lo hi : Int} {k : PV → Prop} (h : anyV v = true) (q : k (.bl (withinB lo hi v))) : F_is_whole_within v (.int lo) (.int hi) k := by
  rw [e_is_whole_within]
  refine v_is_wholeA h ?_
  cases v <;> first
    | exact q
    | exact absurd h Bool.false_ne_true
    | skip
  rename_i i
  refine ifD (p := lo ≤ i) (fun h1 => ?_) (fun h1 => ?_)
  · have e : withinB lo hi (.int i) = decide (i ≤ hi) := by show (decide (lo ≤ i) && decide (i ≤ hi)) = _; rw [decide_eq_true h1]; rfl
    rw [e] at q; exact q
  · have e : withinB lo hi (.int i) = false := by show (decide (lo ≤ i) && decide (i ≤ hi)) = _; rw [decide_eq_false h1]; rfl
    rw [e] at q; exact q
theorem all_true {α : Type} (xs : List α) : (xs.map fun _ => true).all id = true := by
  rw [List.all_eq_true]
  intro b hb
  obtain ⟨_, _, rfl⟩ := List.mem_map.mp hb
  rfl
theorem v_is_shares {ns : List Int} {k : PV → Prop} (g : Good ns) (q : k (.bl true)) : F_is_shares (shP ns) k := by
  rw [e_is_shares]
  have hl : (((ns.map PV.int).length : Nat) : Int) = (ns.length : Int) := by rw [List.length_map]
  refine ifT (show (1 : Int) ≤ (((ns.map PV.int).length : Nat) : Int) by rw [hl]; have := g.1; omega) ?_
  refine ifNF (show (((ns.map PV.int).length : Nat) : Int) ≤ 5 by rw [hl]; have := g.2.1; omega) ?_
  show lcW _ _ _ _ _ _ _
  refine lc_map (fun _ => .bl true) (fun d hd K hK => ?_) (by rw [List.length_map]; have := g.2.1; show 0 + _ ≤ _; omega) ?_
  · obtain ⟨x, hx, rfl⟩ := List.mem_map.mp hd
    have := g.2.2 x hx
    exact v_is_whole_within (by omega) (by omega) hK
  · refine ⟨_, (ns.map fun _ => true), rfl, ?_, ?_⟩
    · rw [List.nil_append, List.map_map, show ((fun _ => PV.bl true) ∘ PV.int) = (PV.bl ∘ fun _ : Int => true) from rfl, ← List.map_map]
      exact blsOf_map _
    · show k (.bl ((ns.map fun _ => true).all id))
      rw [all_true]; exact q
theorem v_is_sharesA {v : PV} {k : PV → Prop} (h : anyT v) (q : k (.bl (sharesB v))) : F_is_shares v k := by
  rw [e_is_shares]
  have body : ∀ xs : List PV, (xs.all anyV = true) → xs.length ≤ 1000 → k (.bl (decide (1 ≤ xs.length) && decide (xs.length ≤ 5) && xs.all (withinB 1 9))) → ∀ v', (v' = .tup xs ∨ v' = .cst xs) → B_is_shares [some (.fr v'), none] (fun _ => k .non) k := by
    intro xs ha hl q v' hv
    have tail : ∀ ρ : Rho, (∀ b, k (.bl b) ∨ True) → True := fun _ _ => trivial
    have fin : 1 ≤ xs.length → xs.length ≤ 5 → ∀ M : PV → Prop, (∀ x ∈ xs, M x ∨ True) → True := fun _ _ _ _ => trivial
    have lc : k (.bl (xs.all (withinB 1 9))) → lcW (gwName 1) tYesW (eCall (S3 F_is_whole_within) (aCons (mVar 1) (aCons (eC (.int 1)) (aCons (eC (.int 9)) aNil)))) [some (.fr v'), none] (fun v => cAll false [v] k) xs [] := fun q' =>
      all_lc (withinB 1 9) (fun d hd M hM => v_is_whole_withinA (List.all_eq_true.mp ha d hd) hM) hl q'
    by_cases h1 : 1 ≤ xs.length
    · by_cases h2 : xs.length ≤ 5
      · rw [decide_eq_true h1, decide_eq_true h2, Bool.true_and, Bool.true_and] at q
        rcases hv with rfl | rfl <;> exact ifT (show (1 : Int) ≤ ((xs.length : Nat) : Int) by omega) (ifNF (show ((xs.length : Nat) : Int) ≤ 5 by omega) (lc q))
      · rw [decide_eq_true h1, decide_eq_false h2, Bool.true_and, Bool.false_and] at q
        rcases hv with rfl | rfl <;> exact ifT (show (1 : Int) ≤ ((xs.length : Nat) : Int) by omega) (ifNT (show ¬ ((xs.length : Nat) : Int) ≤ 5 by omega) q)
    · rw [decide_eq_false h1, Bool.false_and, Bool.false_and] at q
      rcases hv with rfl | rfl <;> exact ifF (show ¬ (1 : Int) ≤ ((xs.length : Nat) : Int) by omega) q
  cases v <;> first
    | exact q
    | exact absurd h.1 Bool.false_ne_true
    | exact body _ h.2.1 h.2.2 q _ (.inl rfl)
    | exact body _ h.2.1 h.2.2 q _ (.inr rfl)
theorem v_check_shares {ns : List Int} {k : PV → Prop} (g : Good ns) (q : k .non) : F_check_shares (shP ns) k := by
  rw [e_check_shares]
  exact v_is_shares g q
theorem dg_len {i : Int} (h0 : 1 ≤ i) (h1 : i ≤ 9) : (dg i).length = 1 ∧ ∀ c ∈ (dg i).cps.toList, c < 128 := by
  have : i = 1 ∨ i = 2 ∨ i = 3 ∨ i = 4 ∨ i = 5 ∨ i = 6 ∨ i = 7 ∨ i = 8 ∨ i = 9 := by omega
  rcases this with rfl | rfl | rfl | rfl | rfl | rfl | rfl | rfl | rfl <;> exact ⟨by decide +kernel, by decide +kernel⟩
theorem strs_map : ∀ zs : List Str, strsOf (zs.map PV.str) = some zs
  | [] => rfl
  | z :: zs => by rw [List.map_cons, strsOf, strs_map zs]; rfl
theorem sum_le {B : Nat} : ∀ {zs : List Str}, (∀ z ∈ zs, z.length ≤ B) → (zs.map (·.length)).sum ≤ zs.length * B
  | [], _ => Nat.zero_le _
  | z :: zs, h => by
    have a := h z List.mem_cons_self
    have b := sum_le (zs := zs) fun y hy => h y (List.mem_cons_of_mem _ hy)
    rw [List.map_cons, List.sum_cons, List.length_cons, Nat.add_mul]
    omega
theorem join_len {sep : Str} {B : Nat} {zs : List Str} (h : ∀ z ∈ zs, z.length ≤ B) : (Txt.join sep zs).length ≤ zs.length * B + zs.length * sep.length := by
  have e : (Txt.join sep zs).length = (zs.map (·.length)).sum + (zs.length - 1) * sep.length := PySem.size_glued sep zs
  have := sum_le h
  have h2 : (zs.length - 1) * sep.length ≤ zs.length * sep.length := Nat.mul_le_mul_right _ (by omega)
  omega
theorem one_sp : (" " : Str).length = 1 := by decide +kernel
theorem nums_le {ns : List Int} (g : Good ns) : ∀ z ∈ ns.map dg, z.length ≤ 1 := fun z hz => by
  obtain ⟨x, hx, rfl⟩ := List.mem_map.mp hz
  have := g.2.2 x hx
  rw [(dg_len (by omega) (by omega)).1]; exact Nat.le_refl _
theorem txt_sign {ns : List Int} (g : Good ns) : ∀ c ∈ (txt ns).cps.toList, c < 128 := fun c hc => by
  unfold txt at hc
  rw [show Txt.join " " (ns.map dg) = Str.join " " (ns.map dg) from PySem.StrLaws.glued_eq_join _ _] at hc
  rcases (PyProof.Rows.mem_join _ _ _).mp hc with ⟨t, ht, hc⟩ | ⟨_, hc⟩
  · obtain ⟨x, hx, rfl⟩ := List.mem_map.mp ht
    have := g.2.2 x hx
    exact (dg_len (by omega) (by omega)).2 c hc
  · have : ∀ c ∈ (" " : Str).cps.toList, c < 128 := by decide +kernel
    exact this c hc
theorem nums_text {ns : List Int} (g : Good ns) {k : PV → Prop} (q : k (.str (txt ns))) :
    ∃ xs zs, seqOf (.lst ([] ++ (ns.map PV.int).map fun v => match v with | .int i => PV.str (dg i) | v => v)) = some xs ∧ strsOf xs = some zs ∧ (zs.map (·.length)).sum + zs.length * (" " : Str).length ≤ 1000000 ∧ k (.str (Txt.join " " zs)) := by
  refine ⟨_, ns.map dg, rfl, ?_, ?_, q⟩
  · rw [List.nil_append, List.map_map, show ((fun v => match v with | .int i => PV.str (dg i) | v => v) ∘ PV.int) = PV.str ∘ dg from rfl, ← List.map_map]
    exact strs_map _
  · have := sum_le (nums_le g)
    rw [one_sp]
    rw [List.length_map] at this ⊢
    have := g.2.1
    omega
theorem one_str {i : Int} {K : PV → Prop} (h0 : 1 ≤ i) (h1 : i ≤ 9) (q : K (.str (dg i))) : cStr [.int i] K := ⟨log_small (by omega), q⟩
theorem v_show {ns : List Int} {k : PV → Prop} (g : Good ns) (q : k (.str (txt ns))) : F_show (shP ns) k := by
  rw [e_show]
  refine v_check_shares g ?_
  show lcW _ _ _ _ _ _ _
  refine lc_map (fun v => match v with | .int i => .str (dg i) | v => v) (fun d hd K hK => ?_) (by rw [List.length_map]; have := g.2.1; show 0 + _ ≤ _; omega) (nums_text g q)
  obtain ⟨x, hx, rfl⟩ := List.mem_map.mp hd
  have := g.2.2 x hx
  exact one_str (by omega) (by omega) hK
/-- whether a word is a share -/
def isW (z : Str) : Bool := inV (.str z) (digs.map V.str)
theorem isW_mem {z : Str} (h : isW z = true) : ∃ n : Int, 1 ≤ n ∧ n ≤ 9 ∧ z = dg n := by
  unfold isW inV at h
  rw [List.any_eq_true] at h
  obtain ⟨v, hv, e⟩ := h
  obtain ⟨w, hw, rfl⟩ := List.mem_map.mp hv
  obtain ⟨n, hn, rfl⟩ := List.mem_map.mp hw
  have hn' : 1 ≤ n ∧ n ≤ 9 := by
    simp only [List.mem_cons, List.not_mem_nil, or_false] at hn
    omega
  have e2 : (dg n == z) = true := e
  exact ⟨n, hn'.1, hn'.2, (eq_of_beq e2).symm⟩
theorem scals_strs : ∀ zs : List Str, (zs.map PV.str).mapM scalP = some (zs.map V.str)
  | [] => rfl
  | z :: zs => by rw [List.map_cons, List.mapM_cons, scals_strs zs]; rfl
theorem flat_strs (zs : List Str) : (zs.map V.str).all flatV = true := by
  rw [List.all_eq_true]
  intro v hv
  obtain ⟨z, _, rfl⟩ := List.mem_map.mp hv
  rfl
theorem in_digs {z : Str} {neg : Bool} {k : PV → Prop} (q : k (.bl (if neg = true then !isW z else isW z))) : mIn neg (.str z) (.lst (digs.map PV.str)) k :=
  ⟨.str z, _, _, rfl, rfl, scals_strs digs, rfl, flat_strs digs, q⟩
theorem digs_are : digs = [("1" : Str), ("2" : Str), ("3" : Str), ("4" : Str), ("5" : Str), ("6" : Str), ("7" : Str), ("8" : Str), ("9" : Str)] := by decide +kernel
theorem in_lits {z : Str} {neg : Bool} {k : PV → Prop} (q : k (.bl (if neg = true then !isW z else isW z))) : mIn neg (.str z) (.lst [.str "1", .str "2", .str "3", .str "4", .str "5", .str "6", .str "7", .str "8", .str "9"]) k := by
  have := in_digs (neg := neg) q
  rw [digs_are] at this
  exact this
theorem v_is_share_word {z : Str} {k : PV → Prop} (q : k (.bl (isW z))) : F_is_share_word (.str z) k := by
  rw [e_is_share_word]
  refine ⟨⟨sm62 (by decide) (by decide), sm62 (by decide) (by decide)⟩, ?_⟩
  show lcW _ _ _ _ _ _ _
  refine lc_map (fun v => match v with | .int i => .str (dg i) | v => v) (fun d hd K hK => ?_) (by decide) ?_
  · obtain ⟨x, hx, rfl⟩ := List.mem_map.mp hd
    have : 1 ≤ x ∧ x ≤ 9 := by
      have h : ∀ x ∈ rgI 1 (Int.toNat (9 + 1 - 1)), 1 ≤ x ∧ x ≤ 9 := by decide
      exact h x hx
    exact one_str (by omega) (by omega) hK
  · exact in_digs (neg := false) q
/-- whether the i-th word is wrong -/
def bad (i : Nat) (w : Str) : Bool := decide (i = 5) || !isW w
/-- the place of the first wrong word -/
def fb : Nat → List Str → Option Nat
  | _, [] => none
  | i, w :: ws => if bad i w = true then some i else fb (i + 1) ws
theorem fb_good : ∀ {ws : List Str} {i : Nat}, fb i ws = none → ∀ w ∈ ws, isW w = true
  | [], _, _ => fun _ h => nomatch h
  | w :: ws, i, h => by
    rw [fb] at h
    by_cases hb : bad i w = true
    · rw [if_pos hb] at h; exact nomatch h
    · rw [if_neg hb] at h
      intro v hv
      rcases List.mem_cons.mp hv with rfl | hv
      · unfold bad at hb
        cases hi : isW v with
        | true => rfl
        | false => rw [hi] at hb; exact absurd (Bool.or_true _) hb
      · exact fb_good h v hv
theorem fb_len : ∀ {ws : List Str} {i : Nat}, fb i ws = none → i ≤ 5 → ws.length + i ≤ 5
  | [], i, _, hi => by show 0 + i ≤ 5; omega
  | w :: ws, i, h, hi => by
    rw [fb] at h
    by_cases hb : bad i w = true
    · rw [if_pos hb] at h; exact nomatch h
    · rw [if_neg hb] at h
      have i5 : i ≠ 5 := fun z => hb (by unfold bad; rw [decide_eq_true z]; rfl)
      have := fb_len h (by omega)
      rw [List.length_cons]; omega
theorem fb_le : ∀ {ws : List Str} {i j : Nat}, fb i ws = some j → i ≤ 5 → j ≤ 5
  | [], _, _, h, _ => nomatch h
  | w :: ws, i, j, h, hi => by
    rw [fb] at h
    by_cases hb : bad i w = true
    · rw [if_pos hb] at h; cases h; exact hi
    · rw [if_neg hb] at h
      have i5 : i ≠ 5 := fun z => hb (by unfold bad; rw [decide_eq_true z]; rfl)
      exact fb_le h (by omega)
/-- a word's number -/
def valW (w : Str) : Int := (PySem.intText? w).getD 0
theorem val_int {w : Str} (h : isW w = true) : PySem.intText? w = some (valW w) ∧ w.length ≤ 640 ∧ 1 ≤ valW w ∧ valW w ≤ 9 := by
  obtain ⟨n, h1, h2, rfl⟩ := isW_mem h
  have e := dig_int h1 h2
  unfold valW
  rw [e, dig_one h1 h2]
  exact ⟨rfl, by decide, h1, h2⟩
theorem int_word {w : Str} {K : PV → Prop} (h : isW w = true) (q : K (.int (valW w))) : mIntT [.str w] K := ⟨_, (val_int h).1, (val_int h).2.1, q⟩
theorem ints_lc {gw : GW} {f : EW} {ρ : Rho} {k : PV → Prop} {ws : List Str} (h : ∀ w ∈ ws, ∀ M : PV → Prop, M (.int (valW w)) → gw (.str w) ρ fun ρ1 => f ρ1 M) (hl : ws.length ≤ 5) (q : k (.lst ((ws.map valW).map .int))) : lcW gw tYesW f ρ k (ws.map PV.str) [] := by
  refine lc_map (fun v => match v with | .str w => .int (valW w) | v => v) (fun d hd K hK => ?_) (by rw [List.length_map]; show 0 + _ ≤ _; omega) ?_
  · obtain ⟨w, hw, rfl⟩ := List.mem_map.mp hd
    exact h w hw K hK
  · rw [List.nil_append, List.map_map, show ((fun v => match v with | .str w => PV.int (valW w) | v => v) ∘ PV.str) = PV.int ∘ valW from rfl, ← List.map_map]
    exact q
/-- what is told of words -/
def rdX (ws : List Str) : PV := match fb 0 ws with
  | some i => .exc "NoText" (some (i : Int))
  | none => .tup ((ws.map valW).map .int)
theorem x_read0 {v : PV} {k : PV → Prop} (h : isiP "str" v = some false) (q : k (.exc "NoText" (some 0))) : F_read v k := by
  rw [e_read]
  cases v <;> first
    | exact q
    | cases h
theorem drop_at {α : Type} {ws : List α} {i : Nat} {w : α} (h : ws[i]? = some w) : ws.drop i = w :: ws.drop (i + 1) := by
  obtain ⟨h1, h2⟩ := List.getElem?_eq_some_iff.mp h
  rw [List.drop_eq_getElem_cons h1, h2]
theorem x_read {z : Str} {k : PV → Prop} (h : z.length ≤ 100000) (q : k (rdX (Txt.split z " "))) : F_read (.str z) k := by
  rw [e_read]
  refine ⟨by decide +kernel, by omega, ?_⟩
  generalize Txt.split z " " = ws at q
  refine for_inv (fun i ρ => fb 0 ws = fb i (ws.drop i) ∧ ∃ y1 y2, ρ = [some (.fr (.str z)), some (.fr (.lst (ws.map .str))), y1, y2]) ⟨rfl, _, _, rfl⟩ ?_ ?_
  · rintro i d ρ M e ⟨ef, y1, y2, rfl⟩ hM
    unfold enumP at e
    rw [List.getElem?_mapIdx, List.getElem?_map] at e
    obtain ⟨w', e1, e2⟩ := Option.map_eq_some_iff.mp e
    obtain ⟨w, e3, e4⟩ := Option.map_eq_some_iff.mp e1
    subst e4 e2
    rw [drop_at e3, fb] at ef
    refine ⟨rfl, ?_⟩
    have stop : bad i w = true → k (.exc "NoText" (some (i : Int))) := fun hb => by
      rw [if_pos hb] at ef
      unfold rdX at q
      rw [ef] at q
      exact q
    refine ifD (p := ((i : Nat) : Int) = 5) (fun h5 => stop (by unfold bad; rw [decide_eq_true (show i = 5 by omega)]; rfl)) fun h5 => v_is_share_word ?_
    cases hw : isW w with
    | true =>
      have nb : ¬ bad i w = true := by unfold bad; rw [hw, decide_eq_false (show ¬ i = 5 by omega)]; decide
      rw [if_neg nb] at ef
      exact hM _ ⟨ef, _, _, rfl⟩
    | false => exact stop (by unfold bad; rw [hw]; exact Bool.or_true _)
  · rintro ρ ⟨ef, y1, y2, rfl⟩
    have hl : (enumP (ws.map PV.str)).length = ws.length := by unfold enumP; rw [List.length_mapIdx, List.length_map]
    rw [hl, List.drop_length, fb] at ef
    unfold rdX at q
    rw [ef] at q
    show lcW _ _ _ _ _ _ _
    exact ints_lc (fun w hw M hM => int_word (fb_good ef w hw) hM) (by have := fb_len ef (by decide); omega) q
theorem v__law_whole {v : PV} {k : PV → Prop} (h : anyV v = true) (q : k (.bl (wholeB v))) : F__law_whole v k := by
  rw [e__law_whole]
  cases v <;> first
    | exact q
    | exact absurd h Bool.false_ne_true
def rowS : Str := " !#$&'()*+,-./0123456789:;<=>?\x40[]^_`{|}~\t\n\"\\AaBbCcDdEeFfGgHhIiJjKkLlMmNnOoPpQqRrSsTtUuVvWwXxYyZz"
theorem rowS_len : 0 < rowS.length ∧ rowS.length ≤ 1000 := by decide +kernel
theorem row_at {d : Nat} {row : Str} (h : d < row.length) : ∃ c, atI row.cps.toList (d : Int) = some c := by
  have hs : row.cps.toList.length = row.length := by rw [Array.length_toList]; rfl
  refine ⟨row.cps.toList[d]'(by omega), ?_⟩
  unfold atI ixN
  rw [if_pos (by omega), if_pos (by omega)]
  simp
theorem v__law_sign {k : PV → Prop} (q : ∀ c, k (.str ⟨#[c]⟩)) : F__law_sign k := by
  rw [e__law_sign]
  have hl := rowS_len
  refine ⟨(show rowS.length ≤ 1000000 by omega), v_take (show (0 : Int) < (rowS.length : Nat) by omega) (show ((rowS.length : Nat) : Int) ≤ 100000 by omega) fun d d0 d1 => ?_⟩
  have d1' : d < ((rowS.length : Nat) : Int) := d1
  obtain ⟨d, rfl⟩ := Int.eq_ofNat_of_zero_le d0
  obtain ⟨c, e⟩ := row_at (d := d) (row := rowS) (by omega)
  exact ⟨c, (show rowS.length ≤ 1000000 by omega), e, q c⟩
theorem v__law_drawn_shares {most top : Int} {k : PV → Prop} (h1 : 1 ≤ most) (h2 : most ≤ 100) (h3 : 2 ≤ top) (h4 : top ≤ 1000) (q : ∀ ns : List Int, 1 ≤ ns.length → (ns.length : Int) ≤ most → (∀ x ∈ ns, 1 ≤ x ∧ x ≤ top) → k (shP ns)) : F__law_drawn_shares (.int most) (.int top) k := by
  rw [e__law_drawn_shares]
  refine v_take (by omega) (by omega) fun d d0 d1 => v_take (by decide) (by decide) fun kd k0 k1 => ?_
  refine ifD (fun h => v_take (by omega) (by omega) fun x x0 x1 => ⟨m1, ⟨(fun z => nomatch z), by omega, by omega, by show 1 ≤ 1000; decide⟩, ?_⟩) fun h => ?_
  · rw [rep_int]
    refine q _ (by rw [List.length_replicate]; omega) (by rw [List.length_replicate]; omega) fun y hy => ?_
    rw [List.mem_replicate] at hy
    omega
  · refine ⟨sm62 (by omega) (by omega), ?_⟩
    refine lc_any (fun v => ∃ i, v = .int i ∧ 1 ≤ i ∧ i ≤ top) (fun v hv M hM => ⟨m3, ?_⟩) (by rw [List.length_map, rgI_len]; show 0 + _ ≤ _; omega) fun vs hvs hp => ?_
    · have : ∃ m, atI [PV.int top, .int 2, .int top] (kd - 1) = some (.int m) ∧ 0 < m ∧ m ≤ top := by
        have : kd = 1 ∨ kd = 2 ∨ kd = 3 := by omega
        rcases this with rfl | rfl | rfl
        · exact ⟨top, rfl, by omega, by omega⟩
        · exact ⟨2, rfl, by omega, by omega⟩
        · exact ⟨top, rfl, by omega, by omega⟩
      obtain ⟨m, e, m0, mt⟩ := this
      exact ⟨_, e, v_take m0 (by omega) fun x x0 x1 => hM _ ⟨_, rfl, by omega, by omega⟩⟩
    · obtain ⟨ns, rfl, hl, hn⟩ := ints_such hp
      rw [List.length_map, List.length_map, rgI_len] at hvs
      exact q ns (by omega) (by omega) hn
theorem v__law_odd {k : PV → Prop} (q : ∀ v b, isiP "str" v = some b → k v) : F__law_odd k := by
  rw [e__law_odd]
  refine ⟨by decide, by decide, by decide, by decide, by decide, ⟨by decide, by decide, by decide⟩, by decide, by decide, by decide, ?_⟩
  refine ⟨by decide, by decide, by decide, by decide, by decide, by decide, by decide, by decide, by decide, by decide, v_take (by decide) (by decide) fun d d0 d1 => ?_⟩
  have : d = 0 ∨ d = 1 ∨ d = 2 ∨ d = 3 ∨ d = 4 ∨ d = 5 ∨ d = 6 ∨ d = 7 ∨ d = 8 ∨ d = 9 ∨ d = 10 ∨ d = 11 ∨ d = 12 ∨ d = 13 ∨ d = 14 ∨ d = 15 ∨ d = 16 ∨ d = 17 ∨ d = 18 ∨ d = 19 ∨ d = 20 ∨ d = 21 ∨ d = 22 ∨ d = 23 := by omega
  rcases this with rfl | rfl | rfl | rfl | rfl | rfl | rfl | rfl | rfl | rfl | rfl | rfl | rfl | rfl | rfl | rfl | rfl | rfl | rfl | rfl | rfl | rfl | rfl | rfl <;> exact ⟨_, rfl, q _ _ rfl⟩
/-- what the law's own reader tells of words -/
def rdL (ws : List Str) : PV := match fb 0 ws with
  | some i => .int (i : Int)
  | none => .tup ((ws.map valW).map .int)
theorem atI_natP {xs : List PV} {t : Nat} (h : t < xs.length) : atI xs (t : Int) = some xs[t] := by
  unfold atI ixN
  rw [if_pos (by omega)]
  simp [h]
theorem v__law_read {z : Str} {k : PV → Prop} (h : z.length ≤ 100000) (q : k (rdL (Txt.split z " "))) : F__law_read (.str z) k := by
  rw [e__law_read]
  have hl := PyProof.Rows.split_le z " "
  refine ⟨by decide +kernel, by omega, ?_⟩
  generalize Txt.split z " " = ws at q hl
  have hm : (ws.map PV.str).length = ws.length := List.length_map _
  refine ⟨sm62 (by omega) (by rw [hm]; omega), ?_⟩
  refine for_rng (fun i ρ => fb 0 ws = fb i (ws.drop i) ∧ ∃ y1 y2, ρ = [some (.fr (.str z)), some (.fr (.lst (ws.map .str))), y1, y2]) ⟨rfl, _, _, rfl⟩ ?_ ?_
  · rintro i ρ M hi ⟨ef, y1, y2, rfl⟩ hM
    rw [hm, Int.toNat_natCast] at hi
    have e3 : ws[i]? = some ws[i] := List.getElem?_eq_getElem hi
    rw [drop_at e3, fb] at ef
    generalize hwi : ws[i] = w at ef
    have stop : bad i w = true → k (.int (0 + (i : Int))) := fun hb => by
      rw [if_pos hb] at ef
      unfold rdL at q
      rw [ef] at q
      rw [Int.zero_add]
      exact q
    refine ifD (p := (0 + (i : Nat) : Int) = 5) (fun h5 => stop (by unfold bad; rw [decide_eq_true (show i = 5 by omega)]; rfl)) fun h5 => ?_
    refine ⟨.str w, by rw [Int.zero_add, atI_natP (by rw [hm]; exact hi), List.getElem_map, hwi], ?_⟩
    refine ⟨(by decide : 9 ≤ 1000000), in_lits (neg := true) ?_⟩
    cases hw : isW w with
    | true =>
      have nb : ¬ bad i w = true := by unfold bad; rw [hw, decide_eq_false (show ¬ i = 5 by omega)]; decide
      rw [if_neg nb] at ef
      exact hM _ ⟨ef, _, _, rfl⟩
    | false => exact stop (by unfold bad; rw [hw]; exact Bool.or_true _)
  · rintro ρ ⟨ef, y1, y2, rfl⟩
    rw [hm, Int.toNat_natCast, List.drop_length, fb] at ef
    unfold rdL at q
    rw [ef] at q
    show lcW _ _ _ _ _ _ _
    exact ints_lc (fun w hw M hM => int_word (fb_good ef w hw) hM) (by have := fb_len ef (by decide); omega) q
theorem v__law_said {z : Str} {k : PV → Prop} (h : z.length ≤ 100000) (q : k (rdL (Txt.split z " "))) : F__law_said (.str z) k := by
  rw [e__law_said]
  refine x_read h ?_
  unfold rdL at q
  unfold rdX
  cases e : fb 0 (Txt.split z " ") with
  | none => rw [e] at q; exact q
  | some i => rw [e] at q; exact ⟨rfl, q⟩
theorem said_no {v : PV} {k : PV → Prop} (h : isiP "str" v = some false) (q : k (.int 0)) : F__law_said v k := by
  rw [e__law_said]
  exact x_read0 h ⟨rfl, q⟩
theorem cut_len (z : Str) (lo hi : Option Int) : (cutS z lo hi).length ≤ z.length := by
  unfold cutS
  show Array.size _ ≤ _
  rw [List.size_toArray, List.length_take, List.length_drop, Array.length_toList]
  show min _ (z.length - _) ≤ z.length
  omega
/-- a list of short words -/
def Row (n : Nat) (v : PV) : Prop := ∃ xs, v = .lst xs ∧ xs.length ≤ n ∧ ∀ x ∈ xs, ∃ w : Str, x = .str w ∧ w.length ≤ 100
theorem strs_ex : ∀ {xs : List PV}, (∀ x ∈ xs, ∃ w : Str, x = .str w ∧ w.length ≤ 100) → ∃ zs, strsOf xs = some zs ∧ zs.length = xs.length ∧ ∀ z ∈ zs, z.length ≤ 100
  | [], _ => ⟨[], rfl, rfl, fun _ h => nomatch h⟩
  | x :: xs, h => by
    obtain ⟨w, rfl, hw⟩ := h x List.mem_cons_self
    obtain ⟨zs, e, hl, hz⟩ := strs_ex (xs := xs) fun y hy => h y (List.mem_cons_of_mem _ hy)
    refine ⟨w :: zs, by rw [strsOf, e]; rfl, by rw [List.length_cons, List.length_cons, hl], fun z hz' => ?_⟩
    rcases List.mem_cons.mp hz' with rfl | hz'
    · exact hw
    · exact hz z hz'
theorem bent_last {z mark o : Str} {xs other : List PV} {wa : Str} {a b : Nat} {at_ kd : Int} {N : Rho → Prop} {k : PV → Prop} (hat : atI xs (a : Int) = some (.str wa)) (two : ∀ lo hi lo2 hi2, (cutP xs lo hi).length + (cutP xs lo2 hi2).length ≤ 1000000)
    (one : ∀ lo hi (w : PV), (cutP xs lo hi).length + [w].length ≤ 1000000) (three : ∀ lo hi lo2 hi2 (w : PV), (cutP xs lo hi ++ [w]).length + (cutP xs lo2 hi2).length ≤ 1000000)
    (row2 : ∀ lo hi lo2 hi2, Row 400 (.lst (cutP xs lo hi ++ cutP xs lo2 hi2))) (row3 : ∀ lo hi lo2 hi2, ∀ w : Str, w.length ≤ 100 → Row 400 (.lst (cutP xs lo hi ++ [PV.str w] ++ cutP xs lo2 hi2))) (rowO : Row 400 (.lst other)) (hwa : wa.length ≤ 100) (ho : o.length ≤ 100) (k0 : 3 ≤ kd) (k1 : kd < 8)
    (fin : ∀ v, Row 400 v → ∃ xs zs, seqOf v = some xs ∧ strsOf xs = some zs ∧ (zs.map (·.length)).sum + zs.length * (" " : Str).length ≤ 1000000 ∧ k (.str (Txt.join " " zs))) :
    (sSeq (sFrz 8 (sSet 10 (eLst (aCons (eBin mAddT (eSl (mVar 2) oNone (oSome (mVar 3))) (eSl (mVar 2) (oSome (eBin mAddT (mVar 3) (eC (.int 1)))) oNone)) (aCons (eBin mAddT (eBin mAddT (eSl (mVar 2) oNone (oSome (mVar 3))) (eLst (aCons (eBin mAtT (mVar 2) (mVar 3)) aNil))) (eSl (mVar 2) (oSome (mVar 3)) oNone)) (aCons (mVar 8) aNil))))))
    (sRet (eJoin (eC (.str " ")) (eBin mAtT (eBin mAddT (mVar 10) (eLst (aCons (eBin mAddT (eBin mAddT (eSl (mVar 2) oNone (oSome (mVar 3))) (eLst (aCons (mVar 9) aNil))) (eSl (mVar 2) (oSome (mVar 3)) oNone)) (aCons (eBin mAddT (eBin mAddT (eSl (mVar 2) oNone (oSome (mVar 3))) (eLst (aCons (mVar 9) aNil))) (eSl (mVar 2) (oSome (eBin mAddT (mVar 3) (eC (.int 1)))) oNone)) aNil)))) (eBin mSub (mVar 7) (eC (.int 3)))))))
      [some .box, some (.fr (.str z)), some (.fr (.lst xs)), some (.fr (.int (a : Int))), some (.fr (.int (b : Int))), some (.fr (.int at_)), some (.fr (.str mark)), some (.fr (.int kd)), some (.ow (.lst other)), some (.fr (.str o)), none] N k := by
  refine ⟨two _ _ _ _, ?_⟩
  refine ⟨_, hat, ?_⟩
  refine ⟨m1, ?_⟩
  refine ⟨one _ _ _, ?_⟩
  refine ⟨three _ _ _ _ _, ?_⟩
  refine ⟨m3, ?_⟩
  refine ⟨m1, ?_⟩
  refine ⟨one _ _ _, ?_⟩
  refine ⟨three _ _ _ _ _, ?_⟩
  refine ⟨m1, ?_⟩
  refine ⟨one _ _ _, ?_⟩
  refine ⟨three _ _ _ _ _, ?_⟩
  refine ⟨m2, (show 3 + 2 ≤ 1000000 by decide), ?_⟩
  have : kd = 3 ∨ kd = 4 ∨ kd = 5 ∨ kd = 6 ∨ kd = 7 := by omega
  rcases this with rfl | rfl | rfl | rfl | rfl
  · exact ⟨_, rfl, fin _ (row2 _ _ _ _)⟩
  · exact ⟨_, rfl, fin _ (row3 _ _ _ _ _ hwa)⟩
  · exact ⟨_, rfl, fin _ rowO⟩
  · exact ⟨_, rfl, fin _ (row3 _ _ _ _ _ ho)⟩
  · exact ⟨_, rfl, fin _ (row3 _ _ _ _ _ ho)⟩
theorem bent_tail {z mark : Str} {xs : List PV} {a b : Nat} {at_ kd : Int} {N : Rho → Prop} {k : PV → Prop} (hl : xs.length ≤ 102) (hw : ∀ x ∈ xs, ∃ w : Str, x = .str w ∧ w.length ≤ 100) (ha : a < xs.length) (hb : b < xs.length) (k0 : 3 ≤ kd) (k1 : kd < 8) (q : ∀ y : Str, y.length ≤ 100000 → k (.str y)) :
    (sSeq (sOwn 8 (eCall mList (aCons (mVar 2) aNil)))
    (sSeq (sSwap 8 (mVar 3) (mVar 4) (eTup (aCons (eBin mAtT (mVar 8) (mVar 4)) (aCons (eBin mAtT (mVar 8) (mVar 3)) aNil))))
    (sSeq (sSet 9 (eBin mAtT (eLst (aCons (eC (.str "")) (aCons (eC (.str "0")) (aCons (eC (.str "9")) (aCons (eC (.str "10")) (aCons (eC (.str "01")) (aCons (eC (.str "-1")) (aCons (eC (.str "1,")) (aCons (eC (.str "a")) (aCons (eC (.str "1 1")) (aCons (eC (.str "12")) (aCons (eC (.str "+3")) (aCons (eC (.str "3.0")) aNil))))))))))))) (eCallB 0 (S1 F__law_take) (aCons (eC (.int 12)) aNil))))
    (sSeq (sFrz 8 (sSet 10 (eLst (aCons (eBin mAddT (eSl (mVar 2) oNone (oSome (mVar 3))) (eSl (mVar 2) (oSome (eBin mAddT (mVar 3) (eC (.int 1)))) oNone)) (aCons (eBin mAddT (eBin mAddT (eSl (mVar 2) oNone (oSome (mVar 3))) (eLst (aCons (eBin mAtT (mVar 2) (mVar 3)) aNil))) (eSl (mVar 2) (oSome (mVar 3)) oNone)) (aCons (mVar 8) aNil))))))
    (sRet (eJoin (eC (.str " ")) (eBin mAtT (eBin mAddT (mVar 10) (eLst (aCons (eBin mAddT (eBin mAddT (eSl (mVar 2) oNone (oSome (mVar 3))) (eLst (aCons (mVar 9) aNil))) (eSl (mVar 2) (oSome (mVar 3)) oNone)) (aCons (eBin mAddT (eBin mAddT (eSl (mVar 2) oNone (oSome (mVar 3))) (eLst (aCons (mVar 9) aNil))) (eSl (mVar 2) (oSome (eBin mAddT (mVar 3) (eC (.int 1)))) oNone)) aNil)))) (eBin mSub (mVar 7) (eC (.int 3))))))))))
      [some .box, some (.fr (.str z)), some (.fr (.lst xs)), some (.fr (.int (a : Int))), some (.fr (.int (b : Int))), some (.fr (.int at_)), some (.fr (.str mark)), some (.fr (.int kd)), none, none, none] N k := by
  have hix : ∀ j, j < xs.length → ixN xs.length (j : Int) = some j := fun j hj => by
    unfold ixN
    rw [if_pos (by omega), if_pos (by omega)]
    simp
  obtain ⟨wa, ea, hwa⟩ := hw _ (List.getElem_mem ha)
  obtain ⟨wb, eb, hwb⟩ := hw _ (List.getElem_mem hb)
  have hat : atI xs (a : Int) = some (.str wa) := by rw [atI_natP ha, ea]
  have hbt : atI xs (b : Int) = some (.str wb) := by rw [atI_natP hb, eb]
  have cl : ∀ lo hi, (cutP xs lo hi).length ≤ 102 := fun lo hi => by
    unfold cutP
    rw [List.length_take, List.length_drop]
    omega
  have cm : ∀ lo hi, ∀ x ∈ cutP xs lo hi, ∃ w : Str, x = .str w ∧ w.length ≤ 100 := fun lo hi x hx => by
    unfold cutP at hx
    exact hw x (List.mem_of_mem_drop (List.mem_of_mem_take hx))
  have row2 : ∀ lo hi lo2 hi2, Row 400 (.lst (cutP xs lo hi ++ cutP xs lo2 hi2)) := fun lo hi lo2 hi2 => by
    refine ⟨_, rfl, ?_, fun x hx => ?_⟩
    · rw [List.length_append]; have := cl lo hi; have := cl lo2 hi2; omega
    · exact (List.mem_append.mp hx).elim (cm _ _ x) (cm _ _ x)
  have row3 : ∀ lo hi lo2 hi2, ∀ w : Str, w.length ≤ 100 → Row 400 (.lst (cutP xs lo hi ++ [PV.str w] ++ cutP xs lo2 hi2)) := fun lo hi lo2 hi2 w hw' => by
    refine ⟨_, rfl, ?_, fun x hx => ?_⟩
    · rw [List.length_append, List.length_append]; have := cl lo hi; have := cl lo2 hi2; show _ + 1 + _ ≤ 400; omega
    · rcases List.mem_append.mp hx with hx | hx
      · rcases List.mem_append.mp hx with hx | hx
        · exact cm _ _ x hx
        · exact ⟨w, List.mem_singleton.mp hx, hw'⟩
      · exact cm _ _ x hx
  have rowO : Row 400 (.lst ((xs.set a (.str wb)).set b (.str wa))) := by
    refine ⟨_, rfl, by rw [List.length_set, List.length_set]; omega, fun x hx => ?_⟩
    rcases List.mem_or_eq_of_mem_set hx with hx | rfl
    · rcases List.mem_or_eq_of_mem_set hx with hx | rfl
      · exact hw x hx
      · exact ⟨wb, rfl, hwb⟩
    · exact ⟨wa, rfl, hwa⟩
  have fin : ∀ v, Row 400 v → ∃ xs zs, seqOf v = some xs ∧ strsOf xs = some zs ∧ (zs.map (·.length)).sum + zs.length * (" " : Str).length ≤ 1000000 ∧ k (.str (Txt.join " " zs)) := by
    rintro v ⟨ys, rfl, hl, hy⟩
    obtain ⟨zs, e, hzl, hzs⟩ := strs_ex hy
    have s := sum_le hzs
    have j := join_len (sep := " ") hzs
    rw [one_sp] at j ⊢
    have : zs.length * 100 ≤ 400 * 100 := Nat.mul_le_mul_right _ (by omega)
    exact ⟨ys, zs, rfl, e, by omega, q _ (by omega)⟩
  have two : ∀ lo hi lo2 hi2, (cutP xs lo hi).length + (cutP xs lo2 hi2).length ≤ 1000000 := fun lo hi lo2 hi2 => by
    have := cl lo hi; have := cl lo2 hi2; omega
  have one : ∀ lo hi (w : PV), (cutP xs lo hi).length + [w].length ≤ 1000000 := fun lo hi w => by
    have := cl lo hi; show _ + 1 ≤ _; omega
  have three : ∀ lo hi lo2 hi2 (w : PV), (cutP xs lo hi ++ [w]).length + (cutP xs lo2 hi2).length ≤ 1000000 := fun lo hi lo2 hi2 w => by
    have := cl lo hi; have := cl lo2 hi2; rw [List.length_append]; show _ + 1 + _ ≤ _; omega
  refine ⟨xs, rfl, ?_⟩
  refine ⟨_, hbt, ?_⟩
  refine ⟨_, hat, m2, ?_⟩
  refine ⟨_, _, rfl, rfl, rfl, ?_⟩
  refine ⟨_, a, rfl, hix a ha, ?_⟩
  refine ⟨_, b, rfl, hix b hb, ?_⟩
  refine ⟨(by decide : 12 ≤ 1000000), v_take (by decide) (by decide) fun d d0 d1 => ?_⟩
  obtain ⟨o, eo, ho⟩ : ∃ o : Str, atI [PV.str "", .str "0", .str "9", .str "10", .str "01", .str "-1", .str "1,", .str "a", .str "1 1", .str "12", .str "+3", .str "3.0"] d = some (.str o) ∧ o.length ≤ 100 := by
    have : d = 0 ∨ d = 1 ∨ d = 2 ∨ d = 3 ∨ d = 4 ∨ d = 5 ∨ d = 6 ∨ d = 7 ∨ d = 8 ∨ d = 9 ∨ d = 10 ∨ d = 11 := by omega
    rcases this with rfl | rfl | rfl | rfl | rfl | rfl | rfl | rfl | rfl | rfl | rfl | rfl <;> exact ⟨_, rfl, by decide +kernel⟩
  refine ⟨_, eo, ?_⟩
  exact bent_last hat two one three row2 row3 rowO hwa ho k0 k1 fin
theorem v__law_bent {z : Str} {k : PV → Prop} (hz : z.length ≤ 100) (q : ∀ y : Str, y.length ≤ 100000 → k (.str y)) : F__law_bent (.str z) k := by
  rw [e__law_bent]
  have h1 := PyProof.Rows.split_pos z " "
  have h2 := PyProof.Rows.split_le z " "
  have h3 : ∀ w ∈ Txt.split z " ", w.length ≤ 100 := fun w hw => Nat.le_trans (PyProof.Rows.part_short hw) hz
  refine ⟨by decide +kernel, by omega, ?_⟩
  generalize Txt.split z " " = ws at h1 h2 h3
  have hm : (ws.map PV.str).length = ws.length := List.length_map _
  have hw : ∀ x ∈ ws.map PV.str, ∃ w : Str, x = .str w ∧ w.length ≤ 100 := fun x hx => by
    obtain ⟨w, hw, rfl⟩ := List.mem_map.mp hx
    exact ⟨w, rfl, h3 w hw⟩
  generalize ws.map PV.str = xs at hm hw
  refine v_take (by omega) (by omega) fun a a0 a1 => v_take (by omega) (by omega) fun b b0 b1 => ⟨by omega, v_take (by omega) (by omega) fun at_ c0 c1 => v__law_sign fun mark => v_take (by decide) (by decide) fun kd k0 k1 => ?_⟩
  obtain ⟨a, rfl⟩ := Int.eq_ofNat_of_zero_le a0
  obtain ⟨b, rfl⟩ := Int.eq_ofNat_of_zero_le b0
  refine ifD (p := kd < 3) (fun h => ?_) fun h => ?_
  · refine ⟨by omega, m3, ?_⟩
    have c1 := cut_len z none (some at_)
    have hmk : (⟨#[mark]⟩ : Str).length = 1 := rfl
    have he : ("" : Str).length = 0 := by decide +kernel
    have fin : ∀ (s : Str) (n : Int), s.length ≤ 1 → (cutS z none (some at_)).length + s.length ≤ 1000000 ∧ (z.length ≤ 1000000 ∧ ((cutS z none (some at_) ++ s).length + (cutS z (some (at_ + n)) none).length ≤ 1000000 ∧ k (.str (cutS z none (some at_) ++ s ++ cutS z (some (at_ + n)) none)))) := fun s n hs => by
      have c2 := cut_len z (some (at_ + n)) none
      refine ⟨by omega, by omega, ?_, q _ ?_⟩
      · rw [Str.length_append]; omega
      · rw [Str.length_append, Str.length_append]; omega
    have : kd = 0 ∨ kd = 1 ∨ kd = 2 := by omega
    rcases this with rfl | rfl | rfl
    · exact ⟨_, rfl, fin _ 0 (by omega)⟩
    · exact ⟨_, rfl, fin _ 1 (by omega)⟩
    · exact ⟨_, rfl, fin _ 1 (by omega)⟩
  · exact bent_tail (by omega) hw (by omega) (by omega) (by omega) (by omega) q
theorem lit0 : rdL (Txt.split "" " ") = .int 0 := by
  have e : fb 0 (Txt.split "" " ") = some 0 := by decide +kernel
  unfold rdL; rw [e]; rfl
theorem lit5 : rdL (Txt.split "1 1 1 1 1 1" " ") = .int 5 := by
  have e : fb 0 (Txt.split "1 1 1 1 1 1" " ") = some 5 := by decide +kernel
  unfold rdL; rw [e]; rfl
theorem lit1 : rdL (Txt.split "1 " " ") = .int 1 := by
  have e : fb 0 (Txt.split "1 " " ") = some 1 := by decide +kernel
  unfold rdL; rw [e]; rfl
theorem lit10 : rdL (Txt.split "10" " ") = .int 0 := by
  have e : fb 0 (Txt.split "10" " ") = some 0 := by decide +kernel
  unfold rdL; rw [e]; rfl
theorem rdL_show (ws : List Str) : ∃ d, dat (rdL ws) = some d ∧ KG.ShowOk d := by
  unfold rdL
  cases e : fb 0 ws with
  | some i =>
    have := fb_le e (by decide)
    exact ⟨_, rfl, (shI (log_small (by omega))).ok (by decide) (by decide)⟩
  | none =>
    have hl := fb_len e (by decide)
    refine ⟨.tuple ((ws.map valW).map .int), by show (dats _).map _ = _; rw [dats_ints]; rfl, (shT (L := 1921) (dep := 0) fun d hd => ?_).ok (by decide) ?_⟩
    · obtain ⟨x, hx, rfl⟩ := List.mem_map.mp hd
      obtain ⟨w, hw, rfl⟩ := List.mem_map.mp hx
      have := val_int (fb_good e w hw)
      exact shI (log_small (by omega))
    · rw [List.length_map, List.length_map]
      have : ws.length * (1921 + 2) ≤ 5 * 1923 := Nat.mul_le_mul_right _ (by omega)
      omega
theorem txt_show {ns : List Int} (g : Good ns) : KG.ShowOk (.str (txt ns)) := by
  refine ⟨rfl, rfl, Nat.zero_le _, ?_⟩
  show (PySem.reprText (txt ns)).length ≤ _
  have h := PySem.StrLaws.reprText_len (txt ns) fun c hc => Nat.lt_trans (txt_sign g c hc) (by decide)
  have := txt_len g
  rw [sizeLine_eq]
  omega
theorem rep_same {v w : PV} {d : PyData} {A B : Prop} (e1 : dat v = some d) (e2 : dat w = some d) (s : KG.ShowOk d) (b : B) : cRepr [v] fun x => cRepr [w] fun y => mNe x y (onB fun c => if c = true then A else B) :=
  ⟨_, d, rfl, e1, s, _, d, rfl, e2, s, ifNF (p := d.shown = d.shown) rfl b⟩
theorem rep_nought {A B : Prop} (b : B) : cRepr [.int 0] fun x => mNe x (.str "0") (onB fun c => if c = true then A else B) := by
  refine ⟨_, .int 0, rfl, rfl, (shI (log_small (by decide))).ok (by decide) (by decide), ?_⟩
  have e : PyData.shown (.int 0) = "0" := by decide +kernel
  rw [e]
  show (if (!decide (("0" : Str) = "0")) = true then A else B)
  exact ifNF rfl b
theorem law_odds {ns ss : List Int} {i : Int} {t : Str} {y5 y6 y7 y8 : Option Cell} {M : Rho → Prop} {R : PV → Prop} (hM : ∀ y5 y6 y7 y8 : Option Cell, M [some (.fr (.scr ns)), some (.fr (.int i)), some .box, some (.fr (shP ss)), some (.fr (.str t)), y5, y6, y7, y8]) :
    (sSeq (sSet 6 (eCallB 2 (S0 F__law_odd) aNil))
    (sIf (bOr (bAnd (bNot (bV (eIsi "str" (mVar 6)))) (bV (eBin mNe (eCall cRepr (aCons (eCall (S1 F__law_said) (aCons (mVar 6) aNil)) aNil)) (eC (.str "0"))))) (bV (eBin mNe (eCall cRepr (aCons (eCall (S1 F__law_said) (aCons (eLst (aCons (mVar 4) aNil)) aNil)) aNil)) (eC (.str "0"))))) (sRet (eC (.bl false))) sNil))
      [some (.fr (.scr ns)), some (.fr (.int i)), some .box, some (.fr (shP ss)), some (.fr (.str t)), y5, y6, y7, y8] M R := by
  refine v__law_odd fun v b hv => ?_
  have last : cRepr [.int 0] fun x => mNe x (.str "0") (onB fun c => if c = true then R (.bl false) else M [some (.fr (.scr ns)), some (.fr (.int i)), some .box, some (.fr (shP ss)), some (.fr (.str t)), y5, some (.fr v), y7, y8]) := rep_nought (hM _ _ _ _)
  have list : ∀ k : PV → Prop, k (.int 0) → (1 ≤ 1000000 ∧ F__law_said (.lst [.str t]) k) := fun k hk => ⟨m1, said_no rfl hk⟩
  show (match isiP "str" v with | some b => _ | none => False)
  rw [hv]
  cases b with
  | true => exact list _ last
  | false => exact said_no hv (rep_nought (list _ last))
theorem law_texts {ns ss : List Int} {i : Int} {y5 y6 y7 y8 : Option Cell} {M : Rho → Prop} {R : PV → Prop} (g : Good ss) (hM : ∀ y5 y6 y7 y8 : Option Cell, M [some (.fr (.scr ns)), some (.fr (.int i)), some .box, some (.fr (shP ss)), some (.fr (.str (txt ss))), y5, y6, y7, y8]) :
    (sSeq (sFor (wSeq (eBin mAddT (eLst (aCons (mVar 4) (aCons (eBin mAddT (mVar 4) (eC (.str " "))) (aCons (eBin mAddT (eC (.str " ")) (mVar 4)) aNil)))) (eLc (wRng1 (eC (.int 5))) (gwName 8) tYesW (eCallB 2 (S1 F__law_bent) (aCons (mVar 4) aNil)) [8]))) (gwName 5) (sIf (bV (eBin mNe (eCall cRepr (aCons (eCall (S1 F__law_said) (aCons (mVar 5) aNil)) aNil)) (eCall cRepr (aCons (eCall (S1 F__law_read) (aCons (mVar 5) aNil)) aNil)))) (sRet (eC (.bl false))) sNil))
    (sSeq (sSet 6 (eCallB 2 (S0 F__law_odd) aNil))
    (sIf (bOr (bAnd (bNot (bV (eIsi "str" (mVar 6)))) (bV (eBin mNe (eCall cRepr (aCons (eCall (S1 F__law_said) (aCons (mVar 6) aNil)) aNil)) (eC (.str "0"))))) (bV (eBin mNe (eCall cRepr (aCons (eCall (S1 F__law_said) (aCons (eLst (aCons (mVar 4) aNil)) aNil)) aNil)) (eC (.str "0"))))) (sRet (eC (.bl false))) sNil)))
      [some (.fr (.scr ns)), some (.fr (.int i)), some .box, some (.fr (shP ss)), some (.fr (.str (txt ss))), y5, y6, y7, y8] M R := by
  have tl := txt_len g
  have sp := one_sp
  have T1 : (txt ss ++ (" " : Str)).length ≤ 100000 := by rw [Str.length_append]; omega
  have T2 : ((" " : Str) ++ txt ss).length ≤ 100000 := by rw [Str.length_append]; omega
  refine ⟨by omega, by omega, m3, sm62 (by decide) (by decide), ?_⟩
  show lcW _ _ _ _ _ _ _
  refine lc_any (fun v => ∃ y : Str, v = .str y ∧ y.length ≤ 100000) (fun d hd K hK => v__law_bent (by omega) fun y hy => hK _ ⟨y, rfl, hy⟩) (by decide) fun vs hvl hvs => ?_
  have h5 : vs.length = 5 := hvl.trans rfl
  refine ⟨by rw [List.nil_append]; show 3 + vs.length ≤ 1000000; omega, ?_⟩
  refine for_inv (fun _ ρ => ∃ y5 y6 y7 y8, ρ = [some (.fr (.scr ns)), some (.fr (.int i)), some .box, some (.fr (shP ss)), some (.fr (.str (txt ss))), y5, y6, y7, y8]) ⟨_, _, _, _, rfl⟩ ?_ ?_
  · rintro j d ρ M' e ⟨z5, z6, z7, z8, rfl⟩ hM'
    have hd : ∃ y : Str, d = .str y ∧ y.length ≤ 100000 := by
      have hm := List.mem_of_getElem? e
      rcases List.mem_append.mp hm with hm | hm
      · rcases List.mem_cons.mp hm with rfl | hm
        · exact ⟨_, rfl, by omega⟩
        · rcases List.mem_cons.mp hm with rfl | hm
          · exact ⟨_, rfl, T1⟩
          · exact ⟨_, List.mem_singleton.mp hm, T2⟩
      · exact hvs d hm
    obtain ⟨y, rfl, hy⟩ := hd
    obtain ⟨dd, e1, s1⟩ := rdL_show (Txt.split y " ")
    refine v__law_said hy ⟨_, dd, rfl, e1, s1, v__law_read hy ⟨_, dd, rfl, e1, s1, ifNF (p := dd.shown = dd.shown) rfl (hM' _ ⟨_, _, _, _, rfl⟩)⟩⟩
  · rintro ρ ⟨z5, z6, z7, z8, rfl⟩
    exact law_odds hM
theorem pure_law (ns : List Int) (hl : ns.length ≤ 63) : F_law (.scr ns) (fun v => v = .bl true) := by
  rw [e_law]
  refine v__law_said (by decide +kernel) ?_
  rw [lit0]
  refine v__law_said (by decide +kernel) ?_
  rw [lit5]
  refine v__law_said (by decide +kernel) ?_
  rw [lit1]
  refine v__law_said (by decide +kernel) ?_
  rw [lit10]
  refine law_loop (c := 6) (by decide) (by decide) (fun ρ => ∃ y1 y2 y3 y4 y5 y6 y7 y8, ρ = [some (.fr (.scr ns)), y1, y2, y3, y4, y5, y6, y7, y8]) ⟨_, _, _, _, _, _, _, _, rfl⟩ ?_ (fun ρ h => by obtain ⟨y1, y2, y3, y4, y5, y6, y7, y8, rfl⟩ := h; rfl)
  rintro i ρ M hi ⟨y1, y2, y3, y4, y5, y6, y7, y8, rfl⟩ hM
  refine ⟨⟨ns, i, by rw [Int.zero_add]⟩, ?_⟩
  refine v__law_drawn_shares (by decide) (by decide) (by decide) (by decide) fun ss s1 s5 hs => ?_
  have g : Good ss := ⟨s1, by omega, hs⟩
  show lcW _ _ _ _ _ _ _
  refine lc_map (fun v => match v with | .int i => .str (dg i) | v => v) (fun d hd K hK => ?_) (by rw [List.length_map]; show 0 + _ ≤ _; omega) ?_
  · obtain ⟨x, hx, rfl⟩ := List.mem_map.mp hd
    have := hs x hx
    exact one_str (by omega) (by omega) hK
  obtain ⟨xs, zs, e1, e2, e3, e4⟩ := nums_text (k := fun v => v = .str (txt ss)) g rfl
  refine ⟨xs, zs, e1, e2, e3, ?_⟩
  rw [PV.str.inj e4]
  refine v_show g ⟨_, _, rfl, rfl, txt_show g, _, _, rfl, rfl, txt_show g, ifNF (p := PyData.shown (.str (txt ss)) = PyData.shown (.str (txt ss))) rfl ?_⟩
  exact law_texts g fun y5 y6 y7 y8 => hM _ ⟨_, _, _, _, _, _, _, _, rfl⟩
end KGX

namespace KGX
open PySem PySem.Spec PyProof.Rows L2 KV
theorem all_mk {l : PySem.W.OpenLaw} {w : World} {K : PySem.W.Frag} {h : Heap} {mg : Str → Option Value} {fa : Addr} (X : K.In h) (G : h.Ns mainGlobals mg) (hfa : mg "law" = some (.ref fa))
    {f0 : Addr} {od0 an0 : Option Addr} {sl0 : Array (Option Value)} {oc0 kV0 dc0 pm0 cd0 ct0 : Value} {f1 : Addr} {od1 an1 : Option Addr} {sl1 : Array (Option Value)} {oc1 kV1 dc1 pm1 cd1 ct1 : Value} {f2 : Addr} {od2 an2 : Option Addr} {sl2 : Array (Option Value)} {oc2 kV2 dc2 pm2 cd2 ct2 : Value} {f3 : Addr} {od3 an3 : Option Addr} {sl3 : Array (Option Value)} {oc3 kV3 dc3 pm3 cd3 ct3 : Value} {f4 : Addr} {od4 an4 : Option Addr} {sl4 : Array (Option Value)} {oc4 kV4 dc4 pm4 cd4 ct4 : Value} {f5 : Addr} {od5 an5 : Option Addr} {sl5 : Array (Option Value)} {oc5 kV5 dc5 pm5 cd5 ct5 : Value} {f6 : Addr} {od6 an6 : Option Addr} {sl6 : Array (Option Value)} {oc6 kV6 dc6 pm6 cd6 ct6 : Value} {f7 : Addr} {od7 an7 : Option Addr} {sl7 : Array (Option Value)} {oc7 kV7 dc7 pm7 cd7 ct7 : Value} {f8 : Addr} {od8 an8 : Option Addr} {sl8 : Array (Option Value)} {oc8 kV8 dc8 pm8 cd8 ct8 : Value} {f9 : Addr} {od9 an9 : Option Addr} {sl9 : Array (Option Value)} {oc9 kV9 dc9 pm9 cd9 ct9 : Value} {f10 : Addr} {od10 an10 : Option Addr} {sl10 : Array (Option Value)} {oc10 kV10 dc10 pm10 cd10 ct10 : Value} {f11 : Addr} {od11 an11 : Option Addr} {sl11 : Array (Option Value)} {oc11 kV11 dc11 pm11 cd11 ct11 : Value} {f12 : Addr} {od12 an12 : Option Addr} {sl12 : Array (Option Value)} {oc12 kV12 dc12 pm12 cd12 ct12 : Value} {f13 : Addr} {od13 an13 : Option Addr} {sl13 : Array (Option Value)} {oc13 kV13 dc13 pm13 cd13 ct13 : Value} {f14 : Addr} {od14 an14 : Option Addr} {sl14 : Array (Option Value)} {oc14 kV14 dc14 pm14 cd14 ct14 : Value} {f15 : Addr} {od15 an15 : Option Addr} {sl15 : Array (Option Value)} {oc15 kV15 dc15 pm15 cd15 ct15 : Value} {f16 : Addr} {od16 an16 : Option Addr} {sl16 : Array (Option Value)} {oc16 kV16 dc16 pm16 cd16 ct16 : Value} {f17 : Addr} {od17 an17 : Option Addr} {sl17 : Array (Option Value)} {oc17 kV17 dc17 pm17 cd17 ct17 : Value} {f18 : Addr} {od18 an18 : Option Addr} {sl18 : Array (Option Value)} {oc18 kV18 dc18 pm18 cd18 ct18 : Value} {f19 : Addr} {od19 an19 : Option Addr} {sl19 : Array (Option Value)} {oc19 kV19 dc19 pm19 cd19 ct19 : Value} {t_MOST_KINDS : Tok} {t_MOST_SHARE : Tok} {C_GatherError : Addr} {C_NoShares : Addr} {C_NoKind : Addr} {C_NoNumber : Addr} {C_NoNeeds : Addr} {C_TooMany : Addr} {C_NoText : Addr} {fI_NoText cc_NoText cda_NoText nN_NoText : Addr} {t_NoText nm_NoText qn_NoText qual_NoText file_NoText : Str} {j_NoText : Nat} {p_NoText q_NoText p0_NoText p1_NoText p2_NoText p3_NoText p4_NoText p5_NoText p6_NoText p7_NoText p8_NoText p9_NoText : Pos} {tf_NoText : Tok} {bs_NoText : List Value} {sn_NoText : List Str} {sub_NoText : List Value} {ab_NoText : Bool} {col_NoText : Option Bool} {dd_NoText od_NoText an_NoText cld_NoText cdd_NoText : Option Addr} {m0_NoText m1_NoText m2_NoText m3_NoText m5_NoText : Option Value} {oc_NoText kV_NoText dc_NoText pm_NoText ct_NoText cl_NoText ccl_NoText : Value} {osl_NoText csl_NoText ccs_NoText : Array (Option Value)} {vs_NoText : Array Value}
    (a0 : PySem.W.nsIn K mainGlobals "is_whole" = some (some (.ref f0))) (l0 : K.lookup f0 = some ⟨oc0, od0, .func (PySem.W.fnOf "is_whole" "is_whole" (defArgs s_is_whole) (defBody s_is_whole) (defScope s_is_whole) .none kV0 dc0 pm0 an0 cd0 ct0), sl0⟩)
    (c0 : PySem.W.codeIn K cd0 "is_whole" = true) (k0 : PySem.W.keepIn K (.ref f0) = true)
    (a1 : PySem.W.nsIn K mainGlobals "is_whole_within" = some (some (.ref f1))) (l1 : K.lookup f1 = some ⟨oc1, od1, .func (PySem.W.fnOf "is_whole_within" "is_whole_within" (defArgs s_is_whole_within) (defBody s_is_whole_within) (defScope s_is_whole_within) .none kV1 dc1 pm1 an1 cd1 ct1), sl1⟩)
    (c1 : PySem.W.codeIn K cd1 "is_whole_within" = true) (k1 : PySem.W.keepIn K (.ref f1) = true)
    (a2 : PySem.W.nsIn K mainGlobals "is_shares" = some (some (.ref f2))) (l2 : K.lookup f2 = some ⟨oc2, od2, .func (PySem.W.fnOf "is_shares" "is_shares" (defArgs s_is_shares) (defBody s_is_shares) (defScope s_is_shares) .none kV2 dc2 pm2 an2 cd2 ct2), sl2⟩)
    (c2 : PySem.W.codeIn K cd2 "is_shares" = true) (k2 : PySem.W.keepIn K (.ref f2) = true)
    (a3 : PySem.W.nsIn K mainGlobals "check_shares" = some (some (.ref f3))) (l3 : K.lookup f3 = some ⟨oc3, od3, .func (PySem.W.fnOf "check_shares" "check_shares" (defArgs s_check_shares) (defBody s_check_shares) (defScope s_check_shares) .none kV3 dc3 pm3 an3 cd3 ct3), sl3⟩)
    (c3 : PySem.W.codeIn K cd3 "check_shares" = true) (k3 : PySem.W.keepIn K (.ref f3) = true)
    (a4 : PySem.W.nsIn K mainGlobals "show" = some (some (.ref f4))) (l4 : K.lookup f4 = some ⟨oc4, od4, .func (PySem.W.fnOf "show" "show" (defArgs s_show) (defBody s_show) (defScope s_show) .none kV4 dc4 pm4 an4 cd4 ct4), sl4⟩)
    (c4 : PySem.W.codeIn K cd4 "show" = true) (k4 : PySem.W.keepIn K (.ref f4) = true)
    (a5 : PySem.W.nsIn K mainGlobals "is_share_word" = some (some (.ref f5))) (l5 : K.lookup f5 = some ⟨oc5, od5, .func (PySem.W.fnOf "is_share_word" "is_share_word" (defArgs s_is_share_word) (defBody s_is_share_word) (defScope s_is_share_word) .none kV5 dc5 pm5 an5 cd5 ct5), sl5⟩)
    (c5 : PySem.W.codeIn K cd5 "is_share_word" = true) (k5 : PySem.W.keepIn K (.ref f5) = true)
    (a6 : PySem.W.nsIn K mainGlobals "read" = some (some (.ref f6))) (l6 : K.lookup f6 = some ⟨oc6, od6, .func (PySem.W.fnOf "read" "read" (defArgs s_read) (defBody s_read) (defScope s_read) .none kV6 dc6 pm6 an6 cd6 ct6), sl6⟩)
    (c6 : PySem.W.codeIn K cd6 "read" = true) (k6 : PySem.W.keepIn K (.ref f6) = true)
    (a7 : PySem.W.nsIn K mainGlobals "_law_cell" = some (some (.ref f7))) (l7 : K.lookup f7 = some ⟨oc7, od7, .func (PySem.W.fnOf "_law_cell" "_law_cell" (defArgs s__law_cell) (defBody s__law_cell) (defScope s__law_cell) .none kV7 dc7 pm7 an7 cd7 ct7), sl7⟩)
    (c7 : PySem.W.codeIn K cd7 "_law_cell" = true) (k7 : PySem.W.keepIn K (.ref f7) = true)
    (a8 : PySem.W.nsIn K mainGlobals "_law_mix" = some (some (.ref f8))) (l8 : K.lookup f8 = some ⟨oc8, od8, .func (PySem.W.fnOf "_law_mix" "_law_mix" (defArgs s__law_mix) (defBody s__law_mix) (defScope s__law_mix) .none kV8 dc8 pm8 an8 cd8 ct8), sl8⟩)
    (c8 : PySem.W.codeIn K cd8 "_law_mix" = true) (k8 : PySem.W.keepIn K (.ref f8) = true)
    (a9 : PySem.W.nsIn K mainGlobals "_law_box" = some (some (.ref f9))) (l9 : K.lookup f9 = some ⟨oc9, od9, .func (PySem.W.fnOf "_law_box" "_law_box" (defArgs s__law_box) (defBody s__law_box) (defScope s__law_box) .none kV9 dc9 pm9 an9 cd9 ct9), sl9⟩)
    (c9 : PySem.W.codeIn K cd9 "_law_box" = true) (k9 : PySem.W.keepIn K (.ref f9) = true)
    (a10 : PySem.W.nsIn K mainGlobals "_law_take" = some (some (.ref f10))) (l10 : K.lookup f10 = some ⟨oc10, od10, .func (PySem.W.fnOf "_law_take" "_law_take" (defArgs s__law_take) (defBody s__law_take) (defScope s__law_take) .none kV10 dc10 pm10 an10 cd10 ct10), sl10⟩)
    (c10 : PySem.W.codeIn K cd10 "_law_take" = true) (k10 : PySem.W.keepIn K (.ref f10) = true)
    (a11 : PySem.W.nsIn K mainGlobals "_law_whole" = some (some (.ref f11))) (l11 : K.lookup f11 = some ⟨oc11, od11, .func (PySem.W.fnOf "_law_whole" "_law_whole" (defArgs s__law_whole) (defBody s__law_whole) (defScope s__law_whole) .none kV11 dc11 pm11 an11 cd11 ct11), sl11⟩)
    (c11 : PySem.W.codeIn K cd11 "_law_whole" = true) (k11 : PySem.W.keepIn K (.ref f11) = true)
    (a12 : PySem.W.nsIn K mainGlobals "_law_sign" = some (some (.ref f12))) (l12 : K.lookup f12 = some ⟨oc12, od12, .func (PySem.W.fnOf "_law_sign" "_law_sign" (defArgs s__law_sign) (defBody s__law_sign) (defScope s__law_sign) .none kV12 dc12 pm12 an12 cd12 ct12), sl12⟩)
    (c12 : PySem.W.codeIn K cd12 "_law_sign" = true) (k12 : PySem.W.keepIn K (.ref f12) = true)
    (a13 : PySem.W.nsIn K mainGlobals "_law_drawn_shares" = some (some (.ref f13))) (l13 : K.lookup f13 = some ⟨oc13, od13, .func (PySem.W.fnOf "_law_drawn_shares" "_law_drawn_shares" (defArgs s__law_drawn_shares) (defBody s__law_drawn_shares) (defScope s__law_drawn_shares) .none kV13 dc13 pm13 an13 cd13 ct13), sl13⟩)
    (c13 : PySem.W.codeIn K cd13 "_law_drawn_shares" = true) (k13 : PySem.W.keepIn K (.ref f13) = true)
    (a14 : PySem.W.nsIn K mainGlobals "_law_odd" = some (some (.ref f14))) (l14 : K.lookup f14 = some ⟨oc14, od14, .func (PySem.W.fnOf "_law_odd" "_law_odd" (defArgs s__law_odd) (defBody s__law_odd) (defScope s__law_odd) .none kV14 dc14 pm14 an14 cd14 ct14), sl14⟩)
    (c14 : PySem.W.codeIn K cd14 "_law_odd" = true) (k14 : PySem.W.keepIn K (.ref f14) = true)
    (a15 : PySem.W.nsIn K mainGlobals "_law_marks" = some (some (.ref f15))) (l15 : K.lookup f15 = some ⟨oc15, od15, .func (PySem.W.fnOf "_law_marks" "_law_marks" (defArgs s__law_marks) (defBody s__law_marks) (defScope s__law_marks) .none kV15 dc15 pm15 an15 cd15 ct15), sl15⟩)
    (c15 : PySem.W.codeIn K cd15 "_law_marks" = true) (k15 : PySem.W.keepIn K (.ref f15) = true)
    (a16 : PySem.W.nsIn K mainGlobals "_law_read" = some (some (.ref f16))) (l16 : K.lookup f16 = some ⟨oc16, od16, .func (PySem.W.fnOf "_law_read" "_law_read" (defArgs s__law_read) (defBody s__law_read) (defScope s__law_read) .none kV16 dc16 pm16 an16 cd16 ct16), sl16⟩)
    (c16 : PySem.W.codeIn K cd16 "_law_read" = true) (k16 : PySem.W.keepIn K (.ref f16) = true)
    (a17 : PySem.W.nsIn K mainGlobals "_law_said" = some (some (.ref f17))) (l17 : K.lookup f17 = some ⟨oc17, od17, .func (PySem.W.fnOf "_law_said" "_law_said" (defArgs s__law_said) (defBody s__law_said) (defScope s__law_said) .none kV17 dc17 pm17 an17 cd17 ct17), sl17⟩)
    (c17 : PySem.W.codeIn K cd17 "_law_said" = true) (k17 : PySem.W.keepIn K (.ref f17) = true)
    (a18 : PySem.W.nsIn K mainGlobals "_law_bent" = some (some (.ref f18))) (l18 : K.lookup f18 = some ⟨oc18, od18, .func (PySem.W.fnOf "_law_bent" "_law_bent" (defArgs s__law_bent) (defBody s__law_bent) (defScope s__law_bent) .none kV18 dc18 pm18 an18 cd18 ct18), sl18⟩)
    (c18 : PySem.W.codeIn K cd18 "_law_bent" = true) (k18 : PySem.W.keepIn K (.ref f18) = true)
    (a19 : PySem.W.nsIn K mainGlobals "law" = some (some (.ref f19))) (l19 : K.lookup f19 = some ⟨oc19, od19, .func (PySem.W.fnOf "law" "law" (defArgs s_law) (defBody s_law) (defScope s_law) .none kV19 dc19 pm19 an19 cd19 ct19), sl19⟩)
    (c19 : PySem.W.codeIn K cd19 "law" = true) (k19 : PySem.W.keepIn K (.ref f19) = true)
    (z_isinstance : PySem.W.nsIn K mainGlobals "isinstance" = some none)
    (z_int : PySem.W.nsIn K mainGlobals "int" = some none)
    (z_bool : PySem.W.nsIn K mainGlobals "bool" = some none)
    (z_all : PySem.W.nsIn K mainGlobals "all" = some none)
    (z_tuple : PySem.W.nsIn K mainGlobals "tuple" = some none)
    (z_len : PySem.W.nsIn K mainGlobals "len" = some none)
    (z_str : PySem.W.nsIn K mainGlobals "str" = some none)
    (z_range : PySem.W.nsIn K mainGlobals "range" = some none)
    (z_enumerate : PySem.W.nsIn K mainGlobals "enumerate" = some none)
    (z_abs : PySem.W.nsIn K mainGlobals "abs" = some none)
    (z_divmod : PySem.W.nsIn K mainGlobals "divmod" = some none)
    (z_ValueError : PySem.W.nsIn K mainGlobals "ValueError" = some none)
    (z_list : PySem.W.nsIn K mainGlobals "list" = some none)
    (z_max : PySem.W.nsIn K mainGlobals "max" = some none)
    (z_min : PySem.W.nsIn K mainGlobals "min" = some none)
    (z_repr : PySem.W.nsIn K mainGlobals "repr" = some none)
    (y_MOST_KINDS : PySem.W.nsIn K mainGlobals "MOST_KINDS" = some (some (.int 5 t_MOST_KINDS)))
    (y_MOST_SHARE : PySem.W.nsIn K mainGlobals "MOST_SHARE" = some (some (.int 9 t_MOST_SHARE)))
    (y_GatherError : PySem.W.nsIn K mainGlobals "GatherError" = some (some (.ref C_GatherError)))
    (y_NoShares : PySem.W.nsIn K mainGlobals "NoShares" = some (some (.ref C_NoShares)))
    (y_NoKind : PySem.W.nsIn K mainGlobals "NoKind" = some (some (.ref C_NoKind)))
    (y_NoNumber : PySem.W.nsIn K mainGlobals "NoNumber" = some (some (.ref C_NoNumber)))
    (y_NoNeeds : PySem.W.nsIn K mainGlobals "NoNeeds" = some (some (.ref C_NoNeeds)))
    (y_TooMany : PySem.W.nsIn K mainGlobals "TooMany" = some (some (.ref C_TooMany)))
    (y_NoText : PySem.W.nsIn K mainGlobals "NoText" = some (some (.ref C_NoText)))
    (spG : PySem.W.specialIn K (.builtin "object.__class__") "__get__" = some (some (.builtin "getset_descriptor.__get__")))
    (tkG : PySem.W.takesIn K (.builtin "object.__class__") = some true)
    (xL_NoText : K.lookup C_NoText = some (excClassObj nm_NoText qn_NoText C_NoText nN_NoText bs_NoText [.ref C_GatherError, .type "ValueError", .type "Exception", .type "BaseException", .type "object"] true sn_NoText sub_NoText ab_NoText col_NoText dd_NoText m0_NoText m1_NoText m2_NoText m3_NoText m5_NoText "ValueError.__new__"))
    (iC_NoText : PySem.W.findIn K (.ref C_NoText) "__init__" = some (some (.ref fI_NoText)))
    (lf_NoText : K.lookup fI_NoText = some ⟨oc_NoText, od_NoText, .func (PySem.W.ksFn "__init__" qual_NoText (KV.nfA p_NoText q_NoText) [KV.nf1 t_NoText j_NoText p0_NoText p1_NoText p2_NoText p3_NoText p4_NoText p5_NoText, KV.nf2 p6_NoText p7_NoText p8_NoText p9_NoText] KV.nfS .none kV_NoText dc_NoText pm_NoText an_NoText (.ref cda_NoText) ct_NoText cc_NoText), osl_NoText⟩)
    (cf_NoText : PySem.W.codeIn K (.ref cda_NoText) qual_NoText = true)
    (lc_NoText : K.lookup cc_NoText = some ⟨cl_NoText, cld_NoText, .cell (some (.ref C_NoText)), csl_NoText⟩)
    (ld_NoText : K.lookup cda_NoText = some ⟨ccl_NoText, cdd_NoText, .fields vs_NoText, ccs_NoText⟩)
    (hv_NoText : vs_NoText[2]? = some (.str file_NoText tf_NoText))
    (hfi_NoText : ((l.prog.main.file : Str) == file_NoText) = true)
    (top_NoText : (l.prog.main.scope.names.lookup ("super" : Str)).isSome = false)
    (sa_NoText : PySem.W.findIn K (.ref C_NoText) "__setattr__" = some (some (.builtin "object.__setattr__")))
    (ga_NoText : PySem.W.findIn K (.ref C_NoText) "__getattribute__" = some (some (.builtin "BaseException.__getattribute__")))
    (gg_NoText : PySem.W.findIn K (.ref C_NoText) "__getattr__" = some none)
    (eC_NoText : PySem.W.subIn K (.ref C_NoText) (.type "BaseException") = some true)
    (tC_NoText : PySem.W.typeIn K (.ref C_NoText) = some (.type "type"))
    (kC_NoText : PySem.W.keepIn K (.ref C_NoText) = true)
    (no_NoText : PySem.W.findIn K (.ref C_NoText) "at" = some none)
    (hdC_NoText : PySem.W.hasDictIn K C_NoText = true)
    (sb_NoText : PySem.W.mroIn K C_NoText (.ref C_NoText) = some true)
    (ns_NoText : PySem.W.nsIn K mainGlobals "super" = some none)
    (opq_NoText : PySem.W.nsIn K cStatics "thirdparty.any" = some none)
    (sup_NoText : PySem.W.ks_superIn K C_NoText C_NoText "__init__" = some (some (.builtin "ValueError.__init__")))
    (isV_NoText : PySem.W.subIn K (.ref C_NoText) (.type "ValueError") = some true)
    (ini_NoText : PySem.W.excInitIn K C_NoText KV.veB "ValueError.__new__" = true)
    (mc_NoText : KV.McOk t_NoText j_NoText p0_NoText p1_NoText p2_NoText p3_NoText p4_NoText)
    (tI_NoText : PySem.W.typeIn K (.ref fI_NoText) = some (.type "function"))
    (i_NoText : PySem.W.isClsIn K C_NoText = true)
    (fc_NoText : PySem.W.findIn K (.ref C_NoText) "__class__" = some (some (.builtin "object.__class__")))
    (mr_NoText : PySem.W.mroIn K C_NoText (.type "object") = some true)
    (kg_NoText : PySem.W.kitOne K (.ref C_NoText) (.ref C_GatherError) = some true)
    (kv_NoText : PySem.W.kitOne K (.ref C_NoText) (.type "ValueError") = some true)
    (k0_NoText : PySem.W.kitOne K (.ref C_NoText) (.ref C_NoShares) = some false)
    (k1_NoText : PySem.W.kitOne K (.ref C_NoText) (.ref C_NoKind) = some false)
    (k2_NoText : PySem.W.kitOne K (.ref C_NoText) (.ref C_NoNumber) = some false)
    (k3_NoText : PySem.W.kitOne K (.ref C_NoText) (.ref C_NoNeeds) = some false)
    (k4_NoText : PySem.W.kitOne K (.ref C_NoText) (.ref C_TooMany) = some false)
    (k5_NoText : PySem.W.kitOne K (.ref C_NoText) (.ref C_NoText) = some true)
    (ex_NoText : PySem.W.exmOne K (.ref C_NoText) (.ref C_GatherError) = some true) :
    ∃ fd : FuncData, (∀ (s : Shared) (v : Value), BindsTo s fd ⟨[v], []⟩ [("_law_script", v)]) ∧ ∀ base : Heap, K.In base → base.Ns mainGlobals mg → KG.FnG l.prog w K mg base 6 fa fd ["_law_script"] (sp_law K) := by
  have T : ∃ T : Tx l.prog K mg, T.a_law = f19 ∧ T.d_law = PySem.W.fnOf "law" "law" (defArgs s_law) (defBody s_law) (defScope s_law) .none kV19 dc19 pm19 an19 cd19 ct19 := ⟨{
    a_is_whole := f0, d_is_whole := _, F_is_whole := fun_mk (st := s_is_whole) l0 c0 k0, g_is_whole := PySem.W.mg_of X G a0, b_is_whole := (fun_mk (st := s_is_whole) l0 c0 k0).binds (ps := ["thing"]) fun _ _ _ _ _ _ us hl => match us, hl with | [_], _ => rfl,
    a_is_whole_within := f1, d_is_whole_within := _, F_is_whole_within := fun_mk (st := s_is_whole_within) l1 c1 k1, g_is_whole_within := PySem.W.mg_of X G a1, b_is_whole_within := (fun_mk (st := s_is_whole_within) l1 c1 k1).binds (ps := ["thing", "least", "most"]) fun _ _ _ _ _ _ us hl => match us, hl with | [_, _, _], _ => rfl,
    a_is_shares := f2, d_is_shares := _, F_is_shares := fun_mk (st := s_is_shares) l2 c2 k2, g_is_shares := PySem.W.mg_of X G a2, b_is_shares := (fun_mk (st := s_is_shares) l2 c2 k2).binds (ps := ["thing"]) fun _ _ _ _ _ _ us hl => match us, hl with | [_], _ => rfl,
    a_check_shares := f3, d_check_shares := _, F_check_shares := fun_mk (st := s_check_shares) l3 c3 k3, g_check_shares := PySem.W.mg_of X G a3, b_check_shares := (fun_mk (st := s_check_shares) l3 c3 k3).binds (ps := ["thing"]) fun _ _ _ _ _ _ us hl => match us, hl with | [_], _ => rfl,
    a_show := f4, d_show := _, F_show := fun_mk (st := s_show) l4 c4 k4, g_show := PySem.W.mg_of X G a4, b_show := (fun_mk (st := s_show) l4 c4 k4).binds (ps := ["shares"]) fun _ _ _ _ _ _ us hl => match us, hl with | [_], _ => rfl,
    a_is_share_word := f5, d_is_share_word := _, F_is_share_word := fun_mk (st := s_is_share_word) l5 c5 k5, g_is_share_word := PySem.W.mg_of X G a5, b_is_share_word := (fun_mk (st := s_is_share_word) l5 c5 k5).binds (ps := ["word"]) fun _ _ _ _ _ _ us hl => match us, hl with | [_], _ => rfl,
    a_read := f6, d_read := _, F_read := fun_mk (st := s_read) l6 c6 k6, g_read := PySem.W.mg_of X G a6, b_read := (fun_mk (st := s_read) l6 c6 k6).binds (ps := ["text"]) fun _ _ _ _ _ _ us hl => match us, hl with | [_], _ => rfl,
    a__law_cell := f7, d__law_cell := _, F__law_cell := fun_mk (st := s__law_cell) l7 c7 k7, g__law_cell := PySem.W.mg_of X G a7, b__law_cell := (fun_mk (st := s__law_cell) l7 c7 k7).binds (ps := ["_law_script", "_law_k"]) fun _ _ _ _ _ _ us hl => match us, hl with | [_, _], _ => rfl,
    a__law_mix := f8, d__law_mix := _, F__law_mix := fun_mk (st := s__law_mix) l8 c8 k8, g__law_mix := PySem.W.mg_of X G a8, b__law_mix := (fun_mk (st := s__law_mix) l8 c8 k8).binds (ps := ["_law_cell_here", "_law_k"]) fun _ _ _ _ _ _ us hl => match us, hl with | [_, _], _ => rfl,
    a__law_box := f9, d__law_box := _, F__law_box := fun_mk (st := s__law_box) l9 c9 k9, g__law_box := PySem.W.mg_of X G a9, b__law_box := (fun_mk (st := s__law_box) l9 c9 k9).binds (ps := ["_law_script", "_law_k"]) fun _ _ _ _ _ _ us hl => match us, hl with | [_, _], _ => rfl,
    a__law_take := f10, d__law_take := _, F__law_take := fun_mk (st := s__law_take) l10 c10 k10, g__law_take := PySem.W.mg_of X G a10, b__law_take := (fun_mk (st := s__law_take) l10 c10 k10).binds (ps := ["_law_box_here", "_law_many"]) fun _ _ _ _ _ _ us hl => match us, hl with | [_, _], _ => rfl,
    a__law_whole := f11, d__law_whole := _, F__law_whole := fun_mk (st := s__law_whole) l11 c11 k11, g__law_whole := PySem.W.mg_of X G a11, b__law_whole := (fun_mk (st := s__law_whole) l11 c11 k11).binds (ps := ["_law_thing"]) fun _ _ _ _ _ _ us hl => match us, hl with | [_], _ => rfl,
    a__law_sign := f12, d__law_sign := _, F__law_sign := fun_mk (st := s__law_sign) l12 c12 k12, g__law_sign := PySem.W.mg_of X G a12, b__law_sign := (fun_mk (st := s__law_sign) l12 c12 k12).binds (ps := ["_law_box_here"]) fun _ _ _ _ _ _ us hl => match us, hl with | [_], _ => rfl,
    a__law_drawn_shares := f13, d__law_drawn_shares := _, F__law_drawn_shares := fun_mk (st := s__law_drawn_shares) l13 c13 k13, g__law_drawn_shares := PySem.W.mg_of X G a13, b__law_drawn_shares := (fun_mk (st := s__law_drawn_shares) l13 c13 k13).binds (ps := ["_law_box_here", "_law_most", "_law_top"]) fun _ _ _ _ _ _ us hl => match us, hl with | [_, _, _], _ => rfl,
    a__law_odd := f14, d__law_odd := _, F__law_odd := fun_mk (st := s__law_odd) l14 c14 k14, g__law_odd := PySem.W.mg_of X G a14, b__law_odd := (fun_mk (st := s__law_odd) l14 c14 k14).binds (ps := ["_law_box_here"]) fun _ _ _ _ _ _ us hl => match us, hl with | [_], _ => rfl,
    a__law_marks := f15, d__law_marks := _, F__law_marks := fun_mk (st := s__law_marks) l15 c15 k15, g__law_marks := PySem.W.mg_of X G a15, b__law_marks := (fun_mk (st := s__law_marks) l15 c15 k15).binds (ps := ["_law_e"]) fun _ _ _ _ _ _ us hl => match us, hl with | [_], _ => rfl,
    a__law_read := f16, d__law_read := _, F__law_read := fun_mk (st := s__law_read) l16 c16 k16, g__law_read := PySem.W.mg_of X G a16, b__law_read := (fun_mk (st := s__law_read) l16 c16 k16).binds (ps := ["_law_text"]) fun _ _ _ _ _ _ us hl => match us, hl with | [_], _ => rfl,
    a__law_said := f17, d__law_said := _, F__law_said := fun_mk (st := s__law_said) l17 c17 k17, g__law_said := PySem.W.mg_of X G a17, b__law_said := (fun_mk (st := s__law_said) l17 c17 k17).binds (ps := ["_law_thing"]) fun _ _ _ _ _ _ us hl => match us, hl with | [_], _ => rfl,
    a__law_bent := f18, d__law_bent := _, F__law_bent := fun_mk (st := s__law_bent) l18 c18 k18, g__law_bent := PySem.W.mg_of X G a18, b__law_bent := (fun_mk (st := s__law_bent) l18 c18 k18).binds (ps := ["_law_box_here", "_law_text"]) fun _ _ _ _ _ _ us hl => match us, hl with | [_, _], _ => rfl,
    a_law := f19, d_law := _, F_law := fun_mk (st := s_law) l19 c19 k19, g_law := PySem.W.mg_of X G a19, b_law := (fun_mk (st := s_law) l19 c19 k19).binds (ps := ["_law_script"]) fun _ _ _ _ _ _ us hl => match us, hl with | [_], _ => rfl,
    m_isinstance := PySem.W.mg_none_of X G z_isinstance,
    m_int := PySem.W.mg_none_of X G z_int,
    m_bool := PySem.W.mg_none_of X G z_bool,
    m_all := PySem.W.mg_none_of X G z_all,
    m_tuple := PySem.W.mg_none_of X G z_tuple,
    m_len := PySem.W.mg_none_of X G z_len,
    m_str := PySem.W.mg_none_of X G z_str,
    m_range := PySem.W.mg_none_of X G z_range,
    m_enumerate := PySem.W.mg_none_of X G z_enumerate,
    m_abs := PySem.W.mg_none_of X G z_abs,
    m_divmod := PySem.W.mg_none_of X G z_divmod,
    m_ValueError := PySem.W.mg_none_of X G z_ValueError,
    m_list := PySem.W.mg_none_of X G z_list,
    m_max := PySem.W.mg_none_of X G z_max,
    m_min := PySem.W.mg_none_of X G z_min,
    m_repr := PySem.W.mg_none_of X G z_repr,
    t_MOST_KINDS := t_MOST_KINDS, c_MOST_KINDS := PySem.W.mg_of X G y_MOST_KINDS,
    t_MOST_SHARE := t_MOST_SHARE, c_MOST_SHARE := PySem.W.mg_of X G y_MOST_SHARE,
    a_GatherError := C_GatherError, g_GatherError := PySem.W.mg_of X G y_GatherError,
    a_NoShares := C_NoShares, g_NoShares := PySem.W.mg_of X G y_NoShares,
    a_NoKind := C_NoKind, g_NoKind := PySem.W.mg_of X G y_NoKind,
    a_NoNumber := C_NoNumber, g_NoNumber := PySem.W.mg_of X G y_NoNumber,
    a_NoNeeds := C_NoNeeds, g_NoNeeds := PySem.W.mg_of X G y_NoNeeds,
    a_TooMany := C_TooMany, g_TooMany := PySem.W.mg_of X G y_TooMany,
    a_NoText := C_NoText, g_NoText := PySem.W.mg_of X G y_NoText,
    f_NoText := fI_NoText, cc_NoText := cc_NoText, cda_NoText := cda_NoText, t_NoText := t_NoText, j_NoText := j_NoText, p_NoText := p_NoText, q_NoText := q_NoText, p0_NoText := p0_NoText, p1_NoText := p1_NoText, p2_NoText := p2_NoText, p3_NoText := p3_NoText, p4_NoText := p4_NoText, p5_NoText := p5_NoText, p6_NoText := p6_NoText, p7_NoText := p7_NoText, p8_NoText := p8_NoText, p9_NoText := p9_NoText, fd_NoText := _, n_NoText := (KV.nf_mk (P := l.prog) (PySem.W.mg_of X G y_NoText) xL_NoText sa_NoText eC_NoText tC_NoText kC_NoText no_NoText lf_NoText cf_NoText lc_NoText ld_NoText hv_NoText hfi_NoText sb_NoText ns_NoText top_NoText opq_NoText sup_NoText isV_NoText ini_NoText mc_NoText iC_NoText tI_NoText),
    xf_NoText := ⟨ga_NoText, gg_NoText, eC_NoText, hdC_NoText⟩,
    hD_NoText := KV.exhd_mk6 (n := 5) i_NoText ga_NoText gg_NoText eC_NoText fc_NoText spG tkG mr_NoText kg_NoText kv_NoText k0_NoText k1_NoText k2_NoText k3_NoText k4_NoText k5_NoText ex_NoText }, rfl, rfl⟩
  obtain ⟨T, e1, e2⟩ := T
  have e := hfa.symm.trans (PySem.W.mg_of X G a19)
  cases e
  have ok : ∀ base : Heap, KG.FnG l.prog w K mg base 6 T.a_law T.d_law ["_law_script"] (sp_law K) := fun base => KV.FnG.weak (ok_law T) (sp_law_of pure_law)
  rw [e1, e2] at ok
  exact ⟨_, fun s v => .of_eq rfl, fun base _ _ => ok base⟩
end KGX
open PySem PySem.W PyProof.Rows
set_option maxRecDepth 100000 in
set_option maxHeartbeats 0 in
theorem PySem.Challenge.cw_kindsgathered_k04_shares_written_holds : PySem.Challenge.rw_kindsgathered_k04_shares_written.Holds := by
  w_on; o_law; k_head; (case hw => w_witness2)
  k_fill
  refine KG.walkG (l := PySem.Challenge.rw_kindsgathered_k04_shares_written) (n := 63) (k := 6) (x := "_law_script") (sp := KGX.sp_law) rfl (by decide) rfl ⟨rfl, by decide, by decide⟩ (fun w h Y => PySem.W.kIn_of Y) ?F KGX.start_law
  case F =>
    intro w mg fa h KX G hmg
    refine' KGX.all_mk KX G hmg ?a0 ?l0 ?c0 ?k0 ?a1 ?l1 ?c1 ?k1 ?a2 ?l2 ?c2 ?k2 ?a3 ?l3 ?c3 ?k3 ?a4 ?l4 ?c4 ?k4 ?a5 ?l5 ?c5 ?k5 ?a6 ?l6 ?c6 ?k6 ?a7 ?l7 ?c7 ?k7 ?a8 ?l8 ?c8 ?k8 ?a9 ?l9 ?c9 ?k9 ?a10 ?l10 ?c10 ?k10 ?a11 ?l11 ?c11 ?k11 ?a12 ?l12 ?c12 ?k12 ?a13 ?l13 ?c13 ?k13 ?a14 ?l14 ?c14 ?k14 ?a15 ?l15 ?c15 ?k15 ?a16 ?l16 ?c16 ?k16 ?a17 ?l17 ?c17 ?k17 ?a18 ?l18 ?c18 ?k18 ?a19 ?l19 ?c19 ?k19 ?z_isinstance ?z_int ?z_bool ?z_all ?z_tuple ?z_len ?z_str ?z_range ?z_enumerate ?z_abs ?z_divmod ?z_ValueError ?z_list ?z_max ?z_min ?z_repr ?y_MOST_KINDS ?y_MOST_SHARE ?y_GatherError ?y_NoShares ?y_NoKind ?y_NoNumber ?y_NoNeeds ?y_TooMany ?y_NoText ?spG ?tkG ?xL_NoText ?iC_NoText ?lf_NoText ?cf_NoText ?lc_NoText ?ld_NoText ?hv_NoText ?hfi_NoText ?top_NoText ?sa_NoText ?ga_NoText ?gg_NoText ?eC_NoText ?tC_NoText ?kC_NoText ?no_NoText ?hdC_NoText ?sb_NoText ?ns_NoText ?opq_NoText ?sup_NoText ?isV_NoText ?ini_NoText ?mc_NoText ?tI_NoText ?i_NoText ?fc_NoText ?mr_NoText ?kg_NoText ?kv_NoText ?k0_NoText ?k1_NoText ?k2_NoText ?k3_NoText ?k4_NoText ?k5_NoText ?ex_NoText
    (case a0 => k_is)
    (case l0 => k_is)
    (case c0 => k_is)
    (case k0 => k_is)
    (case a1 => k_is)
    (case l1 => k_is)
    (case c1 => k_is)
    (case k1 => k_is)
    (case a2 => k_is)
    (case l2 => k_is)
    (case c2 => k_is)
    (case k2 => k_is)
    (case a3 => k_is)
    (case l3 => k_is)
    (case c3 => k_is)
    (case k3 => k_is)
    (case a4 => k_is)
    (case l4 => k_is)
    (case c4 => k_is)
    (case k4 => k_is)
    (case a5 => k_is)
    (case l5 => k_is)
    (case c5 => k_is)
    (case k5 => k_is)
    (case a6 => k_is)
    (case l6 => k_is)
    (case c6 => k_is)
    (case k6 => k_is)
    (case a7 => k_is)
    (case l7 => k_is)
    (case c7 => k_is)
    (case k7 => k_is)
    (case a8 => k_is)
    (case l8 => k_is)
    (case c8 => k_is)
    (case k8 => k_is)
    (case a9 => k_is)
    (case l9 => k_is)
    (case c9 => k_is)
    (case k9 => k_is)
    (case a10 => k_is)
    (case l10 => k_is)
    (case c10 => k_is)
    (case k10 => k_is)
    (case a11 => k_is)
    (case l11 => k_is)
    (case c11 => k_is)
    (case k11 => k_is)
    (case a12 => k_is)
    (case l12 => k_is)
    (case c12 => k_is)
    (case k12 => k_is)
    (case a13 => k_is)
    (case l13 => k_is)
    (case c13 => k_is)
    (case k13 => k_is)
    (case a14 => k_is)
    (case l14 => k_is)
    (case c14 => k_is)
    (case k14 => k_is)
    (case a15 => k_is)
    (case l15 => k_is)
    (case c15 => k_is)
    (case k15 => k_is)
    (case a16 => k_is)
    (case l16 => k_is)
    (case c16 => k_is)
    (case k16 => k_is)
    (case a17 => k_is)
    (case l17 => k_is)
    (case c17 => k_is)
    (case k17 => k_is)
    (case a18 => k_is)
    (case l18 => k_is)
    (case c18 => k_is)
    (case k18 => k_is)
    (case a19 => k_is)
    (case l19 => k_is)
    (case c19 => k_is)
    (case k19 => k_is)
    (case z_isinstance => k_is)
    (case z_int => k_is)
    (case z_bool => k_is)
    (case z_all => k_is)
    (case z_tuple => k_is)
    (case z_len => k_is)
    (case z_str => k_is)
    (case z_range => k_is)
    (case z_enumerate => k_is)
    (case z_abs => k_is)
    (case z_divmod => k_is)
    (case z_ValueError => k_is)
    (case z_list => k_is)
    (case z_max => k_is)
    (case z_min => k_is)
    (case z_repr => k_is)
    (case y_MOST_KINDS => k_is)
    (case y_MOST_SHARE => k_is)
    (case y_GatherError => k_is)
    (case y_NoShares => k_is)
    (case y_NoKind => k_is)
    (case y_NoNumber => k_is)
    (case y_NoNeeds => k_is)
    (case y_TooMany => k_is)
    (case y_NoText => k_is)
    (case spG => k_is)
    (case tkG => k_is)
    (case xL_NoText => k_is)
    (case iC_NoText => k_is)
    (case lf_NoText => k_is)
    (case cf_NoText => k_is)
    (case lc_NoText => k_is)
    (case ld_NoText => k_is)
    (case hv_NoText => rfl)
    (case hfi_NoText => first | rfl | decide +kernel)
    (case top_NoText => first | rfl | decide +kernel)
    (case sa_NoText => k_is)
    (case ga_NoText => k_is)
    (case gg_NoText => k_is)
    (case eC_NoText => k_is)
    (case tC_NoText => k_is)
    (case kC_NoText => k_is)
    (case no_NoText => k_is)
    (case hdC_NoText => k_is)
    (case sb_NoText => k_is)
    (case ns_NoText => k_is)
    (case opq_NoText => k_is)
    (case sup_NoText => ks_is)
    (case isV_NoText => k_is)
    (case ini_NoText => kx_is)
    (case mc_NoText => exact ⟨_, fun env => rfl⟩)
    (case tI_NoText => k_is)
    (case i_NoText => k_is)
    (case fc_NoText => k_is)
    (case mr_NoText => k_is)
    (case kg_NoText => kit_is)
    (case kv_NoText => kit_is)
    (case k0_NoText => kit_is)
    (case k1_NoText => kit_is)
    (case k2_NoText => kit_is)
    (case k3_NoText => kit_is)
    (case k4_NoText => kit_is)
    (case k5_NoText => kit_is)
    (case ex_NoText => kts_exm)
