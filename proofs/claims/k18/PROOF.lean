import PyProof.Rows.All
import Wide.All
import OpenK.AllK
import Wide.FinOn
import HandS.ForMost
import HandS.EndBits
import HandS.Wide
import KE.KDictKeyed
import HandS.Walk
import HandS.IsInst
import KE.SortData
import HandS.Style
import HandS.TupLen
import HandS.DictComp
import KE.KDictSum
import KE.KDictCopyH
import HandS.ExcValue
import KE.KDictItemsList
import HandS.DictTup
import HandS.Codes
import KE.KExcIs
import HandS.ForExc
import HandS.ExcField
import HandS.ExcIs
import HandS.WordsExc
import PyProof.Ascii
import HandS.Flow
import HandS.ExcInit
import KE.KEqDict
import HandS.Star
import PyProof.LongRange
import PySem.Challenge.RW_hookcarts_k18_whole_about_twice
set_option Elab.async false
set_option linter.all false
set_option maxRecDepth 100000
set_option maxHeartbeats 4000000
namespace HK
open PySem PySem.Spec PyProof.Rows L2
/-! ### promises of defs that are called where no repr runs (they may call repr themselves) -/
/-- nothing is being shown around -/
abbrev Quiet (A : Around) : Prop := A.guards = some []
theorem quiet_deeper {A : Around} {env : Env} (h : Quiet A) : Quiet (A.deeper env) := by
  first
    | exact h
    | (unfold Quiet at *; simp [Around.deeper, h])
structure FnG (P : Program) (w : World) (K : PySem.W.Frag) (mg : Str → Option Value) (base : Heap) (CX : CXT) (k : Nat) (f : Addr) (fd : FuncData) (ps : List Str) (sp : Sp) : Prop where
  len : ∀ vs H Q E, sp vs H Q E → vs.length = ps.length
  go : ∀ (A : Around) (outer : List Env) (s : Shared) (H : Hp) (args : Args) (us : List Value) (vs : List V) (Q : VK) (E : XK), Quiet A → Room k A → Env0 P w K mg base A outer s H →
    BindsTo s fd args (ps.zip us) → Vals vs us → sp vs H Q E → codeAny (model P w) A (.call (.ref f) args) (CR CX outer P w H s Q E) s
section
variable {P : Program} {w : World} {K : PySem.W.Frag} {mg : Str → Option Value} {base : Heap} {CX : CXT} {k : Nat}
theorem FnG.of {f : Addr} {fd : FuncData} {ps : List Str} {sp : Sp} (F : FnOk P w K mg base CX k f fd ps sp) : FnG P w K mg base CX k f fd ps sp :=
  ⟨F.len, fun A outer s H args us vs Q E _ => F.run A outer s H args us vs Q E⟩
/-- a def of the text whose body may show things -/
theorem fnG {x qual : Str} {st : Stmt} {f : Addr} {fd : FuncData} {N ps : List Str} {sp : Sp} (F : Fun K x qual st f fd) (S : FnScope N ps (defScope st)) (len : ∀ vs H Q E, sp vs H Q E → vs.length = ps.length)
    (hbody : ∀ (cdv : Value) (A : Around) (outer : List Env) (s : Shared) (H : Hp) (vs : List V) (Q : VK) (E : XK), Quiet (A.deeper (envOfC qual (defScope st) s.heap.objs.size f cdv)) → Room k (A.deeper (envOfC qual (defScope st) s.heap.objs.size f cdv)) →
      sp vs H Q E → ∃ t, PSs (cxOf CX P w K mg base N qual (defScope st) f cdv A outer s H E).nox (defBody st) t ∧ t { nx := fun _ H' => Q .non H', rt := Q } (start N vs) H) :
    FnG P w K mg base CX (k + 1) f fd ps sp := by
  obtain ⟨oc, od, kV, doc, pm, an, cdv, ct, osl, rfl, lk, hcd⟩ := F.ex
  refine ⟨len, fun A outer s H args us vs Q E hq hr e0 hb r hs => ?_⟩
  have KX : K.In s.heap := e0.mod.kin.keeps fun _ _ e => (e0.bs _ _ e).1
  have hkind : ∀ y ∈ ps.zip us, (defScope st).names.lookup y.1 = some .local ∨
      ((defScope st).names.lookup y.1 = some .cell ∧ ((cellsFrom (s.heap.objs.size + 1) (defScope st).names []).lookup y.1).isSome = true) := by
    rintro ⟨n, v⟩ hy
    exact (S.par n (List.of_mem_zip hy).1).imp id fun q => ⟨q, PySem.W.cellsFrom_some _ _ _ (.inl q)⟩
  refine codeAny_call_function hr.depth (KX _ _ lk) rfl S.co S.gen rfl (PySem.W.codeRec_of KX hcd) (hb _ _ _ _ (wpAny_newFunctionEnv_cells S.kind hkind ?_))
  rintro env rfl s1 x
  have lim : s.heap.NoLimit := e0.mod.nolimit.keeps fun _ _ e => (e0.bs _ _ e).1
  obtain ⟨t, ht, q⟩ := hbody cdv A outer s H vs Q E (quiet_deeper hq) (hr.deeper _) hs
  have I := inv_start (CX := CX) (E := E) (cd := cdv) (f := f) (qual := qual) S hr.hd e0 (len _ _ _ _ hs) r x
  refine ⟨lim.keeps x.toInCall.keep, codeAny_func (wpAny_mono (ht.nox.run [] s1 (start N vs) H _ I q) (fun fl s' h => ?_) fun _ _ z => z)⟩
  cases fl with
  | ret u => exact let ⟨v, _, H', J, rv, q⟩ := h; ⟨v, H', J.os, J.bare, J.base, J.hok, rv, q⟩
  | next => exact let ⟨_, H', J, q⟩ := h; ⟨V.non, H', J.os, J.bare, J.base, J.hok, (rfl : Value.none = Value.none), q⟩
  | brk => exact let ⟨_, _, _, q⟩ := h; q.elim
  | cont => exact let ⟨_, _, _, q⟩ := h; q.elim
end
section
variable {X : Cx} {CX : CXT} {k : Nat} {f : Addr} {fd : FuncData} {ps : List Str} {sp : Sp} {E : XK} {x : Str} {p pos : Pos} {e : Expr} {es : List Expr} {t : TA}
/-- f(a, ..) of such a def, without defaults -/
theorem pe_callG (F : FnG X.prog X.w X.K X.mg X.base CX k f fd ps sp) (hq : Quiet X.A) (hr : Room k X.A) (hg : Gl X x) (hm : X.mg x = some (.ref f)) (hk : PySem.W.keepIn X.K (.ref f) = true) (hb : Binds X.K fd ps []) (hx : Passes CX X E) (ha : PA X (e :: es) t)
    (hdb : (x == ("__debug__" : Str)) = false := by decide) (he : starEach (e :: es) X.env = (false, eval e X.env) :: starEach es X.env := by rfl) (hpl : (backTo pos (starEach es X.env)).any (·.1) = false := by rfl) :
    PE X (.Call (.Name x p) (e :: es) [] pos) (tCall sp [] E t) := by
  refine ⟨fun pins s σ H Q I h => wpAny_Call_Name_kw (ld_glob I hg hm (PySem.W.callWith_K (h₀ := X.base) I.ok.mod.kin hk (thn (ha.run pos pins s σ H _ I h) fun us s1 z => ?_) he hpl) hdb)⟩
  obtain ⟨vs, H1, I1, r, q⟩ := z
  refine ⟨I1.kIn, wpAny_call (codeAny_mono (F.go X.A X.stack s1 H1 ⟨us, []⟩ us vs Q E hq hr I1.env0 ?_ r ?_) fun res s' h => ?_)⟩
  · have hl : (us ++ ([] : List Value)).length = ps.length := by
      rw [List.append_nil, ← r.length]
      exact F.len vs H1 Q E (by simpa using q)
    simpa using hb s1 us I1.kIn hl
  · simpa using q
  · match res, h with
    | .error _, h => exact hx pins σ H1 s1 _ s' I1 h
    | .ok (.ret _), h => exact I1.after h
    | .ok .next, h => exact False.elim h
    | .ok .brk, h => exact False.elim h
    | .ok .cont, h => exact False.elim h
end

/-! ### the end of a law whose def is called quietly -/
section
variable {P : Program} {w : World} {K : PySem.W.Frag} {mg mb : Str → Option Value} {k : Nat} {fa a : Addr} {fd : FuncData} {x : Str} {sp : Sp} {s₁ : Shared} {vs : List Value} {ns : List Int}
/-- what is told of the call's end -/
abbrev Ended (s₁ : Shared) (r : Result) (s' : Shared) : Prop := r = .ok (.ret (.bool true)) ∧ OldK s₁.heap s'.heap ∧ s'.os = s₁.os ∧ AllBare s'.gens
theorem core_end (KX : K.In s₁.heap) (hns : s₁.heap.Ns mainGlobals mg) (hb : s₁.heap.Ns builtinsNs mb) (hbb : ∀ y : Str, y ≠ "__name__" → mb y = bootBuiltins y) (hlim : s₁.heap.NoLimit) (hg : s₁.gens = #[])
    (ha : s₁.heap.get? a = some { cls := .type "list", data := .seq vs.toArray }) (hr : Room k callerA)
    (F : ∀ base : Heap, K.In base → base.Ns mainGlobals mg → FnG P w K mg base CX0 k fa fd [x] sp) (hbind : ∀ (s : Shared) (u : Value), BindsTo s fd ⟨[u], []⟩ [(x, u)])
    (H : Hp) (hO : Only H) (hS : sp [.ref a] H (fun v _ => v = .bl true) fun _ _ _ => False) (hok : HOk P w H s₁.heap) (hA : ∀ b u, H b = some u → b = a ∧ K.lookup a = none) :
    codeAny (model P w) callerA (.call (.ref fa) ⟨[.ref a], []⟩) (Ended s₁) s₁ := by
  have none_of : ∀ {b : Addr} {o : Obj}, s₁.heap.get? b = some o → (b = a → K.lookup a = none → False) → H b = none := fun {b o} _ n => by
    cases q : H b with
    | none => rfl
    | some u => exact (n (hA b u q).1 (hA b u q).2).elim
  have nsK : ∀ {b : Addr} {m : Str → Option Value}, s₁.heap.Ns b m → (hidT s₁.heap H).Ns b m := by
    rintro b m ⟨o, es, ep, e, d, r⟩
    refine ⟨o, es, ep, hidT_get e (none_of e fun z _ => ?_), d, r⟩
    subst z
    rw [ha] at e
    cases e
    cases (d : Data.seq vs.toArray _ = Data.dict es ep)
  have hKb : K.In (hidT s₁.heap H) := fun b o e => hidT_get (KX b o e) (none_of (KX b o e) fun z n => by
    subst z
    rw [n] at e
    cases e)
  have hM : Mod K mg (hidT s₁.heap H) := ⟨hKb, nsK hns, ⟨mb, nsK hb, hbb⟩, hlim.elim fun mc z => ⟨mc, nsK z.1, z.2⟩⟩
  have e0 : Env0 P w K mg (hidT s₁.heap H) callerA [] s₁ H := ⟨rfl, hM, fun _ _ e => of_hidT e, Nat.le_of_eq (hidT_size _ _), trivial, fun b hb => absurd hb (by show b ∉ ([] : List Addr); simp), hok, .of_eq hg⟩
  refine codeAny_mono ((F _ hKb (nsK hns)).go callerA [] s₁ H ⟨[.ref a], []⟩ [.ref a] [.ref a] _ _ rfl hr e0 (hbind s₁ (.ref a)) (.cons rfl .nil) hS) fun r s' h => ?_
  match r, h with
  | .error _, h => exact h.elim
  | .ok .next, h => exact False.elim h
  | .ok .brk, h => exact False.elim h
  | .ok .cont, h => exact False.elim h
  | .ok (.ret u), h =>
    obtain ⟨v, H', os, bare, un, hok', r', q⟩ := h
    obtain rfl : v = .bl true := q
    obtain rfl : u = Value.bool true := r'
    refine ⟨rfl, OldK.of_keep fun b o e => ?_, os, bare⟩
    rcases hO b with z | ⟨ob, xs, z⟩
    · exact un.keep b o e z (by show b ∉ ([] : List Addr); simp) (by simp)
    · have e1 := (hok b _ z).1
      have e2 := (hok' b _ (un.frzs b ob _ z)).1
      rw [e] at e1
      cases e1
      exact e2
theorem law_end (KX : K.In s₁.heap) (hns : s₁.heap.Ns mainGlobals mg) (hb : s₁.heap.Ns builtinsNs mb) (hbb : ∀ y : Str, y ≠ "__name__" → mb y = bootBuiltins y) (hlim : s₁.heap.NoLimit) (hg : s₁.gens = #[])
    (ha : s₁.heap.get? a = some { cls := .type "list", data := .seq vs.toArray }) (hi : IntsAre vs ns) (hl : ns.length ≤ sizeLine) (hr : Room k callerA)
    (F : ∀ base : Heap, K.In base → base.Ns mainGlobals mg → FnG P w K mg base CX0 k fa fd [x] sp) (hbind : ∀ (s : Shared) (u : Value), BindsTo s fd ⟨[u], []⟩ [(x, u)])
    (hsp : ∀ H : Hp, Only H → SqL K H a (ns.map V.int) → sp [.ref a] H (fun v _ => v = .bl true) fun _ _ _ => False) :
    codeAny (model P w) callerA (.call (.ref fa) ⟨[.ref a], []⟩) (Ended s₁) s₁ := by
  have rv := vals_ints hi
  cases hk : K.lookup a with
  | some o =>
    have e := (KX a o hk).symm.trans ha
    cases e
    exact core_end KX hns hb hbb hlim hg ha hr F hbind (fun _ => none) (fun _ => .inl rfl)
      (hsp _ (fun _ => .inl rfl) (.inr ⟨_, vs.toArray, _, hk, rfl, rfl, rfl, by rw [List.size_toArray, hi.length]; exact hl, by simpa using rv⟩)) (fun b u z => nomatch z) fun b u z => nomatch z
  | none =>
    let H0 : Hp := fun b => if b = a then some (.frz { cls := .type "list", data := .seq vs.toArray } (.lst (ns.map V.int))) else none
    have at_ : ∀ b, b = a → H0 b = some (.frz { cls := .type "list", data := .seq vs.toArray } (.lst (ns.map V.int))) := fun b z => if_pos z
    have off : ∀ b, b ≠ a → H0 b = none := fun b z => if_neg z
    have hO : Only H0 := fun b => (Classical.em (b = a)).elim (fun z => .inr ⟨_, _, at_ b z⟩) fun z => .inl (off b z)
    refine core_end KX hns hb hbb hlim hg ha hr F hbind H0 hO (hsp H0 hO (.inl (.inr ⟨_, at_ a rfl⟩))) (fun b u z => ?_) fun b u z => ⟨?_, hk⟩
    · by_cases hb : b = a
      · rw [at_ b hb] at z
        cases z
        subst hb
        exact ⟨ha, by rw [List.length_map]; exact hl, vs, _, rv, ha⟩
      · rw [off b hb] at z
        cases z
    · by_cases hb : b = a
      · exact hb
      · rw [off b hb] at z
        cases z
end
/-- the goal that k_head leaves, from the quiet promise of the law's def; the script's bits told -/
theorem walkG {l : PySem.W.OpenLaw} {n k : Nat} {q : Program} {loose : List Str} {XP : (Str → Option Value) → Heap → Prop} {YP : World → Heap → Prop} {d : DefRec} {K : Params → PySem.W.Frag} {sp : PySem.W.Frag → Sp} {x : Str}
    (hn : l.most = some n) (hn2 : n ≤ sizeLine) (hdf : d.params.defaults = []) (hr : Room k callerA) (hY : ∀ (w : World) (h : Heap), YP w h → (K w.params).In h)
    (F : ∀ (w : World) (mg : Str → Option Value) (fa : Addr) (h : Heap), (K w.params).In h → h.Ns mainGlobals mg → mg d.name = some (.ref fa) → ∃ fd : FuncData, (∀ (s : Shared) (u : Value), BindsTo s fd ⟨[u], []⟩ [(x, u)]) ∧
      ∀ base : Heap, (K w.params).In base → base.Ns mainGlobals mg → FnG l.prog w (K w.params) mg base CX0 k fa fd [x] (sp (K w.params)))
    (hsp : ∀ (K : PySem.W.Frag) (H : Hp) (a : Addr) (ns : List Int), ns.length ≤ n → (∀ z ∈ ns, Builtin.Int.intBits z ≤ 1048576) → Only H → SqL K H a (ns.map V.int) → sp K [.ref a] H (fun v _ => v = .bl true) fun _ _ _ => False) :
    PySem.W.WalkO q loose XP YP l.row.toRowW d [] (fun f vs => PySem.call f vs) := by
  refine Att.attach_callB hn hdf fun w s₀ s₁ mg mb fa o pm cd doc a vs ns G Y ho hd hcd hmg hobj hints hlen hbits hg => ?_
  obtain ⟨fd, hb, hF⟩ := F w mg fa _ (hY w _ Y) G.T.g hmg
  exact law_end (hY w _ Y) G.T.g G.T.b G.T.builtins G.T.nolimit hg hobj hints (Nat.le_trans hlen hn2) hr hF hb fun H hO hS => hsp _ H a ns hlen hbits hO hS
end HK

namespace HK
open PySem PySem.Spec PyProof.Rows L2
/-! ### max, min of two texts -/
theorem cmp_str_gt {prog : Program} {w : World} {A : Around} {P : Nat → Value → Prop} (val : Nat → Str) (hv : ∀ i v, P i v → ∃ t, v = .str (val i) t) : CmpOf prog w A .Gt P (fun i j => decide ((val j).cps.toList < (val i).cps.toList)) := by
  intro i j vi vj s Q E hi hj h
  obtain ⟨t, rfl⟩ := hv i vi hi
  obtain ⟨u, rfl⟩ := hv j vj hj
  exact richCompare_gives (op := .Gt) (typeIs_str s _ t) (typeIs_str s _ u) F.slot_str_gt F.entry_str_gt (F.args_str_gt_2 _ _) (gives_str_gt _ _ t u) (fun z => nomatch z) h
theorem cmp_str_lt {prog : Program} {w : World} {A : Around} {P : Nat → Value → Prop} (val : Nat → Str) (hv : ∀ i v, P i v → ∃ t, v = .str (val i) t) : CmpOf prog w A .Lt P (fun i j => decide ((val i).cps.toList < (val j).cps.toList)) := by
  intro i j vi vj s Q E hi hj h
  obtain ⟨t, rfl⟩ := hv i vi hi
  obtain ⟨u, rfl⟩ := hv j vj hj
  exact richCompare_gives (op := .Lt) (typeIs_str s _ t) (typeIs_str s _ u) F.slot_str_lt F.entry_str_lt (F.args_str_lt_2 _ _) (gives_str_lt _ _ t u) (fun z => nomatch z) h
def pairAt (a b : Str) (i : Nat) : Str := if i = 0 then a else b
theorem pair_at {a b : Str} {t u : Tok} : ∀ (i : Nat) (v : Value), #[Value.str a t, Value.str b u][i]? = some v → ∃ t', v = .str (pairAt a b i) t'
  | 0, v, h => ⟨t, by simpa [pairAt, eq_comm] using h⟩
  | 1, v, h => ⟨u, by simpa [pairAt, eq_comm] using h⟩
  | n + 2, v, h => by simp at h
section
variable {prog : Program} {w : World} {A : Around} {E : Value → Shared → Prop} {s : Shared} {a b : Str} {t u : Tok} {Q : Value → Shared → Prop}
theorem pair_best {x : Value} (bt : Nat → Nat → Bool) (h : #[Value.str a t, Value.str b u][argBest bt (2 - 1)]? = some x) : x = if bt 1 0 = true then Value.str b u else Value.str a t := by
  by_cases g : bt 1 0 = true
  · rw [if_pos g]
    have e : argBest bt (2 - 1) = 1 := by simp [argBest, g]
    rw [e] at h
    simpa [eq_comm] using h
  · rw [if_neg g]
    have e : argBest bt (2 - 1) = 0 := by simp [argBest, g]
    rw [e] at h
    simpa [eq_comm] using h
theorem strs_max (hh : A.handled = none) (h : ∀ h' tk, (∀ c o, s.heap.get? c = some o → h'.get? c = some o) → Q (if decide (a.cps.toList < b.cps.toList) = true then .str b u else .str a t) { s with heap := h', toks := tk }) :
    wpAny (model prog w) A (call (.builtin "max") [.str a t, .str b u]) Q E s := by
  have hT : (s.heap.push { cls := .type "tuple", data := .seq #[.str a t, .str b u] }).IsTuple s.heap.objs.size #[.str a t, .str b u] := ⟨_, Heap.get?_push_size _ rfl, rfl, 0, rfl⟩
  have z1 : (s.heap.push { cls := .type "tuple", data := .seq #[Value.str a t, .str b u] }).objs.size = s.heap.objs.size + 1 := Heap.size_push ..
  refine call_max_two (wpAny_pyIter_tuple hT ?_)
  refine ⟨_, [_, s.heap.objs.size], [_], 2, _, _, _, rfl, Walks.tuple (A := A.in1) hh _ s.heap.objs.size (by rw [z1]; exact Nat.ne_of_lt (Nat.lt_succ_self _)) #[.str a t, .str b u], ⟨⟨_, Heap.get?_push_size _ rfl, rfl, rfl⟩, hT.push _⟩, fun c hc => ?_, by decide, cmp_str_gt (pairAt a b) pair_at, fun v h' tk hP hk => ?_⟩
  · show c < ((s.heap.push _).push _).objs.size
    rw [Heap.size_push, z1]
    rcases List.mem_cons.mp hc with rfl | hc
    · rw [z1]; exact Nat.lt_succ_self _
    · rw [List.mem_singleton.mp hc]; exact Nat.lt_succ_of_lt (Nat.lt_succ_self _)
  · rw [pair_best _ hP]
    refine h h' tk fun c o e => hk c o (fun hm => ?_) (Heap.get?_push_of_some _ (Heap.get?_push_of_some _ e))
    have z := Heap.lt_size e
    rw [List.mem_singleton.mp hm, z1] at z
    exact Nat.lt_irrefl _ (Nat.lt_of_succ_lt z)
theorem strs_min (hh : A.handled = none) (h : ∀ h' tk, (∀ c o, s.heap.get? c = some o → h'.get? c = some o) → Q (if decide (b.cps.toList < a.cps.toList) = true then .str b u else .str a t) { s with heap := h', toks := tk }) :
    wpAny (model prog w) A (call (.builtin "min") [.str a t, .str b u]) Q E s := by
  have hT : (s.heap.push { cls := .type "tuple", data := .seq #[.str a t, .str b u] }).IsTuple s.heap.objs.size #[.str a t, .str b u] := ⟨_, Heap.get?_push_size _ rfl, rfl, 0, rfl⟩
  have z1 : (s.heap.push { cls := .type "tuple", data := .seq #[Value.str a t, .str b u] }).objs.size = s.heap.objs.size + 1 := Heap.size_push ..
  refine call_min_two (wpAny_pyIter_tuple hT ?_)
  refine ⟨_, [_, s.heap.objs.size], [_], 2, _, _, _, rfl, Walks.tuple (A := A.in1) hh _ s.heap.objs.size (by rw [z1]; exact Nat.ne_of_lt (Nat.lt_succ_self _)) #[.str a t, .str b u], ⟨⟨_, Heap.get?_push_size _ rfl, rfl, rfl⟩, hT.push _⟩, fun c hc => ?_, by decide, cmp_str_lt (pairAt a b) pair_at, fun v h' tk hP hk => ?_⟩
  · show c < ((s.heap.push _).push _).objs.size
    rw [Heap.size_push, z1]
    rcases List.mem_cons.mp hc with rfl | hc
    · rw [z1]; exact Nat.lt_succ_self _
    · rw [List.mem_singleton.mp hc]; exact Nat.lt_succ_of_lt (Nat.lt_succ_self _)
  · rw [pair_best _ hP]
    refine h h' tk fun c o e => hk c o (fun hm => ?_) (Heap.get?_push_of_some _ (Heap.get?_push_of_some _ e))
    have z := Heap.lt_size e
    rw [List.mem_singleton.mp hm, z1] at z
    exact Nat.lt_irrefl _ (Nat.lt_of_succ_lt z)
end
def maxS (a b : Str) : Str := if a.cps.toList < b.cps.toList then b else a
def minS (a b : Str) : Str := if b.cps.toList < a.cps.toList then b else a
section
variable {X : Cx}
theorem call_maxS (hc : X.calm = true) : CallR X (.builtin "max") (fun xs H Q => ∃ a b, xs = [.str a, .str b] ∧ Q (.str (maxS a b)) H) := by
  intro pins s σ H xs us Q I r h
  obtain ⟨a, b, rfl, q⟩ := h
  obtain ⟨u, v, rfl, ⟨t, rfl⟩, ⟨t', rfl⟩⟩ := vals2 r
  refine strs_max (I.ok.hd hc) fun h' tk k => ⟨_, H, I.kept k, ?_, q⟩
  unfold maxS
  by_cases g : a.cps.toList < b.cps.toList
  · rw [if_pos (decide_eq_true g), if_pos g]; exact ⟨_, rfl⟩
  · rw [decide_eq_false g, if_neg Bool.false_ne_true, if_neg g]; exact ⟨_, rfl⟩
theorem call_minS (hc : X.calm = true) : CallR X (.builtin "min") (fun xs H Q => ∃ a b, xs = [.str a, .str b] ∧ Q (.str (minS a b)) H) := by
  intro pins s σ H xs us Q I r h
  obtain ⟨a, b, rfl, q⟩ := h
  obtain ⟨u, v, rfl, ⟨t, rfl⟩, ⟨t', rfl⟩⟩ := vals2 r
  refine strs_min (I.ok.hd hc) fun h' tk k => ⟨_, H, I.kept k, ?_, q⟩
  unfold minS
  by_cases g : b.cps.toList < a.cps.toList
  · rw [if_pos (decide_eq_true g), if_pos g]; exact ⟨_, rfl⟩
  · rw [decide_eq_false g, if_neg Bool.false_ne_true, if_neg g]; exact ⟨_, rfl⟩
/-! ### orders of texts -/
theorem op_gtS : OpR X (compareOp .Gt) (fun x y H Q => ∃ i j, x = .str i ∧ y = .str j ∧ Q (.bl (decide (j.cps.toList < i.cps.toList))) H) := by
  intro pins s σ H x y v u Q I rx ry h
  obtain ⟨i, j, rfl, rfl, q⟩ := h
  obtain ⟨t, rfl⟩ := rx
  obtain ⟨t', rfl⟩ := ry
  exact compareOp_gives (op := .Gt) (typeIs_str s i t) (typeIs_str s j t') F.slot_str_gt F.entry_str_gt (F.args_str_gt_2 _ _) (gives_str_gt i j t t') (fun e => nomatch e) ⟨.bl _, H, I, rfl, q⟩
/-! ### repr of data -/
/-- data whose text has room -/
def Tells (d : PyData) : Prop := d.showable = true ∧ d.hasDict = false ∧ d.shown.length ≤ sizeLine ∧ d.depth ≤ 60
theorem call_reprD (hq : Quiet X.A) (hu : X.A.units + 64 < cLine) : CallR X (.builtin "repr") (fun xs H Q => ∃ x d, xs = [x] ∧ Dp X.K H x d ∧ Tells d ∧ Q (.str d.shown) H) := by
  intro pins s σ H xs us Q I r h
  obtain ⟨x, d, rfl, hd, ⟨t1, t2, t3, t4⟩, q⟩ := h
  obtain ⟨u, rfl, ru⟩ := vals1 r
  obtain ⟨as, rd⟩ := Dp.reads I d x u hd ru
  cases hd with
  | non =>
    obtain rfl : u = Value.none := ru
    exact PySem.P.repr_of_none ⟨.str "None", H, I.tok _, ⟨_, rfl⟩, q⟩
  | bl b =>
    obtain rfl : u = Value.bool b := ru
    refine PySem.P.repr_of_bool ⟨.str (if b then "True" else "False"), H, I.tok _, ⟨_, rfl⟩, ?_⟩
    simpa only [PyData.shown] using q
  | int i =>
    obtain ⟨t, rfl⟩ := ru
    refine PySem.P.repr_of_int (by simpa [PyData.showable] using t1) ⟨.str (toString i), H, I.tok _, ⟨_, rfl⟩, ?_⟩
    simpa only [PyData.shown] using q
  | str y =>
    obtain ⟨t, rfl⟩ := ru
    simp only [PyData.shown] at q t3
    exact PySem.P.repr_of_str ⟨.str _, H, I.tok _, ⟨_, rfl⟩, q⟩ t3
  | lst h1 h2 =>
    obtain rfl : u = Value.ref _ := ru
    exact repr_of_reads' rd t1 (PyData.noDict_hsm t2) hq (by omega) (fun _ _ e => e) (fun h' u tk k => ⟨.str _, H, I.kept k, ⟨_, rfl⟩, q⟩) t3
  | tup h1 h2 =>
    obtain rfl : u = Value.ref _ := ru
    exact repr_of_reads' rd t1 (PyData.noDict_hsm t2) hq (by omega) (fun _ _ e => e) (fun h' u tk k => ⟨.str _, H, I.kept k, ⟨_, rfl⟩, q⟩) t3
end
end HK

namespace HK
open PySem PySem.Spec PyProof.Rows L2
/-! ### heaps: all is kept, but what stands at b -/
def Keep (b : Addr) (H H' : Hp) : Prop := ∀ c o, c ≠ b → H c = some o → H' c = some o
theorem Keep.refl (b : Addr) (H : Hp) : Keep b H H := fun _ _ _ h => h
theorem Keep.trans {b : Addr} {H H1 H2 : Hp} (x : Keep b H H1) (y : Keep b H1 H2) : Keep b H H2 := fun c o n h => y c o n (x c o n h)
theorem Keep.of {b : Addr} {H H' : Hp} (x : Same H H') : Keep b H H' := fun c o _ h => x c o h
theorem Same.new {H : Hp} {p : Addr} {o : HO} (n : H p = none) : Same H (upd H p o) := fun c u h => by
  rw [upd_ne (ne_of_none h n)]
  exact h
/-- a thing that was new is changed -/
theorem Same.newer {H H1 : Hp} {p : Addr} {o : HO} (x : Same H H1) (n : H p = none) : Same H (upd H1 p o) := fun c u h => by
  rw [upd_ne (ne_of_none h n)]
  exact x c u h
theorem Keep.newer {b : Addr} {H H1 : Hp} {p : Addr} {o : HO} (x : Keep b H H1) (n : H p = none) : Keep b H (upd H1 p o) := fun c u nb h => by
  rw [upd_ne (ne_of_none h n)]
  exact x c u nb h
theorem Keep.free {b : Addr} {H H' : Hp} (x : Keep b H H') {l : Addr} (nb : l ≠ b) (h : H' l = none) : H l = none := by
  cases q : H l with
  | none => rfl
  | some o =>
    rw [x l o nb q] at h
    cases h
/-! ### data that stands apart from b -/
mutual
inductive D (b : Addr) (H : Hp) : V → PyData → Prop
  | non : D b H .non .none
  | bl (x : Bool) : D b H (.bl x) (.bool x)
  | int (i : Int) : D b H (.int i) (.int i)
  | str (x : Str) : D b H (.str x) (.str x)
  | lst {a : Addr} {xs : List V} {ds : List PyData} : a ≠ b → H a = some (.lst xs) → DAll b H xs ds → D b H (.ref a) (.list ds)
  | tup {a : Addr} {xs : List V} {ds : List PyData} : a ≠ b → H a = some (.tup xs) → DAll b H xs ds → D b H (.ref a) (.tuple ds)
inductive DAll (b : Addr) (H : Hp) : List V → List PyData → Prop
  | nil : DAll b H [] []
  | cons {v : V} {vs : List V} {d : PyData} {ds : List PyData} : D b H v d → DAll b H vs ds → DAll b H (v :: vs) (d :: ds)
end
section
variable {b : Addr} {H H' : Hp}
mutual
theorem D.keep (k : Keep b H H') : ∀ {v : V} (d : PyData), D b H v d → D b H' v d
  | _, .none, .non => .non
  | _, .bool _, .bl x => .bl x
  | _, .int _, .int i => .int i
  | _, .str _, .str x => .str x
  | _, .list ds, .lst n h r => .lst n (k _ _ n h) (DAll.keep k ds r)
  | _, .tuple ds, .tup n h r => .tup n (k _ _ n h) (DAll.keep k ds r)
theorem DAll.keep (k : Keep b H H') : ∀ {vs : List V} (ds : List PyData), DAll b H vs ds → DAll b H' vs ds
  | _, [], .nil => .nil
  | _, d :: ds, .cons x r => .cons (D.keep k d x) (DAll.keep k ds r)
end
mutual
theorem D.dp {K : PySem.W.Frag} : ∀ {v : V} (d : PyData), D b H v d → Dp K H v d
  | _, .none, .non => .non
  | _, .bool _, .bl x => .bl x
  | _, .int _, .int i => .int i
  | _, .str _, .str x => .str x
  | _, .list ds, .lst n h r => .lst (SqL.of h) (DAll.dp ds r)
  | _, .tuple ds, .tup n h r => .tup (SqT.of h) (DAll.dp ds r)
theorem DAll.dp {K : PySem.W.Frag} : ∀ {vs : List V} (ds : List PyData), DAll b H vs ds → DpAll K H vs ds
  | _, [], .nil => .nil
  | _, d :: ds, .cons x r => .cons (D.dp d x) (DAll.dp ds r)
end
theorem D.same {v : V} {d : PyData} (h : D b H v d) (s : Same H H') : D b H' v d := D.keep (Keep.of s) d h
theorem D.kept {v : V} {d : PyData} (h : D b H v d) (k : Keep b H H') : D b H' v d := D.keep k d h
theorem DAll.same {v : List V} {d : List PyData} (h : DAll b H v d) (s : Same H H') : DAll b H' v d := DAll.keep (Keep.of s) d h
theorem DAll.kept {v : List V} {d : List PyData} (h : DAll b H v d) (k : Keep b H H') : DAll b H' v d := DAll.keep k d h
theorem DAll.len : ∀ {vs : List V} {ds : List PyData}, DAll b H vs ds → vs.length = ds.length
  | _, _, .nil => rfl
  | _, _, .cons _ r => congrArg Nat.succ (DAll.len r)
theorem DAll.get : ∀ {vs : List V} {ds : List PyData} {i : Nat} {v : V}, DAll b H vs ds → vs[i]? = some v → ∃ d, ds[i]? = some d ∧ D b H v d
  | _, _, i, v, .nil, h => by simp at h
  | _, _, 0, v, .cons x r, h => by
    simp only [List.getElem?_cons_zero, Option.some.injEq] at h
    subst h
    exact ⟨_, rfl, x⟩
  | _, _, i + 1, v, .cons x r, h => DAll.get (i := i) r (by simpa using h)
theorem DAll.append : ∀ {vs ws : List V} {ds es : List PyData}, DAll b H vs ds → DAll b H ws es → DAll b H (vs ++ ws) (ds ++ es)
  | _, _, _, _, .nil, s => s
  | _, _, _, _, .cons x r, s => .cons x (DAll.append r s)
/-- new tuples and lists of data -/
theorem D.newT {p : Addr} {xs : List V} {ds : List PyData} (nb : p ≠ b) (n : H p = none) (h : DAll b H xs ds) : D b (upd H p (.tup xs)) (.ref p) (.tuple ds) := .tup nb upd_same (h.same (Same.new n))
theorem D.newL {p : Addr} {xs : List V} {ds : List PyData} (nb : p ≠ b) (n : H p = none) (h : DAll b H xs ds) : D b (upd H p (.lst xs)) (.ref p) (.list ds) := .lst nb upd_same (h.same (Same.new n))
end
/-! ### how much room the text of data wants -/
structure Sm (d : PyData) (n m : Nat) : Prop where
  lay : d.canLay0 = true
  sh : d.intsShort 40 = true
  ok : d.showable = true
  w : d.weight ≤ n
  dp : d.depth ≤ m
structure SmA (ds : List PyData) (n m : Nat) : Prop where
  lay : PyData.canLayAll0 ds = true
  sh : PyData.intsShortAll 40 ds = true
  ok : PyData.showableAll ds = true
  w : PyData.weightAll ds ≤ n
  dp : PyData.depthAll ds ≤ m
/-- a short text of signs -/
structure Sh (x : Str) (n : Nat) : Prop where
  len : x.cps.size ≤ n
  cps : PyData.strOk x = true
theorem Sm.str {x : Str} {n : Nat} (h : Sh x n) : Sm (.str x) n 0 := ⟨by simpa only [PyData.canLay0] using h.cps, rfl, rfl, h.len, by simp [PyData.depth]⟩
theorem Sm.bool (x : Bool) : Sm (.bool x) 0 0 := ⟨rfl, rfl, rfl, Nat.le_refl _, by simp [PyData.depth]⟩
theorem Sm.none : Sm .none 0 0 := ⟨rfl, rfl, rfl, Nat.le_refl _, by simp [PyData.depth]⟩
theorem SmA.nil : SmA [] 0 0 := ⟨rfl, rfl, rfl, Nat.le_refl _, by simp [PyData.depthAll]⟩
theorem SmA.mono {ds : List PyData} {n m i j : Nat} (h : SmA ds n i) (a : n ≤ m) (c : i ≤ j) : SmA ds m j := ⟨h.lay, h.sh, h.ok, Nat.le_trans h.w a, Nat.le_trans h.dp c⟩
theorem Sm.mono {d : PyData} {n m i j : Nat} (h : Sm d n i) (a : n ≤ m) (c : i ≤ j) : Sm d m j := ⟨h.lay, h.sh, h.ok, Nat.le_trans h.w a, Nat.le_trans h.dp c⟩
theorem SmA.cons {d : PyData} {ds : List PyData} {n m i j : Nat} (h : Sm d n i) (r : SmA ds m j) : SmA (d :: ds) (n + 1 + m) (max i j) :=
  ⟨by simp only [PyData.canLayAll0, h.lay, r.lay, Bool.and_self], by simp only [PyData.intsShortAll, h.sh, r.sh, Bool.and_self], by simp only [PyData.showableAll, h.ok, r.ok, Bool.and_self],
    by have := h.w; have := r.w; simp only [PyData.weightAll]; omega, by have := h.dp; have := r.dp; simp only [PyData.depthAll]; omega⟩
theorem Sm.tuple {ds : List PyData} {n m : Nat} (h : SmA ds n m) : Sm (.tuple ds) n (m + 1) := ⟨by simpa only [PyData.canLay0] using h.lay, by simpa only [PyData.intsShort] using h.sh, by simpa only [PyData.showable] using h.ok,
  by simpa only [PyData.weight] using h.w, by have := h.dp; simp only [PyData.depth]; omega⟩
theorem Sm.list {ds : List PyData} {n m : Nat} (h : SmA ds n m) : Sm (.list ds) n (m + 1) := ⟨by simpa only [PyData.canLay0] using h.lay, by simpa only [PyData.intsShort] using h.sh, by simpa only [PyData.showable] using h.ok,
  by simpa only [PyData.weight] using h.w, by have := h.dp; simp only [PyData.depth]; omega⟩
theorem Sm.tells {d : PyData} {n m : Nat} (h : Sm d n m) (a : n ≤ 300000) (c : m ≤ 60) : Tells d := by
  have z := PyData.shown_le 40 (by decide) d (PyData.leavesShort_of_canLay0 40 d h.lay h.sh)
  have w := h.w
  refine ⟨h.ok, PyData.hasDict_of_canLay d h.lay, ?_, Nat.le_trans h.dp c⟩
  rw [sizeLine_eq]
  omega
theorem Sm.shaped {d : PyData} {n m : Nat} (h : Sm d n m) (c : m ≤ 60) : SeqAt.shaped d = true := by
  unfold SeqAt.shaped
  rw [h.lay, decide_eq_true (Nat.le_trans h.dp (Nat.le_trans c (by decide)))]
  rfl
/-- data that may be compared and shown -/
def Fine (d : PyData) : Prop := Tells d ∧ SeqAt.shaped d = true ∧ d.canLay0 = true
theorem Sm.fine {d : PyData} {n m : Nat} (h : Sm d n m) (a : n ≤ 300000) (c : m ≤ 60) : Fine d := ⟨h.tells a c, h.shaped c, h.lay⟩
/-- o[i] of a list, by values (for o[i] op= e) -/
theorem get_list {X : Cx} : PGet X (rIxL X.K) := by
  intro pins s σ H o i ov iv Q I ro ri h
  obtain ⟨p, xs, k, z, rfl, rfl, hq, he, q⟩ := h
  cases ro
  obtain ⟨t, rfl⟩ := ri
  obtain ⟨its, r, pl, hz⟩ := I.list hq
  obtain ⟨j, h1, h2, h3, h4, h5⟩ := atI_get he
  obtain ⟨w, ew, rw'⟩ := r.get h2
  have hl := r.length
  have hn := line63
  have fin : EP X pins σ Q w s := ⟨z, H, I, rw', q⟩
  by_cases h0 : 0 ≤ k
  · have hj : k.toNat = j := Option.some.inj ((seqIndex_of h0 h5).symm.trans h1)
    exact wpAny_getItem_list pl.isList h0 (by omega) (by rw [hj]; simpa using ew) fin
  · have hj : (k + (its.toArray.size : Int)).toNat = j := by
      rw [List.size_toArray, ← hl]
      exact Option.some.inj ((seqIndex_neg (by omega) h4).symm.trans h1)
    exact wpAny_getItem_list_neg pl.isList (by omega) (by rw [List.size_toArray] <;> omega) (by omega) (by rw [hj]; simpa using ew) fin
end HK

namespace HK
open PySem PySem.Spec PyProof.Rows L2
/-- the address of the table of modules is told, so that nothing new stands there -/
def Mk (H : Hp) : Prop := ∃ o u, H sysModules = some (.frz o u)
theorem Mk.same {H H' : Hp} (m : Mk H) (s : Same H H') : Mk H' := by
  obtain ⟨o, u, h⟩ := m
  exact ⟨o, u, s _ _ h⟩
theorem Mk.kept {b : Addr} {H H' : Hp} (m : Mk H) (k : Keep b H H') (hb : ∃ xs, H b = some (.lst xs)) : Mk H' := by
  obtain ⟨o, u, h⟩ := m
  obtain ⟨xs, hb⟩ := hb
  exact ⟨o, u, k _ _ (ne_of h hb (by intro z; cases z)) h⟩
section
variable {P : Program} {w : World} {K : PySem.W.Frag} {mg mb : Str → Option Value} {k : Nat} {fa a : Addr} {fd : FuncData} {x : Str} {sp : Sp} {s₁ : Shared} {vs : List Value} {ns : List Int}
theorem core_endM (KX : K.In s₁.heap) (hns : s₁.heap.Ns mainGlobals mg) (hb : s₁.heap.Ns builtinsNs mb) (hbb : ∀ y : Str, y ≠ "__name__" → mb y = bootBuiltins y) (hlim : s₁.heap.NoLimit) (hg : s₁.gens = #[]) (hr : Room k callerA)
    (F : ∀ base : Heap, K.In base → base.Ns mainGlobals mg → FnG P w K mg base CX0 k fa fd [x] sp) (hbind : ∀ (s : Shared) (u : Value), BindsTo s fd ⟨[u], []⟩ [(x, u)])
    (H : Hp) (hO : ∀ c u, H c = some u → ∃ o v, u = .frz o v) (hS : sp [.ref a] H (fun v _ => v = .bl true) fun _ _ _ => False) (hok : HOk P w H s₁.heap) (hA : ∀ c u, H c = some u → K.lookup c = none ∧ c ≠ mainGlobals ∧ c ≠ builtinsNs ∧ c ≠ cStatics) :
    codeAny (model P w) callerA (.call (.ref fa) ⟨[.ref a], []⟩) (Ended s₁) s₁ := by
  have nsK : ∀ {c : Addr} {m : Str → Option Value}, (c = mainGlobals ∨ c = builtinsNs ∨ c = cStatics) → s₁.heap.Ns c m → (hidT s₁.heap H).Ns c m := by
    rintro c m hc ⟨o, es, ep, e, d, r⟩
    refine ⟨o, es, ep, hidT_get e ?_, d, r⟩
    cases q : H c with
    | none => rfl
    | some u =>
      obtain ⟨_, n1, n2, n3⟩ := hA c u q
      rcases hc with z | z | z
      · exact absurd z n1
      · exact absurd z n2
      · exact absurd z n3
  have hKb : K.In (hidT s₁.heap H) := fun c o e => hidT_get (KX c o e) (by
    cases q : H c with
    | none => rfl
    | some u =>
      rw [(hA c u q).1] at e
      cases e)
  have hM : Mod K mg (hidT s₁.heap H) := ⟨hKb, nsK (.inl rfl) hns, ⟨mb, nsK (.inr (.inl rfl)) hb, hbb⟩, hlim.elim fun mc z => ⟨mc, nsK (.inr (.inr rfl)) z.1, z.2⟩⟩
  have e0 : Env0 P w K mg (hidT s₁.heap H) callerA [] s₁ H := ⟨rfl, hM, fun _ _ e => of_hidT e, Nat.le_of_eq (hidT_size _ _), trivial, fun c hc => absurd hc (by show c ∉ ([] : List Addr); simp), hok, .of_eq hg⟩
  refine codeAny_mono ((F _ hKb (nsK (.inl rfl) hns)).go callerA [] s₁ H ⟨[.ref a], []⟩ [.ref a] [.ref a] _ _ rfl hr e0 (hbind s₁ (.ref a)) (.cons rfl .nil) hS) fun r s' h => ?_
  match r, h with
  | .error _, h => exact h.elim
  | .ok .next, h => exact False.elim h
  | .ok .brk, h => exact False.elim h
  | .ok .cont, h => exact False.elim h
  | .ok (.ret u), h =>
    obtain ⟨v, H', os, bare, un, hok', r', q⟩ := h
    obtain rfl : v = .bl true := q
    obtain rfl : u = Value.bool true := r'
    refine ⟨rfl, OldK.of_keep fun c o e => ?_, os, bare⟩
    cases z : H c with
    | none => exact un.keep c o e z (by show c ∉ ([] : List Addr); simp) (by simp)
    | some t =>
      obtain ⟨ob, v, rfl⟩ := hO c t z
      have e1 := (hok c _ z).1
      have e2 := (hok' c _ (un.frzs c ob _ z)).1
      rw [e] at e1
      cases e1
      exact e2
theorem ns_dict {h : Heap} {c : Addr} {m : Str → Option Value} {vs : Array Value} {n : Nat} (x : h.Ns c m) (e : h.get? c = some { cls := .type "list", data := .seq vs n }) : False := by
  obtain ⟨o, es, ep, e', d, r⟩ := x
  rw [e] at e'
  cases e'
  cases d
theorem law_endM (KX : K.In s₁.heap) (k1 : K.lookup sysModules = none) (hns : s₁.heap.Ns mainGlobals mg) (hb : s₁.heap.Ns builtinsNs mb) (hbb : ∀ y : Str, y ≠ "__name__" → mb y = bootBuiltins y) (hlim : s₁.heap.NoLimit) (hse : s₁.heap.NoSeer) (hg : s₁.gens = #[])
    (ha : s₁.heap.get? a = some { cls := .type "list", data := .seq vs.toArray }) (hi : IntsAre vs ns) (hl : ns.length ≤ sizeLine) (hr : Room k callerA)
    (F : ∀ base : Heap, K.In base → base.Ns mainGlobals mg → FnG P w K mg base CX0 k fa fd [x] sp) (hbind : ∀ (s : Shared) (u : Value), BindsTo s fd ⟨[u], []⟩ [(x, u)])
    (hsp : ∀ H : Hp, Mk H → SqL K H a (ns.map V.int) → sp [.ref a] H (fun v _ => v = .bl true) fun _ _ _ => False) :
    codeAny (model P w) callerA (.call (.ref fa) ⟨[.ref a], []⟩) (Ended s₁) s₁ := by
  have rv := vals_ints hi
  obtain ⟨mm, hmods, _⟩ := hse.mods
  obtain ⟨o1, es1, ep1, e1, d1, _⟩ := id hmods
  have na : a ≠ sysModules := fun z => ns_dict (m := mm) (by rw [z]; exact hmods) ha
  have ng : ∀ {c m}, s₁.heap.Ns c m → a ≠ c := fun {c m} z q => ns_dict (m := m) (by rw [q]; exact z) ha
  obtain ⟨mc, hmc, _⟩ := id hlim
  have ext : ObjOk P w (fun _ => none) s₁.heap sysModules (.frz o1 (.ext fun _ => True)) := ⟨e1, trivial, ⟨_, e1⟩, fun _ _ _ _ => trivial⟩
  cases hk : K.lookup a with
  | some o =>
    have e := (KX a o hk).symm.trans ha
    cases e
    let H0 : Hp := fun c => if c = sysModules then some (.frz o1 (.ext fun _ => True)) else none
    have at_ : H0 sysModules = some (.frz o1 (.ext fun _ => True)) := if_pos rfl
    have on : ∀ c u, H0 c = some u → c = sysModules ∧ u = .frz o1 (.ext fun _ => True) := fun c u z => by
      by_cases q : c = sysModules
      · subst q
        rw [at_] at z
        cases z
        exact ⟨rfl, rfl⟩
      · rw [show H0 c = none from if_neg q] at z
        cases z
    refine core_endM KX hns hb hbb hlim hg hr F hbind H0 (fun c u z => ⟨_, _, (on c u z).2⟩)
      (hsp _ ⟨_, _, at_⟩ (.inr ⟨_, vs.toArray, _, hk, rfl, rfl, rfl, by rw [List.size_toArray, hi.length]; exact hl, by simpa using rv⟩)) (fun c u z => ?_) fun c u z => ?_
    · obtain ⟨rfl, rfl⟩ := on c u z
      exact ⟨e1, trivial, ⟨_, e1⟩, fun _ _ _ _ => trivial⟩
    · obtain ⟨rfl, rfl⟩ := on c u z
      exact ⟨k1, by decide, by decide, by decide⟩
  | none =>
    let H0 : Hp := fun c => if c = a then some (.frz { cls := .type "list", data := .seq vs.toArray } (.lst (ns.map V.int))) else if c = sysModules then some (.frz o1 (.ext fun _ => True)) else none
    have at_a : H0 a = some (.frz { cls := .type "list", data := .seq vs.toArray } (.lst (ns.map V.int))) := if_pos rfl
    have at_s : H0 sysModules = some (.frz o1 (.ext fun _ => True)) := (if_neg na.symm).trans (if_pos rfl)
    have on : ∀ c u, H0 c = some u → (c = a ∧ u = .frz { cls := .type "list", data := .seq vs.toArray } (.lst (ns.map V.int))) ∨ (c = sysModules ∧ u = .frz o1 (.ext fun _ => True)) := fun c u z => by
      by_cases q : c = a
      · subst q
        rw [at_a] at z
        cases z
        exact .inl ⟨rfl, rfl⟩
      · by_cases q2 : c = sysModules
        · subst q2
          rw [at_s] at z
          cases z
          exact .inr ⟨rfl, rfl⟩
        · rw [show H0 c = none from (if_neg q).trans (if_neg q2)] at z
          cases z
    refine core_endM KX hns hb hbb hlim hg hr F hbind H0 (fun c u z => ?_) (hsp H0 ⟨_, _, at_s⟩ (.inl (.inr ⟨_, at_a⟩))) (fun c u z => ?_) fun c u z => ?_
    · rcases on c u z with ⟨_, e⟩ | ⟨_, e⟩ <;> exact ⟨_, _, e⟩
    · rcases on c u z with ⟨rfl, rfl⟩ | ⟨rfl, rfl⟩
      · exact ⟨ha, by rw [List.length_map]; exact hl, vs, _, rv, ha⟩
      · exact ⟨e1, trivial, ⟨_, e1⟩, fun _ _ _ _ => trivial⟩
    · rcases on c u z with ⟨rfl, rfl⟩ | ⟨rfl, rfl⟩
      · exact ⟨hk, ng hns, ng hb, ng hmc⟩
      · exact ⟨k1, by decide, by decide, by decide⟩
end
theorem walkM {l : PySem.W.OpenLaw} {n k : Nat} {q : Program} {loose : List Str} {XP : (Str → Option Value) → Heap → Prop} {YP : World → Heap → Prop} {d : DefRec} {K : Params → PySem.W.Frag} {sp : PySem.W.Frag → Sp} {x : Str}
    (hn : l.most = some n) (hn2 : n ≤ sizeLine) (hdf : d.params.defaults = []) (hr : Room k callerA) (him : importsNone q = true) (hY : ∀ (w : World) (h : Heap), YP w h → (K w.params).In h)
    (F : ∀ (w : World) (mg : Str → Option Value) (fa : Addr) (h : Heap), (K w.params).In h → h.Ns mainGlobals mg → mg d.name = some (.ref fa) → (K w.params).lookup sysModules = none ∧ ∃ fd : FuncData, (∀ (s : Shared) (u : Value), BindsTo s fd ⟨[u], []⟩ [(x, u)]) ∧
      ∀ base : Heap, (K w.params).In base → base.Ns mainGlobals mg → FnG l.prog w (K w.params) mg base CX0 k fa fd [x] (sp (K w.params)))
    (hsp : ∀ (K : PySem.W.Frag) (H : Hp) (a : Addr) (ns : List Int), ns.length ≤ n → (∀ z ∈ ns, Builtin.Int.intBits z ≤ 1048576) → Mk H → SqL K H a (ns.map V.int) → sp K [.ref a] H (fun v _ => v = .bl true) fun _ _ _ => False) :
    PySem.W.WalkO q loose XP YP l.row.toRowW d [] (fun f vs => PySem.call f vs) := by
  refine Att.attach_callB hn hdf fun w s₀ s₁ mg mb fa o pm cd doc a vs ns G Y ho hd hcd hmg hobj hints hlen hbits hg => ?_
  obtain ⟨k1, fd, hb, hF⟩ := F w mg fa _ (hY w _ Y) G.T.g hmg
  exact law_endM (hY w _ Y) k1 G.T.g G.T.b G.T.builtins G.T.nolimit (G.T.seer him) hg hobj hints (Nat.le_trans hlen hn2) hr hF hb fun H hO hS => hsp _ H a ns hlen hbits hO hS
/-! ### data with empty dicts -/
mutual
inductive DX (b : Addr) (H : Hp) : V → PyData → Prop
  | non : DX b H .non .none
  | bl (x : Bool) : DX b H (.bl x) (.bool x)
  | int (i : Int) : DX b H (.int i) (.int i)
  | str (x : Str) : DX b H (.str x) (.str x)
  | lst {a : Addr} {xs : List V} {ds : List PyData} : a ≠ b → H a = some (.lst xs) → DXs b H xs ds → DX b H (.ref a) (.list ds)
  | tup {a : Addr} {xs : List V} {ds : List PyData} : a ≠ b → H a = some (.tup xs) → DXs b H xs ds → DX b H (.ref a) (.tuple ds)
  | dct {a : Addr} : a ≠ b → H a = some (.dK []) → DX b H (.ref a) (.dict [])
inductive DXs (b : Addr) (H : Hp) : List V → List PyData → Prop
  | nil : DXs b H [] []
  | cons {v : V} {vs : List V} {d : PyData} {ds : List PyData} : DX b H v d → DXs b H vs ds → DXs b H (v :: vs) (d :: ds)
end
section
variable {b : Addr} {H H' : Hp}
mutual
theorem DX.keep (k : Keep b H H') : ∀ {v : V} (d : PyData), DX b H v d → DX b H' v d
  | _, .none, .non => .non
  | _, .bool _, .bl x => .bl x
  | _, .int _, .int i => .int i
  | _, .str _, .str x => .str x
  | _, .list ds, .lst n h r => .lst n (k _ _ n h) (DXs.keep k ds r)
  | _, .tuple ds, .tup n h r => .tup n (k _ _ n h) (DXs.keep k ds r)
  | _, .dict _, .dct n h => .dct n (k _ _ n h)
theorem DXs.keep (k : Keep b H H') : ∀ {vs : List V} (ds : List PyData), DXs b H vs ds → DXs b H' vs ds
  | _, [], .nil => .nil
  | _, d :: ds, .cons x r => .cons (DX.keep k d x) (DXs.keep k ds r)
end
theorem DX.kept {v : V} {d : PyData} (h : DX b H v d) (k : Keep b H H') : DX b H' v d := DX.keep k d h
theorem DX.same {v : V} {d : PyData} (h : DX b H v d) (s : Same H H') : DX b H' v d := DX.keep (Keep.of s) d h
theorem DXs.kept {v : List V} {d : List PyData} (h : DXs b H v d) (k : Keep b H H') : DXs b H' v d := DXs.keep k d h
theorem DXs.same {v : List V} {d : List PyData} (h : DXs b H v d) (s : Same H H') : DXs b H' v d := DXs.keep (Keep.of s) d h
theorem DXs.len : ∀ {vs : List V} {ds : List PyData}, DXs b H vs ds → vs.length = ds.length
  | _, _, .nil => rfl
  | _, _, .cons _ r => congrArg Nat.succ (DXs.len r)
theorem DXs.get : ∀ {vs : List V} {ds : List PyData} {i : Nat} {v : V}, DXs b H vs ds → vs[i]? = some v → ∃ d, ds[i]? = some d ∧ DX b H v d
  | _, _, i, v, .nil, h => by simp at h
  | _, _, 0, v, .cons x r, h => by
    simp only [List.getElem?_cons_zero, Option.some.injEq] at h
    subst h
    exact ⟨_, rfl, x⟩
  | _, _, i + 1, v, .cons x r, h => DXs.get (i := i) r (by simpa using h)
theorem DXs.append : ∀ {vs ws : List V} {ds es : List PyData}, DXs b H vs ds → DXs b H ws es → DXs b H (vs ++ ws) (ds ++ es)
  | _, _, _, _, .nil, s => s
  | _, _, _, _, .cons x r, s => .cons x (DXs.append r s)
theorem DXs.set {v : V} {d : PyData} (x : DX b H v d) : ∀ {vs : List V} {ds : List PyData} (i : Nat), DXs b H vs ds → DXs b H (vs.set i v) (ds.set i d)
  | _, _, _, .nil => .nil
  | _, _, 0, .cons _ t => .cons x t
  | _, _, i + 1, .cons q t => .cons q (DXs.set x i t)
theorem DXs.take : ∀ {vs : List V} {ds : List PyData} (n : Nat), DXs b H vs ds → DXs b H (vs.take n) (ds.take n)
  | _, _, 0, _ => .nil
  | _, _, _ + 1, .nil => .nil
  | _, _, n + 1, .cons r t => .cons r (DXs.take n t)
theorem DXs.drop : ∀ {vs : List V} {ds : List PyData} (n : Nat), DXs b H vs ds → DXs b H (vs.drop n) (ds.drop n)
  | _, _, 0, r => r
  | _, _, _ + 1, .nil => .nil
  | _, _, n + 1, .cons _ t => DXs.drop n t
theorem DX.newT {p : Addr} {xs : List V} {ds : List PyData} (nb : p ≠ b) (n : H p = none) (h : DXs b H xs ds) : DX b (upd H p (.tup xs)) (.ref p) (.tuple ds) := .tup nb upd_same (h.same (Same.new n))
theorem DX.newL {p : Addr} {xs : List V} {ds : List PyData} (nb : p ≠ b) (n : H p = none) (h : DXs b H xs ds) : DX b (upd H p (.lst xs)) (.ref p) (.list ds) := .lst nb upd_same (h.same (Same.new n))
mutual
theorem D.dx : ∀ {v : V} (d : PyData), D b H v d → DX b H v d
  | _, .none, .non => .non
  | _, .bool _, .bl x => .bl x
  | _, .int _, .int i => .int i
  | _, .str _, .str x => .str x
  | _, .list ds, .lst n h r => .lst n h (DAll.dx ds r)
  | _, .tuple ds, .tup n h r => .tup n h (DAll.dx ds r)
theorem DAll.dx : ∀ {vs : List V} (ds : List PyData), DAll b H vs ds → DXs b H vs ds
  | _, [], .nil => .nil
  | _, d :: ds, .cons x r => .cons (D.dx d x) (DAll.dx ds r)
end
end
section
variable {X : Cx} {pins : List (Addr × Obj)} {σ : L2.St} {H : Hp} {s : Shared} {b : Addr}
mutual
/-- such data is read, and not by the table of modules -/
theorem DX.reads (I : Inv X pins σ H s) (M : Mk H) : ∀ (d : PyData) (v : V) (u : Value), DX b H v d → RelV v u → ∃ as, Reads s.heap u d as ∧ sysModules ∉ as
  | .none, _, _, .non, r => by
    cases r
    exact ⟨_, .none, by simp⟩
  | .bool _, _, _, .bl _, r => by
    cases r
    exact ⟨_, .bool _, by simp⟩
  | .int _, _, _, .int i, r => by
    obtain ⟨t, rfl⟩ := r
    exact ⟨_, .int i t, by simp⟩
  | .str _, _, _, .str x, r => by
    obtain ⟨t, rfl⟩ := r
    exact ⟨_, .str x t, by simp⟩
  | .list ds, _, _, .lst (a := a) n h ha, r => by
    cases r
    obtain ⟨its, rv, ⟨o, n, ho, hc, _, hd⟩, _⟩ := I.list (SqL.of h)
    obtain ⟨as, hr, hn⟩ := DXs.reads I M ds _ its ha rv
    obtain ⟨om, um, hm⟩ := M
    exact ⟨_, .list ho hc hd hr, by rw [List.mem_cons]; rintro (z | z); exact ne_of hm h (by intro z; cases z) z; exact hn z⟩
  | .tuple ds, _, _, .tup n h ha, r => by
    cases r
    obtain ⟨its, rv, ⟨o, ho, hc, n, hd⟩, _⟩ := I.tuple (SqT.of h)
    obtain ⟨as, hr, hn⟩ := DXs.reads I M ds _ its ha rv
    exact ⟨_, .tuple ho hc hd hr, hn⟩
  | .dict _, _, _, .dct (a := a) n h, r => by
    cases r
    obtain ⟨_, _, vs, kv, o, es, ep, e1, e2, e3, _, e4⟩ := (show ObjOk X.prog X.w H s.heap a (.dK []) from I.hok a _ h)
    obtain ⟨om, um, hm⟩ := M
    have ev : vs = [] := by cases kv; rfl
    subst ev
    have ees : es.toList = [] := by
      have z := e4.1
      generalize es.toList = l at z
      cases z
      rfl
    refine ⟨_, .dict (as := []) (bs := []) e1 e2.1 e3 (by rw [ees]; exact .nil) (by rw [ees]; exact .nil), ?_⟩
    simp only [List.append_nil, List.mem_singleton]
    exact ne_of hm h (by intro z; cases z)
theorem DXs.reads (I : Inv X pins σ H s) (M : Mk H) : ∀ (ds : List PyData) (vs : List V) (us : List Value), DXs b H vs ds → Vals vs us → ∃ as, ReadsAll s.heap us ds as ∧ sysModules ∉ as
  | [], _, _, .nil, r => by
    cases r
    exact ⟨_, .nil, by simp⟩
  | d :: ds, _, _, .cons h1 h2, r => by
    cases r with
    | cons r1 r2 =>
      obtain ⟨as, q1, n1⟩ := DX.reads I M d _ _ h1 r1
      obtain ⟨bs, q2, n2⟩ := DXs.reads I M ds _ _ h2 r2
      exact ⟨_, .cons q1 q2, by rw [List.mem_append]; rintro (z | z); exact n1 z; exact n2 z⟩
end
end
/-- room for the text of such data -/
structure TX (d : PyData) : Prop where
  ok : d.showable = true
  fit : d.shown.length ≤ sizeLine
  dp : d.depth ≤ 60
section
variable {X : Cx}
theorem call_reprX (hq : Quiet X.A) (hu : X.A.units + 64 < cLine) : CallR X (.builtin "repr") (fun xs H Q => ∃ b x d, xs = [x] ∧ Mk H ∧ DX b H x d ∧ TX d ∧ Q (.str d.shown) H) := by
  intro pins s σ H xs us Q I r h
  obtain ⟨b, x, d, rfl, M, hd, ⟨t1, t3, t4⟩, q⟩ := h
  obtain ⟨u, rfl, ru⟩ := vals1 r
  obtain ⟨as, rd, nm⟩ := DX.reads I M d x u hd ru
  cases hd with
  | non =>
    obtain rfl : u = Value.none := ru
    exact PySem.P.repr_of_none ⟨.str "None", H, I.tok _, ⟨_, rfl⟩, q⟩
  | bl y =>
    obtain rfl : u = Value.bool y := ru
    refine PySem.P.repr_of_bool ⟨.str (if y then "True" else "False"), H, I.tok _, ⟨_, rfl⟩, ?_⟩
    simpa only [PyData.shown] using q
  | int i =>
    obtain ⟨t, rfl⟩ := ru
    refine PySem.P.repr_of_int (by simpa [PyData.showable] using t1) ⟨.str (toString i), H, I.tok _, ⟨_, rfl⟩, ?_⟩
    simpa only [PyData.shown] using q
  | str y =>
    obtain ⟨t, rfl⟩ := ru
    simp only [PyData.shown] at q t3
    exact PySem.P.repr_of_str ⟨.str _, H, I.tok _, ⟨_, rfl⟩, q⟩ t3
  | lst h0 h1 h2 =>
    obtain rfl : u = Value.ref _ := ru
    exact repr_of_reads' rd t1 (fun _ => nm) hq (by omega) (fun _ _ e => e) (fun h' u tk k => ⟨.str _, H, I.kept k, ⟨_, rfl⟩, q⟩) t3
  | tup h0 h1 h2 =>
    obtain rfl : u = Value.ref _ := ru
    exact repr_of_reads' rd t1 (fun _ => nm) hq (by omega) (fun _ _ e => e) (fun h' u tk k => ⟨.str _, H, I.kept k, ⟨_, rfl⟩, q⟩) t3
  | dct h0 h1 =>
    obtain rfl : u = Value.ref _ := ru
    exact repr_of_reads' rd t1 (fun _ => nm) hq (by omega) (fun _ _ e => e) (fun h' u tk k => ⟨.str _, H, I.kept k, ⟨_, rfl⟩, q⟩) t3
end
end HK

namespace FL
open PySem PySem.Spec PyProof.Rows L2
/-! ### values as trees. o: owned by the one who holds it (it may be changed); a dict's entries are pairs; t: its keys are tuples -/
inductive PV where
  | un | non | bl (b : Bool) | int (i : Int) | str (x : Str)
  | tup (ps : List PV)
  | lst (o : Bool) (ps : List PV)
  | dct (o t : Bool) (es : List PV)
  | ins (C : Addr) (fs : List Str) (ps : List PV)
  /-- a caught exception of the class C; d: its own dict -/
  | exc (C d : Addr) (fs : List Str) (ps : List PV)
instance : Inhabited PV := ⟨.un⟩
mutual
/-- the same, nothing of it owned -/
def fz : PV → PV
  | .un => .un
  | .non => .non
  | .bl b => .bl b
  | .int i => .int i
  | .str x => .str x
  | .tup ps => .tup (fzs ps)
  | .lst _ ps => .lst false (fzs ps)
  | .dct _ t es => .dct false t (fzs es)
  | .ins C fs ps => .ins C fs (fzs ps)
  | .exc C d fs ps => .exc C d fs (fzs ps)
def fzs : List PV → List PV
  | [] => []
  | p :: ps => fz p :: fzs ps
end
theorem fzs_map : ∀ ps, fzs ps = ps.map fz
  | [] => rfl
  | p :: ps => by rw [fzs, fzs_map ps]; rfl
mutual
/-- as a key -/
def key? : PV → Option NestedKey
  | .non => some .none
  | .bl b => some (.num (if b = true then 1 else 0))
  | .int i => some (.num i)
  | .str x => some (.text x)
  | .tup ps => (keys? ps).map .tup
  | .un => none
  | .lst _ _ => none
  | .dct _ _ _ => none
  | .ins _ _ _ => none
  | .exc _ _ _ _ => none
def keys? : List PV → Option (List NestedKey)
  | [] => some []
  | p :: ps => (key? p).bind fun k => (keys? ps).map (k :: ·)
end
mutual
theorem fz_key : ∀ {p : PV} {k : NestedKey}, key? p = some k → fz p = p
  | .non, _, _ => rfl
  | .bl _, _, _ => rfl
  | .int _, _, _ => rfl
  | .str _, _, _ => rfl
  | .tup ps, _, h => by
    cases e : keys? ps with
    | none => simp [key?, e] at h
    | some ks => rw [fz, fzs_key e]
  | .un, _, h => by simp [key?] at h
  | .lst _ _, _, h => by simp [key?] at h
  | .dct _ _ _, _, h => by simp [key?] at h
  | .ins _ _ _, _, h => by simp [key?] at h
  | .exc _ _ _ _, _, h => by simp [key?] at h
theorem fzs_key : ∀ {ps : List PV} {ks : List NestedKey}, keys? ps = some ks → fzs ps = ps
  | [], _, _ => rfl
  | p :: ps, _, h => by
    cases e : key? p with
    | none => simp [keys?, e] at h
    | some k =>
      cases e2 : keys? ps with
      | none => simp [keys?, e, e2] at h
      | some ks => rw [fzs, fz_key e, fzs_key e2]
end
mutual
theorem fz_fz : ∀ p, fz (fz p) = fz p
  | .un => rfl
  | .non => rfl
  | .bl _ => rfl
  | .int _ => rfl
  | .str _ => rfl
  | .tup ps => by simp only [fz, fzs_fzs ps]
  | .lst _ ps => by simp only [fz, fzs_fzs ps]
  | .dct _ _ es => by simp only [fz, fzs_fzs es]
  | .ins _ _ ps => by simp only [fz, fzs_fzs ps]
  | .exc _ _ _ ps => by simp only [fz, fzs_fzs ps]
theorem fzs_fzs : ∀ ps, fzs (fzs ps) = fzs ps
  | [] => rfl
  | p :: ps => by simp only [fzs, fz_fz p, fzs_fzs ps]
end
mutual
/-- the value v of H is the key k -/
inductive KV (H : Hp) : V → NestedKey → Prop
  | non : KV H .non .none
  | bl (b : Bool) : KV H (.bl b) (.num (if b = true then 1 else 0))
  | int (i : Int) : KV H (.int i) (.num i)
  | str (x : Str) : KV H (.str x) (.text x)
  | tup {a xs ks} : H a = some (.tup xs) → KVs H xs ks → KV H (.ref a) (.tup ks)
inductive KVs (H : Hp) : List V → List NestedKey → Prop
  | nil : KVs H [] []
  | cons {v k vs ks} : KV H v k → KVs H vs ks → KVs H (v :: vs) (k :: ks)
end
mutual
theorem KV.up {H H' : Hp} (s : ∀ a xs, H a = some (.tup xs) → H' a = some (.tup xs)) : ∀ {v : V} (k : NestedKey), KV H v k → KV H' v k
  | _, _, .non => .non
  | _, _, .bl b => .bl b
  | _, _, .int i => .int i
  | _, _, .str x => .str x
  | _, .tup ks, .tup h r => .tup (s _ _ h) (KVs.up s ks r)
theorem KVs.up {H H' : Hp} (s : ∀ a xs, H a = some (.tup xs) → H' a = some (.tup xs)) : ∀ {vs : List V} (ks : List NestedKey), KVs H vs ks → KVs H' vs ks
  | _, _, .nil => .nil
  | _, k :: ks, .cons x r => .cons (KV.up s k x) (KVs.up s ks r)
end
section
variable {P : Program} {w : World} {H : Hp} {h : Heap}
mutual
theorem KV.is (ok : HOk P w H h) : ∀ {v : V} {u : Value} (k : NestedKey), KV H v k → RelV v u → NestedIs h k u
  | _, _, _, .non, r => by cases r; exact .none
  | _, _, _, .bl b, r => by cases r; exact .bool rfl
  | _, _, _, .int i, r => by obtain ⟨t, rfl⟩ := r; exact .int _ _
  | _, _, _, .str x, r => by obtain ⟨t, rfl⟩ := r; exact .text _ _
  | _, _, .tup ks, .tup (a := a) e c, r => by
    cases r
    obtain ⟨_, its, rv, o, h1, h2, n, h3⟩ := (show ObjOk P w H h a (.tup _) from ok a _ e)
    exact .tup h1 h2 h3 (by simpa using KVs.is ok ks c rv)
theorem KVs.is (ok : HOk P w H h) : ∀ {vs : List V} {us : List Value} (ks : List NestedKey), KVs H vs ks → Vals vs us → NestedAll h ks us
  | _, _, [], .nil, r => by cases r; exact .nil
  | _, _, k :: ks, .cons x y, r => by
    cases r with
    | cons r1 r2 => exact .cons (KV.is ok k x r1) (KVs.is ok ks y r2)
end
end
/-! ### dicts whose keys are tuples -/
/-- entries: the key, the tuple that stands in the table, the value -/
abbrev KEs := List (NestedKey × Addr × V)
abbrev KT : KEs → List (NestedKey × Addr × Value) → Prop := Paired fun p q => q.1 = p.1 ∧ q.2.1 = p.2.1 ∧ RelV p.2.2 q.2.2
def keyP (P : Program) (w : World) (a : Addr) (kvs : KEs) (h : Heap) : Prop := kvs.length ≤ sizeLine ∧ (a == sysModules) = false ∧ ∃ xs, KT kvs xs ∧ ∃ o es ep, h.get? a = some o ∧ o.ExactDict ∧ o.data = .dict es ep ∧ es.toList = xs.map (entryOfKey (nestedKind P w)) ∧ (xs.map (·.1)).Nodup
def keyD (P : Program) (w : World) (a : Addr) (kvs : KEs) : HO := .ext (keyP P w a kvs)
/-- the tuple at b is the key k -/
def KA (H : Hp) (b : Addr) (k : NestedKey) : Prop := KV H (.ref b) k ∧ k.depth ≤ 8
theorem KA.is {P : Program} {w : World} {H : Hp} {h : Heap} {b : Addr} {k : NestedKey} (ok : HOk P w H h) (e : KA H b k) : (nestedKind P w).is h k b := ⟨e.1.is ok k rfl, e.2⟩
/-! ### the tree p is the value v of H; B: what is owned (by anybody); O: what p owns -/
mutual
inductive Rel (P : Program) (w : World) (B : Addr → Prop) (H : Hp) : V → PV → List Addr → Prop
  | un {v} : Rel P w B H v .un []
  | non : Rel P w B H .non .non []
  | bl (b) : Rel P w B H (.bl b) (.bl b) []
  | int (i) : Rel P w B H (.int i) (.int i) []
  | str (x) : Rel P w B H (.str x) (.str x) []
  | tup {a xs ps O} : ¬ B a → H a = some (.tup xs) → Rels P w B H xs ps O → Rel P w B H (.ref a) (.tup ps) O
  | lstF {a xs ps} : ¬ B a → H a = some (.lst xs) → Rels P w B H xs ps [] → Rel P w B H (.ref a) (.lst false ps) []
  | lstO {a xs ps O} : H a = some (.lst xs) → Rels P w B H xs ps O → Rel P w B H (.ref a) (.lst true ps) (a :: O)
  | dctF {a kvs es} : ¬ B a → H a = some (.dK kvs) → RelD P w B H kvs es [] → Rel P w B H (.ref a) (.dct false false es) []
  | dctO {a kvs es O} : H a = some (.dK kvs) → RelD P w B H kvs es O → Rel P w B H (.ref a) (.dct true false es) (a :: O)
  | dcuF {a kvs es} : ¬ B a → Rd H a (keyD P w a kvs) → RelK P w B H kvs es [] → Rel P w B H (.ref a) (.dct false true es) []
  | dcuO {a kvs es O} : H a = some (keyD P w a kvs) → RelK P w B H kvs es O → Rel P w B H (.ref a) (.dct true true es) (a :: O)
  | ins {a C dx l fs xs ps} : ¬ B a → H a = some (.ins C dx l) → l.map (·.1) = fs → l.map (·.2) = xs → Rels P w B H xs ps [] → Rel P w B H (.ref a) (.ins C fs ps) []
  | exc {a C d l fs xs ps} : ¬ B d → H d = some (.xd l) → l.map (·.1) = fs → l.map (·.2) = xs → Rels P w B H xs ps [] → Rel P w B H (.ref a) (.exc C d fs ps) []
inductive Rels (P : Program) (w : World) (B : Addr → Prop) (H : Hp) : List V → List PV → List Addr → Prop
  | nil : Rels P w B H [] [] []
  | cons {v vs p ps O O'} : Rel P w B H v p O → Rels P w B H vs ps O' → Rels P w B H (v :: vs) (p :: ps) (O ++ O')
inductive RelD (P : Program) (w : World) (B : Addr → Prop) (H : Hp) : List (Key × V) → List PV → List Addr → Prop
  | nil : RelD P w B H [] [] []
  | cons {k kp v p kvs es O O'} : Rel P w B H (kV k) kp [] → Rel P w B H v p O → RelD P w B H kvs es O' → RelD P w B H ((k, v) :: kvs) (.tup [kp, p] :: es) (O ++ O')
inductive RelK (P : Program) (w : World) (B : Addr → Prop) (H : Hp) : KEs → List PV → List Addr → Prop
  | nil : RelK P w B H [] [] []
  | cons {k b kp v p kvs es O O'} : Rel P w B H (.ref b) kp [] → key? kp = some k → k.depth ≤ 8 → Rel P w B H v p O → RelK P w B H kvs es O' → RelK P w B H ((k, b, v) :: kvs) (.tup [kp, p] :: es) (O ++ O')
end
section
variable {P : Program} {w : World} {B B' : Addr → Prop} {H H' : Hp}
/-! change of the heap and of what is owned, all nodes kept -/
theorem rd_go (hn : ∀ a o, H a = some o → ¬ B a → H' a = some o ∧ ¬ B' a) {a : Addr} {u : HO} (h : Rd H a u) (n : ¬ B a) : Rd H' a u ∧ ¬ B' a := by
  rcases h with h | ⟨o, h⟩
  · exact ⟨.inl (hn _ _ h n).1, (hn _ _ h n).2⟩
  · exact ⟨.inr ⟨o, (hn _ _ h n).1⟩, (hn _ _ h n).2⟩
mutual
theorem Rel.go (hn : ∀ a o, H a = some o → ¬ B a → H' a = some o ∧ ¬ B' a) : ∀ {v : V} {p : PV} {O : List Addr}, Rel P w B H v p O → (∀ a o, a ∈ O → H a = some o → H' a = some o) → Rel P w B' H' v p O
  | _, _, _, .un, _ => .un
  | _, _, _, .non, _ => .non
  | _, _, _, .bl b, _ => .bl b
  | _, _, _, .int i, _ => .int i
  | _, _, _, .str x, _ => .str x
  | _, _, _, .tup n h r, k => let z := hn _ _ h n; .tup z.2 z.1 (Rels.go hn r k)
  | _, _, _, .lstF n h r, k => let z := hn _ _ h n; .lstF z.2 z.1 (Rels.go hn r k)
  | _, _, _, .lstO h r, k => .lstO (k _ _ List.mem_cons_self h) (Rels.go hn r fun a o m => k a o (List.mem_cons_of_mem _ m))
  | _, _, _, .dctF n h r, k => let z := hn _ _ h n; .dctF z.2 z.1 (RelD.go hn r k)
  | _, _, _, .dctO h r, k => .dctO (k _ _ List.mem_cons_self h) (RelD.go hn r fun a o m => k a o (List.mem_cons_of_mem _ m))
  | _, _, _, .dcuF n h r, k => let z := rd_go hn h n; .dcuF z.2 z.1 (RelK.go hn r k)
  | _, _, _, .dcuO h r, k => .dcuO (k _ _ List.mem_cons_self h) (RelK.go hn r fun a o m => k a o (List.mem_cons_of_mem _ m))
  | _, _, _, .ins n h e1 e2 r, k => let z := hn _ _ h n; .ins z.2 z.1 e1 e2 (Rels.go hn r k)
  | _, _, _, .exc n h e1 e2 r, k => let z := hn _ _ h n; .exc z.2 z.1 e1 e2 (Rels.go hn r k)
theorem Rels.go (hn : ∀ a o, H a = some o → ¬ B a → H' a = some o ∧ ¬ B' a) : ∀ {v : List V} {p : List PV} {O : List Addr}, Rels P w B H v p O → (∀ a o, a ∈ O → H a = some o → H' a = some o) → Rels P w B' H' v p O
  | _, _, _, .nil, _ => .nil
  | _, _, _, .cons x r, k => .cons (Rel.go hn x fun a o m => k a o (List.mem_append_left _ m)) (Rels.go hn r fun a o m => k a o (List.mem_append_right _ m))
theorem RelD.go (hn : ∀ a o, H a = some o → ¬ B a → H' a = some o ∧ ¬ B' a) : ∀ {v : List (Key × V)} {p : List PV} {O : List Addr}, RelD P w B H v p O → (∀ a o, a ∈ O → H a = some o → H' a = some o) → RelD P w B' H' v p O
  | _, _, _, .nil, _ => .nil
  | _, _, _, .cons y x r, k => .cons (Rel.go hn y fun a o m => (List.not_mem_nil m).elim) (Rel.go hn x fun a o m => k a o (List.mem_append_left _ m)) (RelD.go hn r fun a o m => k a o (List.mem_append_right _ m))
theorem RelK.go (hn : ∀ a o, H a = some o → ¬ B a → H' a = some o ∧ ¬ B' a) : ∀ {v : KEs} {p : List PV} {O : List Addr}, RelK P w B H v p O → (∀ a o, a ∈ O → H a = some o → H' a = some o) → RelK P w B' H' v p O
  | _, _, _, .nil, _ => .nil
  | _, _, _, .cons y e d x r, k => .cons (Rel.go hn y fun a o m => (List.not_mem_nil m).elim) e d (Rel.go hn x fun a o m => k a o (List.mem_append_left _ m)) (RelK.go hn r fun a o m => k a o (List.mem_append_right _ m))
end
/-! what is owned given up -/
mutual
theorem Rel.fz (hB : ∀ a, B' a → B a) : ∀ {v : V} {p : PV} {O : List Addr}, Rel P w B H v p O → (∀ a ∈ O, ¬ B' a) → Rel P w B' H v (fz p) []
  | _, _, _, .un, _ => .un
  | _, _, _, .non, _ => .non
  | _, _, _, .bl b, _ => .bl b
  | _, _, _, .int i, _ => .int i
  | _, _, _, .str x, _ => .str x
  | _, _, _, .tup n h r, k => .tup (fun q => n (hB _ q)) h (Rels.fz hB r k)
  | _, _, _, .lstF n h r, k => .lstF (fun q => n (hB _ q)) h (Rels.fz hB r k)
  | _, _, _, .lstO h r, k => .lstF (k _ List.mem_cons_self) h (Rels.fz hB r fun a m => k a (List.mem_cons_of_mem _ m))
  | _, _, _, .dctF n h r, k => .dctF (fun q => n (hB _ q)) h (RelD.fz hB r k)
  | _, _, _, .dctO h r, k => .dctF (k _ List.mem_cons_self) h (RelD.fz hB r fun a m => k a (List.mem_cons_of_mem _ m))
  | _, _, _, .dcuF n h r, k => .dcuF (fun q => n (hB _ q)) h (RelK.fz hB r k)
  | _, _, _, .dcuO h r, k => .dcuF (k _ List.mem_cons_self) (.inl h) (RelK.fz hB r fun a m => k a (List.mem_cons_of_mem _ m))
  | _, _, _, .ins n h e1 e2 r, k => .ins (fun q => n (hB _ q)) h e1 e2 (Rels.fz hB r k)
  | _, _, _, .exc n h e1 e2 r, k => .exc (fun q => n (hB _ q)) h e1 e2 (Rels.fz hB r k)
theorem Rels.fz (hB : ∀ a, B' a → B a) : ∀ {v : List V} {p : List PV} {O : List Addr}, Rels P w B H v p O → (∀ a ∈ O, ¬ B' a) → Rels P w B' H v (fzs p) []
  | _, _, _, .nil, _ => .nil
  | _, _, _, .cons x r, k => .cons (O := []) (O' := []) (Rel.fz hB x fun a m => k a (List.mem_append_left _ m)) (Rels.fz hB r fun a m => k a (List.mem_append_right _ m))
theorem RelD.fz (hB : ∀ a, B' a → B a) : ∀ {v : List (Key × V)} {p : List PV} {O : List Addr}, RelD P w B H v p O → (∀ a ∈ O, ¬ B' a) → RelD P w B' H v (fzs p) []
  | _, _, _, .nil, _ => .nil
  | _, _, _, .cons y x r, k => .cons (O := []) (O' := []) (Rel.fz hB y fun a m => (List.not_mem_nil m).elim) (Rel.fz hB x fun a m => k a (List.mem_append_left _ m)) (RelD.fz hB r fun a m => k a (List.mem_append_right _ m))
theorem RelK.fz (hB : ∀ a, B' a → B a) : ∀ {v : KEs} {p : List PV} {O : List Addr}, RelK P w B H v p O → (∀ a ∈ O, ¬ B' a) → RelK P w B' H v (fzs p) []
  | _, _, _, .nil, _ => .nil
  | _, _, _, .cons y e d x r, k => .cons (O := []) (O' := []) (Rel.fz hB y fun a m => (List.not_mem_nil m).elim) (by rw [fz_key e]; exact e) d (Rel.fz hB x fun a m => k a (List.mem_append_left _ m)) (RelK.fz hB r fun a m => k a (List.mem_append_right _ m))
end

/-! what owns nothing is as if frozen -/
mutual
theorem Rel.id : ∀ {v : V} {p : PV} {O : List Addr}, Rel P w B H v p O → O = [] → FL.fz p = p
  | _, _, _, .un, _ => rfl
  | _, _, _, .non, _ => rfl
  | _, _, _, .bl b, _ => rfl
  | _, _, _, .int i, _ => rfl
  | _, _, _, .str x, _ => rfl
  | _, _, _, .tup n h r, k => by rw [FL.fz, Rels.id r k]
  | _, _, _, .lstF n h r, k => by rw [FL.fz, Rels.id r rfl]
  | _, _, _, .lstO h r, k => nomatch k
  | _, _, _, .dctF n h r, k => by rw [FL.fz, RelD.id r rfl]
  | _, _, _, .dctO h r, k => nomatch k
  | _, _, _, .dcuF n h r, k => by rw [FL.fz, RelK.id r rfl]
  | _, _, _, .dcuO h r, k => nomatch k
  | _, _, _, .ins n h e1 e2 r, k => by rw [FL.fz, Rels.id r rfl]
  | _, _, _, .exc n h e1 e2 r, k => by rw [FL.fz, Rels.id r rfl]
theorem Rels.id : ∀ {v : List V} {p : List PV} {O : List Addr}, Rels P w B H v p O → O = [] → fzs p = p
  | _, _, _, .nil, _ => rfl
  | _, _, _, .cons x r, k => by rw [fzs, Rel.id x (List.append_eq_nil_iff.mp k).1, Rels.id r (List.append_eq_nil_iff.mp k).2]
theorem RelD.id : ∀ {v : List (Key × V)} {p : List PV} {O : List Addr}, RelD P w B H v p O → O = [] → fzs p = p
  | _, _, _, .nil, _ => rfl
  | _, _, _, .cons y x r, k => by rw [fzs, FL.fz, fzs, fzs, fzs, Rel.id y rfl, Rel.id x (List.append_eq_nil_iff.mp k).1, RelD.id r (List.append_eq_nil_iff.mp k).2]
theorem RelK.id : ∀ {v : KEs} {p : List PV} {O : List Addr}, RelK P w B H v p O → O = [] → fzs p = p
  | _, _, _, .nil, _ => rfl
  | _, _, _, .cons y e d x r, k => by rw [fzs, FL.fz, fzs, fzs, fzs, Rel.id y rfl, Rel.id x (List.append_eq_nil_iff.mp k).1, RelK.id r (List.append_eq_nil_iff.mp k).2]
end
mutual
theorem Rel.lt : ∀ {v : V} {p : PV} {O : List Addr}, Rel P w B H v p O → ∀ a ∈ O, ∃ o, H a = some o
  | _, _, _, .un, a, m => (List.not_mem_nil m).elim
  | _, _, _, .non, a, m => (List.not_mem_nil m).elim
  | _, _, _, .bl b, a, m => (List.not_mem_nil m).elim
  | _, _, _, .int i, a, m => (List.not_mem_nil m).elim
  | _, _, _, .str x, a, m => (List.not_mem_nil m).elim
  | _, _, _, .tup n h r, a, m => Rels.lt r a m
  | _, _, _, .lstF n h r, a, m => (List.not_mem_nil m).elim
  | _, _, _, .lstO h r, a, m => (List.mem_cons.mp m).elim (fun e => ⟨_, e ▸ h⟩) fun m => Rels.lt r a m
  | _, _, _, .dctF n h r, a, m => (List.not_mem_nil m).elim
  | _, _, _, .dctO h r, a, m => (List.mem_cons.mp m).elim (fun e => ⟨_, e ▸ h⟩) fun m => RelD.lt r a m
  | _, _, _, .dcuF n h r, a, m => (List.not_mem_nil m).elim
  | _, _, _, .dcuO h r, a, m => (List.mem_cons.mp m).elim (fun e => ⟨_, e ▸ h⟩) fun m => RelK.lt r a m
  | _, _, _, .ins n h e1 e2 r, a, m => (List.not_mem_nil m).elim
  | _, _, _, .exc n h e1 e2 r, a, m => (List.not_mem_nil m).elim
theorem Rels.lt : ∀ {v : List V} {p : List PV} {O : List Addr}, Rels P w B H v p O → ∀ a ∈ O, ∃ o, H a = some o
  | _, _, _, .nil, a, m => (List.not_mem_nil m).elim
  | _, _, _, .cons x r, a, m => (List.mem_append.mp m).elim (fun m => Rel.lt x a m) fun m => Rels.lt r a m
theorem RelD.lt : ∀ {v : List (Key × V)} {p : List PV} {O : List Addr}, RelD P w B H v p O → ∀ a ∈ O, ∃ o, H a = some o
  | _, _, _, .nil, a, m => (List.not_mem_nil m).elim
  | _, _, _, .cons y x r, a, m => (List.mem_append.mp m).elim (fun m => Rel.lt x a m) fun m => RelD.lt r a m
theorem RelK.lt : ∀ {v : KEs} {p : List PV} {O : List Addr}, RelK P w B H v p O → ∀ a ∈ O, ∃ o, H a = some o
  | _, _, _, .nil, a, m => (List.not_mem_nil m).elim
  | _, _, _, .cons y e d x r, a, m => (List.mem_append.mp m).elim (fun m => Rel.lt x a m) fun m => RelK.lt r a m
end
mutual
theorem Rel.nfz : ∀ {v : V} {p : PV} {O : List Addr}, Rel P w B H v p O → ∀ a ∈ O, ∀ ob u, H a ≠ some (.frz ob u)
  | _, _, _, .un, a, m => (List.not_mem_nil m).elim
  | _, _, _, .non, a, m => (List.not_mem_nil m).elim
  | _, _, _, .bl b, a, m => (List.not_mem_nil m).elim
  | _, _, _, .int i, a, m => (List.not_mem_nil m).elim
  | _, _, _, .str x, a, m => (List.not_mem_nil m).elim
  | _, _, _, .tup n h r, a, m => Rels.nfz r a m
  | _, _, _, .lstF n h r, a, m => (List.not_mem_nil m).elim
  | _, _, _, .lstO h r, a, m => (List.mem_cons.mp m).elim (fun e ob u z => by rw [e, h] at z; cases z) fun m => Rels.nfz r a m
  | _, _, _, .dctF n h r, a, m => (List.not_mem_nil m).elim
  | _, _, _, .dctO h r, a, m => (List.mem_cons.mp m).elim (fun e ob u z => by rw [e, h] at z; cases z) fun m => RelD.nfz r a m
  | _, _, _, .dcuF n h r, a, m => (List.not_mem_nil m).elim
  | _, _, _, .dcuO h r, a, m => (List.mem_cons.mp m).elim (fun e ob u z => by rw [e, h] at z; cases z) fun m => RelK.nfz r a m
  | _, _, _, .ins n h e1 e2 r, a, m => (List.not_mem_nil m).elim
  | _, _, _, .exc n h e1 e2 r, a, m => (List.not_mem_nil m).elim
theorem Rels.nfz : ∀ {v : List V} {p : List PV} {O : List Addr}, Rels P w B H v p O → ∀ a ∈ O, ∀ ob u, H a ≠ some (.frz ob u)
  | _, _, _, .nil, a, m => (List.not_mem_nil m).elim
  | _, _, _, .cons x r, a, m => (List.mem_append.mp m).elim (fun m => Rel.nfz x a m) fun m => Rels.nfz r a m
theorem RelD.nfz : ∀ {v : List (Key × V)} {p : List PV} {O : List Addr}, RelD P w B H v p O → ∀ a ∈ O, ∀ ob u, H a ≠ some (.frz ob u)
  | _, _, _, .nil, a, m => (List.not_mem_nil m).elim
  | _, _, _, .cons y x r, a, m => (List.mem_append.mp m).elim (fun m => Rel.nfz x a m) fun m => RelD.nfz r a m
theorem RelK.nfz : ∀ {v : KEs} {p : List PV} {O : List Addr}, RelK P w B H v p O → ∀ a ∈ O, ∀ ob u, H a ≠ some (.frz ob u)
  | _, _, _, .nil, a, m => (List.not_mem_nil m).elim
  | _, _, _, .cons y e d x r, a, m => (List.mem_append.mp m).elim (fun m => Rel.nfz x a m) fun m => RelK.nfz r a m
end
theorem Rels.len : ∀ {vs : List V} {ps : List PV} {O : List Addr}, Rels P w B H vs ps O → vs.length = ps.length
  | _, _, _, .nil => rfl
  | _, _, _, .cons _ r => congrArg Nat.succ (Rels.len r)
theorem Rels.append : ∀ {vs ws : List V} {ps qs : List PV} {O O' : List Addr}, Rels P w B H vs ps O → Rels P w B H ws qs O' → Rels P w B H (vs ++ ws) (ps ++ qs) (O ++ O')
  | _, _, _, _, _, _, .nil, s => s
  | _, _, _, _, _, _, .cons x r, s => by rw [List.append_assoc]; exact .cons x (Rels.append r s)
theorem Rels.one {v : V} {p : PV} {O : List Addr} (h : Rel P w B H v p O) : Rels P w B H [v] [p] O := by
  have := Rels.cons h (Rels.nil (P := P) (w := w) (B := B) (H := H))
  rwa [List.append_nil] at this
theorem Rels.one' {v : V} {p : PV} {O : List Addr} (h : Rels P w B H [v] [p] O) : Rel P w B H v p O := by
  cases h with
  | cons x r => cases r; rwa [List.append_nil]
theorem Rels.split : ∀ {vs ws : List V} {ps qs : List PV} {O : List Addr}, vs.length = ps.length → Rels P w B H (vs ++ ws) (ps ++ qs) O → ∃ O1 O2, O = O1 ++ O2 ∧ Rels P w B H vs ps O1 ∧ Rels P w B H ws qs O2
  | [], _, [], _, _, _, r => ⟨[], _, rfl, .nil, r⟩
  | [], _, _ :: _, _, _, h, _ => nomatch h
  | _ :: _, _, [], _, _, h, _ => nomatch h
  | _ :: vs, _, _ :: ps, _, _, h, r => by
    cases r with
    | cons x r =>
      obtain ⟨O1, O2, e, r1, r2⟩ := Rels.split (Nat.succ.inj h) r
      exact ⟨_, O2, by rw [e, List.append_assoc], .cons x r1, r2⟩
/-- items, owned or not, with what the others own -/
theorem Rels.at' : ∀ {vs : List V} {ps : List PV} {O : List Addr} {i : Nat} {p : PV}, Rels P w B H vs ps O → ps[i]? = some p → ∃ v Oi O', vs[i]? = some v ∧ Rel P w B H v p Oi ∧ O.Perm (Oi ++ O') ∧
    (∀ v' p' Oi', Rel P w B H v' p' Oi' → ∃ O'', O''.Perm (Oi' ++ O') ∧ Rels P w B H (vs.set i v') (ps.set i p') O'')
  | _, _, _, i, p, .nil, h => by simp at h
  | _, _, _, 0, p, .cons (v := v) (O := O) (O' := O') x r, h => by
    simp only [List.getElem?_cons_zero, Option.some.injEq] at h
    subst h
    exact ⟨v, O, O', rfl, x, .refl _, fun v' p' Oi' y => ⟨_, .refl _, .cons y r⟩⟩
  | _, _, _, i + 1, p, .cons (v := v) (O := O) (O' := O') x r, h => by
    obtain ⟨u, Oi, Or, h1, h2, h3, h4⟩ := Rels.at' (i := i) r (by simpa using h)
    refine ⟨u, Oi, O ++ Or, by simpa using h1, h2, ?_, fun v' p' Oi' y => ?_⟩
    · refine (h3.append_left O).trans ?_
      rw [← List.append_assoc, ← List.append_assoc]
      exact List.perm_append_comm.append_right _
    · obtain ⟨O2, p2, r2⟩ := h4 v' p' Oi' y
      refine ⟨O ++ O2, ?_, .cons x r2⟩
      refine (p2.append_left O).trans ?_
      rw [← List.append_assoc, ← List.append_assoc]
      exact List.perm_append_comm.append_right _
/-- an item, where nothing is owned -/
theorem Rels.get {vs : List V} {ps : List PV} {i : Nat} {p : PV} (r : Rels P w B H vs ps []) (h : ps[i]? = some p) : ∃ v, vs[i]? = some v ∧ Rel P w B H v p [] := by
  obtain ⟨v, Oi, O', h1, h2, h3, _⟩ := r.at' h
  have e := List.append_eq_nil_iff.mp (List.Perm.eq_nil h3.symm)
  rw [e.1] at h2
  exact ⟨v, h1, h2⟩
end
end FL

namespace FL
open PySem PySem.Spec PyProof.Rows L2
inductive RelS (P : Program) (w : World) (B : Addr → Prop) (H : Hp) : L2.St → List PV → List Addr → Prop
  | nil : RelS P w B H [] [] []
  | no {σ τ O} : RelS P w B H σ τ O → RelS P w B H (none :: σ) (.un :: τ) O
  | so {v σ p τ O O'} : Rel P w B H v p O → RelS P w B H σ τ O' → RelS P w B H (some v :: σ) (p :: τ) (O ++ O')
section
variable {P : Program} {w : World} {B B' : Addr → Prop} {H H' : Hp}
theorem RelS.go (hn : ∀ a o, H a = some o → ¬ B a → H' a = some o ∧ ¬ B' a) : ∀ {v : L2.St} {p : List PV} {O : List Addr}, RelS P w B H v p O → (∀ a o, a ∈ O → H a = some o → H' a = some o) → RelS P w B' H' v p O
  | _, _, _, .nil, _ => .nil
  | _, _, _, .no r, k => .no (RelS.go hn r k)
  | _, _, _, .so x r, k => .so (Rel.go hn x fun a o m => k a o (List.mem_append_left _ m)) (RelS.go hn r fun a o m => k a o (List.mem_append_right _ m))
theorem RelS.lt : ∀ {v : L2.St} {p : List PV} {O : List Addr}, RelS P w B H v p O → ∀ a ∈ O, ∃ o, H a = some o
  | _, _, _, .nil, a, m => (List.not_mem_nil m).elim
  | _, _, _, .no r, a, m => RelS.lt r a m
  | _, _, _, .so x r, a, m => (List.mem_append.mp m).elim (fun m => x.lt a m) fun m => RelS.lt r a m
theorem RelS.nfz : ∀ {v : L2.St} {p : List PV} {O : List Addr}, RelS P w B H v p O → ∀ a ∈ O, ∀ ob u, H a ≠ Option.some (.frz ob u)
  | _, _, _, .nil, a, m => (List.not_mem_nil m).elim
  | _, _, _, .no r, a, m => RelS.nfz r a m
  | _, _, _, .so x r, a, m => (List.mem_append.mp m).elim (fun m => x.nfz a m) fun m => RelS.nfz r a m
theorem RelS.len : ∀ {v : L2.St} {p : List PV} {O : List Addr}, RelS P w B H v p O → v.length = p.length
  | _, _, _, .nil => rfl
  | _, _, _, .no r => congrArg Nat.succ (RelS.len r)
  | _, _, _, .so _ r => congrArg Nat.succ (RelS.len r)
theorem perm_rot {O O' Oi Or : List Addr} (h : O'.Perm (Oi ++ Or)) : (O ++ O').Perm (Oi ++ (O ++ Or)) := by
  refine (h.append_left O).trans ?_
  rw [← List.append_assoc, ← List.append_assoc]
  exact List.perm_append_comm.append_right _
/-- a slot that holds something, emptied -/
theorem RelS.at : ∀ {σ : L2.St} {τ : List PV} {O : List Addr} {i : Nat} {p : PV}, RelS P w B H σ τ O → τ[i]? = some p → p ≠ .un → ∃ v Oi O', σ[i]? = some (some v) ∧ Rel P w B H v p Oi ∧ O.Perm (Oi ++ O') ∧ RelS P w B H σ (τ.set i .un) O'
  | _, _, _, i, p, .nil, h, _ => by simp at h
  | _, _, _, 0, p, .no r, h, n => by simp at h; exact absurd h.symm n
  | _, _, _, 0, p, .so (v := v) (O := O) (O' := O') x r, h, _ => by
    simp only [List.getElem?_cons_zero, Option.some.injEq] at h
    subst h
    exact ⟨v, O, O', rfl, x, .refl _, .so (O := []) .un r⟩
  | _, _, _, i + 1, p, .no r, h, n => by
    obtain ⟨u, Oi, Or, h1, h2, h3, h4⟩ := RelS.at (i := i) r (by simpa using h) n
    exact ⟨u, Oi, Or, by simpa using h1, h2, h3, .no h4⟩
  | _, _, _, i + 1, p, .so (v := v) (O := O) (O' := O') x r, h, n => by
    obtain ⟨u, Oi, Or, h1, h2, h3, h4⟩ := RelS.at (i := i) r (by simpa using h) n
    exact ⟨u, Oi, O ++ Or, by simpa using h1, h2, perm_rot h3, .so x h4⟩
/-- what a slot holds, whatever it is, given up -/
theorem RelS.drop : ∀ {σ : L2.St} {τ : List PV} {O : List Addr} (i : Nat), RelS P w B H σ τ O → ∃ Od O', O.Perm (Od ++ O') ∧ RelS P w B H σ (τ.set i .un) O'
  | _, _, _, i, .nil => ⟨[], [], .refl _, .nil⟩
  | _, _, _, 0, .no r => ⟨[], _, .refl _, .no r⟩
  | _, _, _, 0, .so (O := O) (O' := O') x r => ⟨O, O', .refl _, .so (O := []) .un r⟩
  | _, _, _, i + 1, .no r => let ⟨Od, O', h1, h2⟩ := RelS.drop i r; ⟨Od, O', h1, .no h2⟩
  | _, _, _, i + 1, .so (O := O) x r => let ⟨Od, O', h1, h2⟩ := RelS.drop i r; ⟨Od, O ++ O', perm_rot h1, .so x h2⟩
/-- an empty slot filled again -/
theorem RelS.fill : ∀ {σ : L2.St} {τ : List PV} {O : List Addr} {i : Nat} {v : V} {p : PV} {Oi : List Addr}, RelS P w B H σ τ O → τ[i]? = some .un → σ[i]? = some (some v) → Rel P w B H v p Oi → ∃ O', O'.Perm (Oi ++ O) ∧ RelS P w B H σ (τ.set i p) O'
  | _, _, _, i, _, _, _, .nil, h, _, _ => by simp at h
  | _, _, _, 0, _, _, _, .no r, h, h', _ => by simp at h'
  | _, _, _, 0, v, p, Oi, .so (O := O) (O' := O') x r, h, h', y => by
    simp only [List.getElem?_cons_zero, Option.some.injEq] at h h'
    subst h h'
    cases x
    exact ⟨_, .refl _, .so y r⟩
  | _, _, _, i + 1, _, _, _, .no r, h, h', y => by
    obtain ⟨O', h1, h2⟩ := RelS.fill (i := i) r (by simpa using h) (by simpa using h') y
    exact ⟨O', h1, .no h2⟩
  | _, _, _, i + 1, _, _, _, .so (O := O) x r, h, h', y => by
    obtain ⟨O', h1, h2⟩ := RelS.fill (i := i) r (by simpa using h) (by simpa using h') y
    exact ⟨O ++ O', perm_rot h1, .so x h2⟩
/-- an empty slot stored -/
theorem RelS.store : ∀ {σ : L2.St} {τ : List PV} {O : List Addr} {i : Nat} {v : V} {p : PV} {Oi : List Addr}, RelS P w B H σ τ O → τ[i]? = some .un → Rel P w B H v p Oi → ∃ O', O'.Perm (Oi ++ O) ∧ RelS P w B H (σ.set i (some v)) (τ.set i p) O'
  | _, _, _, i, _, _, _, .nil, h, _ => by simp at h
  | _, _, _, 0, _, _, _, .no r, h, y => ⟨_, .refl _, .so y r⟩
  | _, _, _, 0, v, p, Oi, .so (O := O) (O' := O') x r, h, y => by
    simp only [List.getElem?_cons_zero, Option.some.injEq] at h
    subst h
    cases x
    exact ⟨_, .refl _, .so y r⟩
  | _, _, _, i + 1, _, _, _, .no r, h, y => by
    obtain ⟨O', h1, h2⟩ := RelS.store (i := i) r (by simpa using h) y
    exact ⟨O', h1, .no h2⟩
  | _, _, _, i + 1, _, _, _, .so (O := O) x r, h, y => by
    obtain ⟨O', h1, h2⟩ := RelS.store (i := i) r (by simpa using h) y
    exact ⟨O ++ O', perm_rot h1, .so x h2⟩
end
/-! ### the state of a body that runs -/
/-- an exception: its class, its fields -/
structure Err where
  C : Addr
  fs : List Str
  ps : List PV
/-- the body's fixed data: H, B, I: the heap at the entry, what is owned by the callers, what came owned; E: what is wanted of exceptions -/
structure Bd where
  P : Program
  w : World
  K : PySem.W.Frag
  H : Hp
  B : Addr → Prop
  I : List Addr
  E : L2.St → XK
  np : Nat → Bool := fun _ => false
  pv : Nat → V := fun _ => .non
/-- the slots σ are τ, the values hv at hand are hp -/
def St0 (c : Bd) (σ : L2.St) (τ : List PV) (hv : List V) (hp : List PV) (H : Hp) : Prop :=
  ∃ (B : Addr → Prop) (O1 O2 : List Addr), RelS c.P c.w B H σ τ O1 ∧ Rels c.P c.w B H hv hp O2 ∧ (O1 ++ O2).Nodup ∧ (∀ a, B a ↔ c.B a ∨ a ∈ O1 ++ O2) ∧ (∀ a ∈ O1 ++ O2, ¬ c.B a ∧ (a ∈ c.I ∨ c.H a = none)) ∧
    (∀ a, c.B a → ∃ o, H a = some o) ∧ (∀ a o, c.H a = some o → a ∉ c.I → H a = some o)
section
variable {c : Bd} {σ : L2.St} {τ : List PV} {hv : List V} {hp : List PV} {H H' : Hp}
/-- more stands -/
theorem St0.same (s : St0 c σ τ hv hp H) (k : Same H H') : St0 c σ τ hv hp H' := by
  obtain ⟨B, O1, O2, r1, r2, nd, hb, ho, wf, fr⟩ := s
  have hn : ∀ a o, H a = some o → ¬ B a → H' a = some o ∧ ¬ B a := fun a o h n => ⟨k _ _ h, n⟩
  exact ⟨B, O1, O2, r1.go hn fun a o _ h => k _ _ h, r2.go hn fun a o _ h => k _ _ h, nd, hb, ho, fun a h => let ⟨o, z⟩ := wf a h; ⟨o, k _ _ z⟩, fun a o h n => k _ _ (fr a o h n)⟩
/-- other things told of the same heap; what is not held any more (Od) is given up -/
theorem St0.mk' {σ' : L2.St} {τ' : List PV} {hv' : List V} {hp' : List PV} {B : Addr → Prop} {O1 O2 O1' O2' Od : List Addr} (nd : (O1 ++ O2).Nodup) (hb : ∀ a, B a ↔ c.B a ∨ a ∈ O1 ++ O2) (ho : ∀ a ∈ O1 ++ O2, ¬ c.B a ∧ (a ∈ c.I ∨ c.H a = none))
    (wf : ∀ a, c.B a → ∃ o, H a = some o) (fr : ∀ a o, c.H a = some o → a ∉ c.I → H a = some o) (sl : RelS c.P c.w B H σ' τ' O1') (hd : Rels c.P c.w B H hv' hp' O2') (p : (O1 ++ O2).Perm (Od ++ (O1' ++ O2'))) : St0 c σ' τ' hv' hp' H := by
  have nd' := p.nodup_iff.mp nd
  obtain ⟨n1, n2, n3⟩ := List.nodup_append.mp nd'
  have sub : ∀ a, (c.B a ∨ a ∈ O1' ++ O2') → B a := fun a z => (hb a).mpr (z.imp id fun z => p.mem_iff.mpr (List.mem_append_right _ z))
  have hn : ∀ a o, H a = some o → ¬ B a → H a = some o ∧ ¬ (c.B a ∨ a ∈ O1' ++ O2') := fun a o h q => ⟨h, fun z => q (sub a z)⟩
  exact ⟨fun a => c.B a ∨ a ∈ O1' ++ O2', O1', O2', sl.go hn fun _ _ _ h => h, hd.go hn fun _ _ _ h => h, n2, fun a => Iff.rfl, fun a m => ho a (p.mem_iff.mpr (List.mem_append_right _ m)), wf, fr⟩
/-- a slot's thing taken -/
theorem St0.move {i : Nat} {p : PV} (s : St0 c σ τ hv hp H) (h : τ[i]? = some p) (n : p ≠ .un) : ∃ v, σ[i]? = some (some v) ∧ St0 c σ (τ.set i .un) (hv ++ [v]) (hp ++ [p]) H := by
  obtain ⟨B, O1, O2, r1, r2, nd, hb, ho, wf, fr⟩ := s
  obtain ⟨v, Oi, O', h1, h2, h3, h4⟩ := r1.at h n
  refine ⟨v, h1, .mk' (Od := []) nd hb ho wf fr h4 (r2.append (.one h2)) ?_⟩
  rw [List.nil_append]
  refine (h3.append_right O2).trans ?_
  rw [List.append_assoc]
  refine List.perm_append_comm.trans ?_
  rw [List.append_assoc]
/-- nothing at hand of some -/
theorem St0.drop {ws : List V} {qs : List PV} (s : St0 c σ τ (hv ++ ws) (hp ++ qs) H) (l : hv.length = hp.length) : St0 c σ τ hv hp H := by
  obtain ⟨B, O1, O2, r1, r2, nd, hb, ho, wf, fr⟩ := s
  obtain ⟨Oa, Ob, e, ra, rb⟩ := r2.split l
  subst e
  exact .mk' (Od := Ob) nd hb ho wf fr r1 ra (by rw [← List.append_assoc]; exact List.perm_append_comm)
/-- a slot forgotten -/
theorem St0.forget (s : St0 c σ τ hv hp H) (i : Nat) : St0 c σ (τ.set i .un) hv hp H := by
  obtain ⟨B, O1, O2, r1, r2, nd, hb, ho, wf, fr⟩ := s
  obtain ⟨Od, O', h1, h2⟩ := r1.drop i
  exact .mk' (Od := Od) nd hb ho wf fr h2 r2 (by rw [← List.append_assoc]; exact h1.append_right O2)
theorem St0.len (s : St0 c σ τ hv hp H) : hv.length = hp.length := by
  obtain ⟨B, O1, O2, r1, r2, _⟩ := s
  exact r2.len
theorem St0.lenS (s : St0 c σ τ hv hp H) : σ.length = τ.length := by
  obtain ⟨B, O1, O2, r1, r2, _⟩ := s
  exact r1.len
theorem St0.lenT {v : V} {p : PV} (s : St0 c σ τ (hv ++ [v]) (hp ++ [p]) H) : hv.length = hp.length := by
  have := s.len
  simpa using this
/-- the last thing at hand stored in a slot -/
theorem St0.store {i : Nat} {v : V} {p : PV} (s : St0 c σ τ (hv ++ [v]) (hp ++ [p]) H) (hi : i < τ.length) : St0 c (σ.set i (some v)) (τ.set i p) hv hp H := by
  obtain ⟨B, O1, O2, r1, r2, nd, hb, ho, wf, fr⟩ := s.forget i
  obtain ⟨Oa, Ob, e, ra, rb⟩ := r2.split s.lenT
  subst e
  obtain ⟨O', p1, r⟩ := r1.store (i := i) (by rw [List.getElem?_set_self hi]) rb.one'
  rw [List.set_set] at r
  refine .mk' (Od := []) nd hb ho wf fr r ra ?_
  rw [List.nil_append]
  refine List.Perm.trans ?_ (p1.append_right Oa).symm
  rw [← List.append_assoc]
  refine List.perm_append_comm.trans ?_
  rw [← List.append_assoc]
/-- the last thing at hand back into the slot that holds the same value -/
theorem St0.back {i : Nat} {v : V} {p : PV} (s : St0 c σ τ (hv ++ [v]) (hp ++ [p]) H) (h : τ[i]? = some .un) (hs : σ[i]? = some (some v)) : St0 c σ (τ.set i p) hv hp H := by
  have hi := (List.getElem?_eq_some_iff.mp h).1
  have z := s.store hi
  have e : σ.set i (some v) = σ := by
    obtain ⟨l, e⟩ := List.getElem?_eq_some_iff.mp hs
    rw [← e, List.set_getElem_self]
  rwa [e] at z
mutual
theorem Rel.nil_of {P : Program} {w : World} {B : Addr → Prop} {H : Hp} : ∀ {v : V} {p : PV} {O : List Addr}, Rel P w B H v p O → FL.fz p = p → O = []
  | _, _, _, .un, _ => rfl
  | _, _, _, .non, _ => rfl
  | _, _, _, .bl b, _ => rfl
  | _, _, _, .int i, _ => rfl
  | _, _, _, .str x, _ => rfl
  | _, _, _, .tup n h r, k => Rels.nil_of r (by rw [FL.fz] at k; injection k)
  | _, _, _, .lstF n h r, k => rfl
  | _, _, _, .lstO h r, k => by rw [FL.fz] at k; injection k with k; cases k
  | _, _, _, .dctF n h r, k => rfl
  | _, _, _, .dctO h r, k => by rw [FL.fz] at k; injection k with k; cases k
  | _, _, _, .dcuF n h r, k => rfl
  | _, _, _, .dcuO h r, k => by rw [FL.fz] at k; injection k with k; cases k
  | _, _, _, .ins n h e1 e2 r, k => rfl
  | _, _, _, .exc n h e1 e2 r, k => rfl
theorem Rels.nil_of {P : Program} {w : World} {B : Addr → Prop} {H : Hp} : ∀ {v : List V} {p : List PV} {O : List Addr}, Rels P w B H v p O → fzs p = p → O = []
  | _, _, _, .nil, _ => rfl
  | _, _, _, .cons x r, k => by
    rw [fzs] at k
    injection k with k1 k2
    rw [Rel.nil_of x k1, Rels.nil_of r k2]
    rfl
end
theorem St0.copy {v : V} {p : PV} (s : St0 c σ τ (hv ++ [v]) (hp ++ [p]) H) (e : fz p = p) : St0 c σ τ (hv ++ [v] ++ [v]) (hp ++ [p] ++ [p]) H := by
  have l := s.lenT
  obtain ⟨B, O1, O2, r1, r2, nd, hb, ho, wf, fr⟩ := s
  obtain ⟨Oa, Ob, e2, ra, rb⟩ := r2.split l
  subst e2
  have y := rb.one'
  have z := y.nil_of e
  subst z
  exact .mk' (Od := []) nd hb ho wf fr r1 (r2.append (.one y)) (by simp)
/-- the last thing at hand given up -/
theorem St0.froze {v : V} {p : PV} (s : St0 c σ τ (hv ++ [v]) (hp ++ [p]) H) : St0 c σ τ (hv ++ [v]) (hp ++ [fz p]) H := by
  have l := s.lenT
  obtain ⟨B, O1, O2, r1, r2, nd, hb, ho, wf, fr⟩ := s
  obtain ⟨Oa, Ob, e2, ra, rb⟩ := r2.split l
  subst e2
  have pm : (O1 ++ (Oa ++ Ob)).Perm (Ob ++ (O1 ++ Oa)) := by rw [← List.append_assoc]; exact List.perm_append_comm
  have nd' := pm.nodup_iff.mp nd
  obtain ⟨n1, n2, n3⟩ := List.nodup_append.mp nd'
  have sub : ∀ a, (c.B a ∨ a ∈ O1 ++ Oa) → B a := fun a z => (hb a).mpr (z.imp id fun z => pm.mem_iff.mpr (List.mem_append_right _ z))
  have hn : ∀ a o, H a = some o → ¬ B a → H a = some o ∧ ¬ (c.B a ∨ a ∈ O1 ++ Oa) := fun a o h q => ⟨h, fun z => q (sub a z)⟩
  have y := rb.one'.fz (B' := fun a => c.B a ∨ a ∈ O1 ++ Oa) sub fun a m z => z.elim (ho a (pm.mem_iff.mpr (List.mem_append_left _ m))).1 fun z => n3 a m a z rfl
  refine ⟨fun a => c.B a ∨ a ∈ O1 ++ Oa, O1, Oa ++ [], r1.go hn fun _ _ _ h => h, (ra.go hn fun _ _ _ h => h).append (.one y), ?_, fun a => by rw [List.append_nil], fun a m => ho a (pm.mem_iff.mpr (List.mem_append_right _ (by rwa [List.append_nil] at m))), wf, fr⟩
  rw [List.append_nil]
  exact n2
/-- a slot read: what it holds is given up -/
theorem St0.read {i : Nat} {p : PV} (s : St0 c σ τ hv hp H) (h : τ[i]? = some p) (n : p ≠ .un) : ∃ v, σ[i]? = some (some v) ∧ St0 c σ (τ.set i (fz p)) (hv ++ [v]) (hp ++ [fz p]) H := by
  obtain ⟨v, hs, s1⟩ := s.move h n
  have hi := (List.getElem?_eq_some_iff.mp h).1
  have s2 := (s1.froze.copy (fz_fz p)).back (i := i) (by rw [List.getElem?_set_self hi]) hs
  rw [List.set_set] at s2
  exact ⟨v, hs, s2⟩
/-- a new object made of the last things at hand, own: owned -/
theorem St0.made {xs : List V} {ps : List PV} {q : Addr} (own : Bool) (o : HO) (p' : PV) (s : St0 c σ τ (hv ++ xs) (hp ++ ps) H) (l : hv.length = hp.length) (n : H q = none)
    (mk : ∀ (B' : Addr → Prop) (Ob : List Addr), (own = false → ¬ B' q) → Rels c.P c.w B' (upd H q o) xs ps Ob → Rel c.P c.w B' (upd H q o) (.ref q) p' ((if own = true then [q] else []) ++ Ob)) : St0 c σ τ (hv ++ [.ref q]) (hp ++ [p']) (upd H q o) := by
  obtain ⟨B, O1, O2, r1, r2, nd, hb, ho, wf, fr⟩ := s
  obtain ⟨Oa, Ob, e2, ra, rb⟩ := r2.split l
  subst e2
  have k : Same H (upd H q o) := HK.Same.new n
  have nq : ∀ a u, H a = some u → a ≠ q := fun a u h z => by subst z; rw [n] at h; cases h
  have kk : ∀ {O : List Addr} (a : Addr) (u : HO), a ∈ O → H a = some u → upd H q o a = some u := fun a u _ h => k _ _ h
  have all : ∀ a ∈ O1 ++ (Oa ++ Ob), a ≠ q := fun a m => by
    rcases List.mem_append.mp m with m | m
    · obtain ⟨u, h⟩ := r1.lt a m; exact nq a u h
    · obtain ⟨u, h⟩ := r2.lt a m; exact nq a u h
  have hq : ¬ c.B q ∧ (q ∈ c.I ∨ c.H q = none) := by
    refine ⟨fun z => ?_, ?_⟩
    · obtain ⟨u, h⟩ := wf q z
      rw [n] at h
      cases h
    · cases e : c.H q with
      | none => exact .inr rfl
      | some u =>
        refine .inl (Classical.byContradiction fun z => ?_)
        rw [fr q u e z] at n
        cases n
  cases own with
  | false =>
    have nb : ¬ B q := fun z => by
      rcases (hb q).mp z with z | z
      · exact hq.1 z
      · exact all q z rfl
    have hn : ∀ a u, H a = some u → ¬ B a → upd H q o a = some u ∧ ¬ B a := fun a u h z => ⟨k _ _ h, z⟩
    exact ⟨B, O1, Oa ++ ([] ++ Ob), r1.go hn kk, (ra.go hn kk).append (.one (mk B Ob (fun _ => nb) (rb.go hn kk))), nd, hb, ho, fun a h => let ⟨u, z⟩ := wf a h; ⟨u, k _ _ z⟩, fun a u h z => k _ _ (fr a u h z)⟩
  | true =>
    have hn : ∀ a u, H a = some u → ¬ B a → upd H q o a = some u ∧ ¬ (B a ∨ a = q) := fun a u h z => ⟨k _ _ h, fun y => y.elim z (nq a u h)⟩
    have pm : (O1 ++ (Oa ++ ([q] ++ Ob))).Perm (q :: (O1 ++ (Oa ++ Ob))) := by
      rw [List.singleton_append, ← List.append_assoc, ← List.append_assoc]
      exact List.perm_middle
    refine ⟨fun a => B a ∨ a = q, O1, Oa ++ ([q] ++ Ob), r1.go hn kk, (ra.go hn kk).append (.one (mk _ Ob (fun z => nomatch z) (rb.go hn kk))), ?_, fun a => ?_, fun a m => ?_, fun a h => let ⟨u, z⟩ := wf a h; ⟨u, k _ _ z⟩, fun a u h z => k _ _ (fr a u h z)⟩
    · exact pm.nodup_iff.mpr (List.nodup_cons.mpr ⟨fun m => all q m rfl, nd⟩)
    · show B a ∨ a = q ↔ _
      rw [pm.mem_iff, List.mem_cons, hb a]
      constructor
      · rintro ((h | h) | h)
        · exact .inl h
        · exact .inr (.inr h)
        · exact .inr (.inl h)
      · rintro (h | h | h)
        · exact .inl (.inl h)
        · exact .inr h
        · exact .inl (.inr h)
    · rcases List.mem_cons.mp (pm.mem_iff.mp m) with e | m
      · subst e; exact hq
      · exact ho a m
theorem St0.newL {xs : List V} {ps : List PV} {q : Addr} (s : St0 c σ τ (hv ++ xs) (hp ++ ps) H) (l : hv.length = hp.length) (n : H q = none) : St0 c σ τ (hv ++ [.ref q]) (hp ++ [.lst true ps]) (upd H q (.lst xs)) :=
  s.made true _ _ l n fun B' Ob _ r => .lstO upd_same r
theorem St0.newT {xs : List V} {ps : List PV} {q : Addr} (s : St0 c σ τ (hv ++ xs) (hp ++ ps) H) (l : hv.length = hp.length) (n : H q = none) : St0 c σ τ (hv ++ [.ref q]) (hp ++ [.tup ps]) (upd H q (.tup xs)) :=
  s.made false _ _ l n fun B' Ob nb r => .tup (nb rfl) upd_same r
/-- the last thing at hand seen: what it is -/
theorem St0.top {v : V} {p : PV} (s : St0 c σ τ (hv ++ [v]) (hp ++ [p]) H) : ∃ B O, Rel c.P c.w B H v p O := by
  have l := s.lenT
  obtain ⟨B, O1, O2, r1, r2, nd, hb, ho, wf, fr⟩ := s
  obtain ⟨Oa, Ob, e2, ra, rb⟩ := r2.split l
  exact ⟨B, Ob, rb.one'⟩
/-- the last thing at hand replaced by things of the same owners -/
theorem St0.part {vs ws : List V} {ps qs : List PV} (s : St0 c σ τ (hv ++ vs) (hp ++ ps) H) (l : hv.length = hp.length) (k : ∀ B O, Rels c.P c.w B H vs ps O → ∃ Od O', O.Perm (Od ++ O') ∧ Rels c.P c.w B H ws qs O') : St0 c σ τ (hv ++ ws) (hp ++ qs) H := by
  obtain ⟨B, O1, O2, r1, r2, nd, hb, ho, wf, fr⟩ := s
  obtain ⟨Oa, Ob, e2, ra, rb⟩ := r2.split l
  subst e2
  obtain ⟨Od, O', p, r⟩ := k B Ob rb
  refine .mk' (Od := Od) nd hb ho wf fr r1 (ra.append r) ?_
  refine ((p.append_left Oa).append_left O1).trans ?_
  rw [← List.append_assoc, ← List.append_assoc, ← List.append_assoc O1 Oa]
  refine (List.perm_append_comm.append_right O').trans ?_
  rw [List.append_assoc]
/-- an owned object at a changed, with what is at hand behind it -/
theorem St0.write {IN OUT : (Addr → Prop) → Hp → List Addr → Prop} {a : Addr} {o : HO} {p p' : PV} {ys : List V} {qs : List PV} (s : St0 c σ τ (hv ++ (.ref a :: ys)) (hp ++ (p :: qs)) H) (l : hv.length = hp.length)
    (opn : ∀ B O, Rel c.P c.w B H (.ref a) p O → ∃ Oi, O = a :: Oi ∧ IN B H Oi) (go : ∀ B H' O, (∀ b u, H b = some u → ¬ B b → H' b = some u ∧ ¬ B b) → (∀ b u, b ∈ O → H b = some u → H' b = some u) → IN B H O → IN B H' O)
    (k : ∀ B H' O1 O2, IN B H' O1 → Rels c.P c.w B H' ys qs O2 → ∃ Od O', (O1 ++ O2).Perm (Od ++ O') ∧ OUT B H' O') (cls : ∀ B H' O, H' a = some o → OUT B H' O → Rel c.P c.w B H' (.ref a) p' (a :: O)) : St0 c σ τ (hv ++ [.ref a]) (hp ++ [p']) (upd H a o) := by
  obtain ⟨B, O1, O2, r1, r2, nd, hb, ho, wf, fr⟩ := s
  obtain ⟨Oa, Ob, e2, ra, rb⟩ := r2.split l
  subst e2
  cases rb with
  | @cons _ _ _ _ O O' x y =>
  obtain ⟨Oi, e, z⟩ := opn B O x
  subst e
  have pm : (O1 ++ (Oa ++ (a :: Oi ++ O'))).Perm (a :: (O1 ++ (Oa ++ (Oi ++ O')))) := by
    rw [List.cons_append, ← List.append_assoc, ← List.append_assoc]
    exact List.perm_middle
  have nd' := pm.nodup_iff.mp nd
  obtain ⟨na, nd2⟩ := List.nodup_cons.mp nd'
  have ma : a ∈ O1 ++ (Oa ++ (a :: Oi ++ O')) := pm.mem_iff.mpr List.mem_cons_self
  have hBa : B a := (hb a).mpr (.inr ma)
  have hn : ∀ b u, H b = some u → ¬ B b → upd H a o b = some u ∧ ¬ B b := fun b u h n => ⟨(upd_ne (fun e : b = a => n (e ▸ hBa))).trans h, n⟩
  have kk : ∀ {O : List Addr}, a ∉ O → ∀ (b : Addr) (u : HO), b ∈ O → H b = some u → upd H a o b = some u := fun n b u m h => (upd_ne (fun e : b = a => n (e ▸ m))).trans h
  have n1 : a ∉ O1 := fun m => na (List.mem_append_left _ m)
  have n2 : a ∉ Oa := fun m => na (List.mem_append_right _ (List.mem_append_left _ m))
  have n3 : a ∉ Oi ++ O' := fun m => na (List.mem_append_right _ (List.mem_append_right _ m))
  obtain ⟨Od, On, p, r⟩ := k B (upd H a o) Oi O' (go B _ Oi hn (kk fun m => n3 (List.mem_append_left _ m)) z) (y.go hn (kk fun m => n3 (List.mem_append_right _ m)))
  refine .mk' (B := B) (O1 := O1) (O2 := Oa ++ (a :: Oi ++ O')) (Od := Od) nd hb ho (fun b h => ?_) (fun b u h n => ?_) (r1.go hn (kk n1)) ((ra.go hn (kk n2)).append (.one (cls B _ On upd_same r))) ?_
  · obtain ⟨u, q⟩ := wf b h
    exact ⟨u, (upd_ne (fun e : b = a => (ho a ma).1 (e ▸ h))).trans q⟩
  · have q := fr b u h n
    refine Eq.trans (upd_ne fun e => ?_) q
    rcases (ho a ma).2 with z | z
    · exact n (e ▸ z)
    · rw [e, z] at h; cases h
  · refine pm.trans ?_
    refine ((((p.append_left Oa).append_left O1)).cons a).trans ?_
    have e : a :: (O1 ++ (Oa ++ (Od ++ On))) = (a :: (O1 ++ Oa)) ++ (Od ++ On) := by simp
    rw [e]
    have e3 : Od ++ (O1 ++ (Oa ++ (a :: On))) = Od ++ ((O1 ++ Oa) ++ a :: On) := by simp
    rw [e3, ← List.append_assoc]
    refine (List.perm_append_comm.append_right On).trans ?_
    rw [List.append_assoc]
    refine List.Perm.append_left Od ?_
    exact List.perm_middle.symm
/-- an owned list changed -/
theorem St0.writeL {a : Addr} {xs ys zs : List V} {ps qs rs : List PV} (s : St0 c σ τ (hv ++ (.ref a :: ys)) (hp ++ (.lst true ps :: qs)) H) (l : hv.length = hp.length) (hx : H a = some (.lst xs))
    (k : ∀ B H' O, Rels c.P c.w B H' (xs ++ ys) (ps ++ qs) O → ∃ Od O', O.Perm (Od ++ O') ∧ Rels c.P c.w B H' zs rs O') : St0 c σ τ (hv ++ [.ref a]) (hp ++ [.lst true rs]) (upd H a (.lst zs)) :=
  s.write (IN := fun B H O => Rels c.P c.w B H xs ps O) (OUT := fun B H O => Rels c.P c.w B H zs rs O) l (fun B O r => by
    cases r with
    | lstO h r => rw [hx] at h; cases h; exact ⟨_, rfl, r⟩) (fun B H' O hn h r => r.go hn h) (fun B H' O1 O2 r q => k B H' _ (r.append q)) fun B H' O h r => .lstO h r
end
/-- the slots of what came owned hold what they held -/
def Pin (c : Bd) (σ : L2.St) : Prop := ∀ i, c.np i = true → σ[i]? = some (some (c.pv i))
def Stt (c : Bd) (σ : L2.St) (τ : List PV) (hv : List V) (hp : List PV) (H : Hp) : Prop := St0 c σ τ hv hp H ∧ Pin c σ ∧ HK.Mk H
section
variable {c : Bd} {σ : L2.St} {τ : List PV} {hv : List V} {hp : List PV} {H H' : Hp}
theorem Stt.same (s : Stt c σ τ hv hp H) (k : Same H H') : Stt c σ τ hv hp H' := ⟨s.1.same k, s.2.1, s.2.2.same k⟩
theorem Stt.move {i : Nat} {p : PV} (s : Stt c σ τ hv hp H) (h : τ[i]? = some p) (n : p ≠ .un) : ∃ v, σ[i]? = some (some v) ∧ Stt c σ (τ.set i .un) (hv ++ [v]) (hp ++ [p]) H := let ⟨v, a, b⟩ := s.1.move h n; ⟨v, a, b, s.2⟩
theorem Stt.drop {ws : List V} {qs : List PV} (s : Stt c σ τ (hv ++ ws) (hp ++ qs) H) (l : hv.length = hp.length) : Stt c σ τ hv hp H := ⟨s.1.drop l, s.2⟩
theorem Stt.forget (s : Stt c σ τ hv hp H) (i : Nat) : Stt c σ (τ.set i .un) hv hp H := ⟨s.1.forget i, s.2⟩
theorem Stt.len (s : Stt c σ τ hv hp H) : hv.length = hp.length := s.1.len
theorem Stt.lenS (s : Stt c σ τ hv hp H) : σ.length = τ.length := s.1.lenS
theorem Stt.lenT {v : V} {p : PV} (s : Stt c σ τ (hv ++ [v]) (hp ++ [p]) H) : hv.length = hp.length := s.1.lenT
theorem Pin.set {i : Nat} {v : Option V} (s : Pin c σ) (n : c.np i = false) : Pin c (σ.set i v) := fun j h => by
  rw [List.getElem?_set_ne (fun e => by subst e; rw [n] at h; cases h)]
  exact s j h
theorem Stt.store {i : Nat} {v : V} {p : PV} (s : Stt c σ τ (hv ++ [v]) (hp ++ [p]) H) (hi : i < τ.length) (n : c.np i = false) : Stt c (σ.set i (some v)) (τ.set i p) hv hp H := ⟨s.1.store hi, s.2.1.set n, s.2.2⟩
theorem Stt.back {i : Nat} {v : V} {p : PV} (s : Stt c σ τ (hv ++ [v]) (hp ++ [p]) H) (h : τ[i]? = some .un) (hs : σ[i]? = some (some v)) : Stt c σ (τ.set i p) hv hp H := ⟨s.1.back h hs, s.2⟩
theorem Stt.copy {v : V} {p : PV} (s : Stt c σ τ (hv ++ [v]) (hp ++ [p]) H) (e : fz p = p) : Stt c σ τ (hv ++ [v] ++ [v]) (hp ++ [p] ++ [p]) H := ⟨s.1.copy e, s.2⟩
theorem Stt.froze {v : V} {p : PV} (s : Stt c σ τ (hv ++ [v]) (hp ++ [p]) H) : Stt c σ τ (hv ++ [v]) (hp ++ [fz p]) H := ⟨s.1.froze, s.2⟩
theorem Stt.read {i : Nat} {p : PV} (s : Stt c σ τ hv hp H) (h : τ[i]? = some p) (n : p ≠ .un) : ∃ v, σ[i]? = some (some v) ∧ Stt c σ (τ.set i (fz p)) (hv ++ [v]) (hp ++ [fz p]) H := let ⟨v, a, b⟩ := s.1.read h n; ⟨v, a, b, s.2⟩
theorem Stt.made {xs : List V} {ps : List PV} {q : Addr} (own : Bool) (o : HO) (p' : PV) (s : Stt c σ τ (hv ++ xs) (hp ++ ps) H) (l : hv.length = hp.length) (n : H q = none)
    (mk : ∀ (B' : Addr → Prop) (Ob : List Addr), (own = false → ¬ B' q) → Rels c.P c.w B' (upd H q o) xs ps Ob → Rel c.P c.w B' (upd H q o) (.ref q) p' ((if own = true then [q] else []) ++ Ob)) : Stt c σ τ (hv ++ [.ref q]) (hp ++ [p']) (upd H q o) := ⟨s.1.made own o p' l n mk, s.2.1, s.2.2.same (HK.Same.new n)⟩
theorem Stt.newL {xs : List V} {ps : List PV} {q : Addr} (s : Stt c σ τ (hv ++ xs) (hp ++ ps) H) (l : hv.length = hp.length) (n : H q = none) : Stt c σ τ (hv ++ [.ref q]) (hp ++ [.lst true ps]) (upd H q (.lst xs)) := ⟨s.1.newL l n, s.2.1, s.2.2.same (HK.Same.new n)⟩
theorem Stt.newT {xs : List V} {ps : List PV} {q : Addr} (s : Stt c σ τ (hv ++ xs) (hp ++ ps) H) (l : hv.length = hp.length) (n : H q = none) : Stt c σ τ (hv ++ [.ref q]) (hp ++ [.tup ps]) (upd H q (.tup xs)) := ⟨s.1.newT l n, s.2.1, s.2.2.same (HK.Same.new n)⟩
theorem Stt.top {v : V} {p : PV} (s : Stt c σ τ (hv ++ [v]) (hp ++ [p]) H) : ∃ B O, Rel c.P c.w B H v p O := s.1.top
theorem Stt.part {vs ws : List V} {ps qs : List PV} (s : Stt c σ τ (hv ++ vs) (hp ++ ps) H) (l : hv.length = hp.length) (k : ∀ B O, Rels c.P c.w B H vs ps O → ∃ Od O', O.Perm (Od ++ O') ∧ Rels c.P c.w B H ws qs O') : Stt c σ τ (hv ++ ws) (hp ++ qs) H := ⟨s.1.part l k, s.2⟩
theorem Stt.write {IN OUT : (Addr → Prop) → Hp → List Addr → Prop} {a : Addr} {o : HO} {p p' : PV} {ys : List V} {qs : List PV} (s : Stt c σ τ (hv ++ (.ref a :: ys)) (hp ++ (p :: qs)) H) (l : hv.length = hp.length)
    (opn : ∀ B O, Rel c.P c.w B H (.ref a) p O → ∃ Oi, O = a :: Oi ∧ IN B H Oi) (go : ∀ B H' O, (∀ b u, H b = some u → ¬ B b → H' b = some u ∧ ¬ B b) → (∀ b u, b ∈ O → H b = some u → H' b = some u) → IN B H O → IN B H' O)
    (k : ∀ B H' O1 O2, IN B H' O1 → Rels c.P c.w B H' ys qs O2 → ∃ Od O', (O1 ++ O2).Perm (Od ++ O') ∧ OUT B H' O') (cls : ∀ B H' O, H' a = some o → OUT B H' O → Rel c.P c.w B H' (.ref a) p' (a :: O)) : Stt c σ τ (hv ++ [.ref a]) (hp ++ [p']) (upd H a o) := by
  refine ⟨s.1.write l opn go k cls, s.2.1, ?_⟩
  obtain ⟨⟨B, O1, O2, r1, r2, _⟩, _, ob, u, hm⟩ := s
  obtain ⟨Oa, Ob, e2, ra, rb⟩ := r2.split l
  cases rb with
  | @cons _ _ _ _ O O' x y =>
  obtain ⟨Oi, e, z⟩ := opn B O x
  refine ⟨ob, u, (upd_ne fun q => ?_).trans hm⟩
  exact x.nfz a (by rw [e]; exact List.mem_cons_self) ob u (q ▸ hm)
theorem Stt.writeL {a : Addr} {xs ys zs : List V} {ps qs rs : List PV} (s : Stt c σ τ (hv ++ (.ref a :: ys)) (hp ++ (.lst true ps :: qs)) H) (l : hv.length = hp.length) (hx : H a = some (.lst xs))
    (k : ∀ B H' O, Rels c.P c.w B H' (xs ++ ys) (ps ++ qs) O → ∃ Od O', O.Perm (Od ++ O') ∧ Rels c.P c.w B H' zs rs O') : Stt c σ τ (hv ++ [.ref a]) (hp ++ [.lst true rs]) (upd H a (.lst zs)) := s.write (IN := fun B H O => Rels c.P c.w B H xs ps O) (OUT := fun B H O => Rels c.P c.w B H zs rs O) l (fun B O r => by
    cases r with
    | lstO h r => rw [hx] at h; cases h; exact ⟨_, rfl, r⟩) (fun B H' O hn h r => r.go hn h) (fun B H' O1 O2 r q => k B H' _ (r.append q)) fun B H' O h r => .lstO h r
/-- the last things at hand in another order -/
theorem Stt.swap {v u : V} {p q : PV} (s : Stt c σ τ (hv ++ [v] ++ [u]) (hp ++ [p] ++ [q]) H) : Stt c σ τ (hv ++ [u] ++ [v]) (hp ++ [q] ++ [p]) H := by
  have l : hv.length = hp.length := by have := s.len; simpa using this
  rw [List.append_assoc, List.append_assoc] at s ⊢
  refine s.part l fun B O r => ?_
  cases r with
  | cons x r =>
    cases r with
    | cons y r =>
      cases r
      exact ⟨[], _, by simpa using List.perm_append_comm, .cons y (.cons x .nil)⟩
end
end FL

namespace FL
open PySem PySem.Spec PyProof.Rows L2
abbrev En := List PV
inductive Rs (α : Type) where
  | ok (a : α)
  | err (e : Err) (τ : En)
  | no
def bnd {α β : Type} (r : Rs α) (f : α → Rs β) : Rs β := match r with
  | .ok a => f a
  | .err e τ => .err e τ
  | .no => .no
@[simp] theorem bnd_ok {α β : Type} (a : α) (f : α → Rs β) : bnd (.ok a) f = f a := rfl
@[simp] theorem bnd_err {α β : Type} (e : Err) (τ : En) (f : α → Rs β) : bnd (.err e τ) f = .err e τ := rfl
@[simp] theorem bnd_no {α β : Type} (f : α → Rs β) : bnd .no f = .no := rfl
def opt {α : Type} (o : Option α) (τ : En) : Rs (α × En) := match o with
  | some z => .ok (z, τ)
  | none => .no
@[simp] theorem opt_some {α : Type} (a : α) (τ : En) : opt (some a) τ = .ok (a, τ) := rfl
@[simp] theorem opt_none {α : Type} (τ : En) : opt (none : Option α) τ = .no := rfl
/-- raised: the error's dict at d, its fields' values at hand -/
def Raised (c : Bd) (σ : L2.St) (τ : En) (e : Err) (d : Addr) (H : Hp) : Prop := ∃ xs, H d = some (.xd (e.fs.zip xs)) ∧ e.fs.length = xs.length ∧ Stt c σ τ xs e.ps H
def Aft {α : Type} (c : Bd) (S : L2.St → Prop) (r : Rs α) (Q : α → Prop) : Prop := match r with
  | .ok a => Q a
  | .err e τ => ∀ σ d H, S σ → Raised c σ τ e d H → c.E σ (.ref e.C) (some d) H
  | .no => False
theorem aft_mono {α : Type} {c : Bd} {S S' : L2.St → Prop} {r : Rs α} {Q Q' : α → Prop} (h : Aft c S r Q) (k : ∀ a, Q a → Q' a) (l : ∀ σ, S' σ → S σ := by exact fun _ h => h) : Aft c S' r Q' := by
  cases r with
  | ok a => exact k a h
  | err e τ => exact fun σ d H s => h σ d H (l σ s)
  | no => exact h
/-- an expression -/
def ME (c : Bd) (t : TE) (f : En → Rs (PV × En)) : Prop := ∀ σ τ hv hp H Q, Stt c σ τ hv hp H → Aft c (· = σ) (f τ) (fun r => ∀ v H', Stt c σ r.2 (hv ++ [v]) (hp ++ [r.1]) H' → Q v H') → t σ H Q
/-- a test -/
def MT (c : Bd) (t : TT) (f : En → Rs (Bool × En)) : Prop := ∀ σ τ hv hp H Q, Stt c σ τ hv hp H → Aft c (· = σ) (f τ) (fun r => ∀ H', Stt c σ r.2 hv hp H' → Q r.1 H') → t σ H Q
/-- arguments -/
def MA (c : Bd) (t : TA) (f : En → Rs (List PV × En)) : Prop := ∀ σ τ hv hp H Q, Stt c σ τ hv hp H → Aft c (· = σ) (f τ) (fun r => ∀ vs H', Stt c σ r.2 (hv ++ vs) (hp ++ r.1) H' → Q vs H') → t σ H Q
inductive Fl where
  | nx (τ : En)
  | rt (p : PV) (τ : En)
  | bk (τ : En)
  | ct (τ : En)
/-- what is wanted behind a statement -/
def FlOk (c : Bd) (hv : List V) (hp : List PV) (D : Ends) : Fl → Prop
  | .nx τ => ∀ σ H, Stt c σ τ hv hp H → D.nx σ H
  | .rt p τ => ∀ σ v H, Stt c σ τ (hv ++ [v]) (hp ++ [p]) H → D.rt v H
  | .bk τ => ∀ σ H, Stt c σ τ hv hp H → D.bk σ H
  | .ct τ => ∀ σ H, Stt c σ τ hv hp H → D.ct σ H
def MS (c : Bd) (t : TS) (f : En → Rs Fl) : Prop := ∀ σ τ hv hp H D, Stt c σ τ hv hp H → Aft c (fun _ => True) (f τ) (FlOk c hv hp D) → t D σ H
/-- a target -/
def MG (c : Bd) (g : TG) (f : PV → En → Option En) : Prop := ∀ σ τ τ' hv hp v p H Q, Stt c σ τ (hv ++ [v]) (hp ++ [p]) H → f p τ = some τ' → (∀ σ' H', Stt c σ' τ' hv hp H' → Q σ' H') → g v σ H Q
/-! ### scalars -/
def sv : PV → Option V
  | .non => some .non
  | .bl b => some (.bl b)
  | .int i => some (.int i)
  | .str x => some (.str x)
  | _ => none
section
variable {c : Bd} {σ : L2.St} {τ : En} {hv : List V} {hp : List PV} {H : Hp}
theorem Rel.sv {P : Program} {w : World} {B : Addr → Prop} {H : Hp} {v u : V} {p : PV} {O : List Addr} (r : Rel P w B H v p O) (e : sv p = some u) : v = u := by
  cases r <;> first | (cases e; rfl) | (cases e)
theorem Rel.of_sv {P : Program} {w : World} {B : Addr → Prop} {H : Hp} {u : V} {p : PV} (e : FL.sv p = some u) : Rel P w B H u p [] := by
  cases p <;> first | (cases e; constructor) | (cases e)
theorem Stt.sc {u : V} {p : PV} (s : Stt c σ τ hv hp H) (e : sv p = some u) : Stt c σ τ (hv ++ [u]) (hp ++ [p]) H := by
  obtain ⟨⟨B, O1, O2, r1, r2, nd, hb, ho, wf, fr⟩, pn⟩ := s
  refine ⟨?_, pn⟩
  exact .mk' (Od := []) nd hb ho wf fr r1 (r2.append (.one (.of_sv e))) (by simp)
theorem Stt.top_sv {v u : V} {p : PV} (s : Stt c σ τ (hv ++ [v]) (hp ++ [p]) H) (e : sv p = some u) : v = u := by
  obtain ⟨B, O, r⟩ := s.top
  exact r.sv e
theorem Stt.pop {v : V} {p : PV} (s : Stt c σ τ (hv ++ [v]) (hp ++ [p]) H) : Stt c σ τ hv hp H := s.drop s.lenT
end
/-! ### names, constants -/
def rd (i : Nat) (τ : En) : Rs (PV × En) := match τ[i]? with
  | none => .no
  | some .un => .no
  | some p => .ok (fz p, τ.set i (fz p))
def mv (i : Nat) (τ : En) : Rs (PV × En) := match τ[i]? with
  | none => .no
  | some .un => .no
  | some p => .ok (p, τ.set i .un)
section
variable {c : Bd}
theorem te_rd (i : Nat) : ME c (tVar i) (rd i) := by
  intro σ τ hv hp H Q s h
  unfold rd at h
  split at h
  · exact h.elim
  · exact h.elim
  · rename_i p n e
    obtain ⟨v, hs, s1⟩ := s.read e (fun z => n z)
    exact ⟨v, hs, h v H s1⟩
theorem te_mv (i : Nat) : ME c (tVar i) (mv i) := by
  intro σ τ hv hp H Q s h
  unfold mv at h
  split at h
  · exact h.elim
  · exact h.elim
  · rename_i p n e
    obtain ⟨v, hs, s1⟩ := s.move e (fun z => n z)
    exact ⟨v, hs, h v H s1⟩
def cst (p : PV) (τ : En) : Rs (PV × En) := .ok (p, τ)
theorem te_c {v : V} {p : PV} (e : sv p = some v := by rfl) : ME c (tC v) (cst p) := fun σ τ hv hp H Q s h => h v H (s.sc e)
/-! ### operators -/
abbrev Bop := PV → PV → Option PV
def L2op (c : Bd) (r : R2) (g : Bop) : Prop := ∀ σ τ hv hp H x y p q z Q, Stt c σ τ (hv ++ [x] ++ [y]) (hp ++ [p] ++ [q]) H → g p q = some z → (∀ v H', Stt c σ τ (hv ++ [v]) (hp ++ [z]) H' → Q v H') → r x y H Q
def bin (g : Bop) (fa fb : En → Rs (PV × En)) (τ : En) : Rs (PV × En) := bnd (fa τ) fun a => bnd (fb a.2) fun b => opt (g a.1 b.1) b.2
theorem te_op {r : R2} {g : Bop} {ta tb : TE} {fa fb : En → Rs (PV × En)} (hr : L2op c r g) (ha : ME c ta fa) (hb : ME c tb fb) : ME c (tOp r ta tb) (bin g fa fb) := by
  intro σ τ hv hp H Q s h
  unfold bin at h
  refine ha σ τ hv hp H _ s ?_
  cases ea : fa τ with
  | no => rw [ea] at h; exact h
  | err e τ1 => rw [ea] at h; exact h
  | ok a =>
    rw [ea] at h
    intro x H1 s1
    refine hb σ a.2 _ _ H1 _ s1 ?_
    simp only [bnd_ok] at h
    cases eb : fb a.2 with
    | no => rw [eb] at h; exact h
    | err e τ1 => rw [eb] at h; exact h
    | ok b =>
      rw [eb] at h
      simp only [bnd_ok] at h
      intro y H2 s2
      cases eg : g a.1 b.1 with
      | none => rw [eg] at h; exact h.elim
      | some z =>
        rw [eg] at h
        exact hr σ b.2 hv hp H2 x y a.1 b.1 z Q s2 eg h
abbrev Uop := PV → Option PV
def L1op (c : Bd) (r : V → Hp → VK → Prop) (g : Uop) : Prop := ∀ σ τ hv hp H x p z Q, Stt c σ τ (hv ++ [x]) (hp ++ [p]) H → g p = some z → (∀ v H', Stt c σ τ (hv ++ [v]) (hp ++ [z]) H' → Q v H') → r x H Q
def un1 (g : Uop) (fa : En → Rs (PV × En)) (τ : En) : Rs (PV × En) := bnd (fa τ) fun a => opt (g a.1) a.2
theorem te_un {r : V → Hp → VK → Prop} {g : Uop} {ta : TE} {fa : En → Rs (PV × En)} (hr : L1op c r g) (ha : ME c ta fa) : ME c (tUn r ta) (un1 g fa) := by
  intro σ τ hv hp H Q s h
  unfold un1 at h
  refine ha σ τ hv hp H _ s ?_
  cases ea : fa τ with
  | no => rw [ea] at h; exact h
  | err e τ1 => rw [ea] at h; exact h
  | ok a =>
    rw [ea] at h
    simp only [bnd_ok] at h
    intro x H1 s1
    cases eg : g a.1 with
    | none => rw [eg] at h; exact h.elim
    | some z =>
      rw [eg] at h
      exact hr σ a.2 hv hp H1 x a.1 z Q s1 eg h
/-- two scalars to one, the heap as it is -/
theorem l2_sc {r : R2} {g : Bop} (k : ∀ p q z, g p q = some z → ∃ x y v, sv p = some x ∧ sv q = some y ∧ sv z = some v ∧ ∀ H Q, Q v H → r x y H Q) : L2op c r g := by
  intro σ τ hv hp H x y p q z Q s e h
  obtain ⟨x', y', v, e1, e2, e3, k⟩ := k p q z e
  cases s.top_sv e2
  cases s.pop.top_sv e1
  exact k H Q (h v H (s.pop.pop.sc e3))
theorem l1_sc {r : V → Hp → VK → Prop} {g : Uop} (k : ∀ p z, g p = some z → ∃ x v, sv p = some x ∧ sv z = some v ∧ ∀ H Q, Q v H → r x H Q) : L1op c r g := by
  intro σ τ hv hp H x p z Q s e h
  obtain ⟨x', v, e1, e3, k⟩ := k p z e
  cases s.top_sv e1
  exact k H Q (h v H (s.pop.sc e3))
def iop (f : Int → Int → PV) : Bop
  | .int i, .int j => some (f i j)
  | _, _ => none
/-- .. where the two are as they must be -/
def iopC (C : Int → Int → Bool) (f : Int → Int → PV) : Bop
  | .int i, .int j => if C i j = true then some (f i j) else none
  | _, _ => none
theorem iop_eq {f : Int → Int → PV} {p q z : PV} (h : iop f p q = some z) : ∃ i j, p = .int i ∧ q = .int j ∧ z = f i j := by
  unfold iop at h
  split at h
  · cases h; exact ⟨_, _, rfl, rfl, rfl⟩
  · cases h
theorem iopC_eq {C : Int → Int → Bool} {f : Int → Int → PV} {p q z : PV} (h : iopC C f p q = some z) : ∃ i j, p = .int i ∧ q = .int j ∧ z = f i j ∧ C i j = true := by
  unfold iopC at h
  split at h
  · split at h
    · rename_i k
      cases h; exact ⟨_, _, rfl, rfl, rfl, k⟩
    · cases h
  · cases h
theorem l_int {g : Int → Int → V} {f : Int → Int → PV} (k : ∀ i j, sv (f i j) = some (g i j) := by intros; rfl) : L2op c (rI0 g) (iop f) :=
  l2_sc fun p q z e => by
    obtain ⟨i, j, rfl, rfl, rfl⟩ := iop_eq e
    exact ⟨_, _, _, rfl, rfl, k i j, fun H Q h => ⟨i, j, rfl, rfl, h⟩⟩
theorem l_intC {C : Int → Int → Prop} {Cb : Int → Int → Bool} {g : Int → Int → V} {f : Int → Int → PV} (kc : ∀ i j, Cb i j = true → C i j) (k : ∀ i j, sv (f i j) = some (g i j) := by intros; rfl) : L2op c (rI C g) (iopC Cb f) :=
  l2_sc fun p q z e => by
    obtain ⟨i, j, rfl, rfl, rfl, h⟩ := iopC_eq e
    exact ⟨_, _, _, rfl, rfl, k i j, fun H Q q => ⟨i, j, rfl, rfl, kc i j h, q⟩⟩
def gAdd : Bop := iop fun i j => .int (i + j)
def gSub' : Bop := iop fun i j => .int (i - j)
def gLt : Bop := iop fun i j => .bl (decide (i < j))
def gLe : Bop := iop fun i j => .bl (decide (i ≤ j))
def gGt : Bop := iop fun i j => .bl (decide (j < i))
def gGe : Bop := iop fun i j => .bl (decide (j ≤ i))
def cMul (i j : Int) : Bool := decide (-(2 ^ 64) < i ∧ i < 2 ^ 64) || decide (-(2 ^ 64) < j ∧ j < 2 ^ 64)
def gMul : Bop := iopC cMul fun i j => .int (i * j)
def cMod (_ j : Int) : Bool := decide (j ≠ 0)
def gMod : Bop := iopC cMod fun i j => .int (i.fmod j)
/-- below this a divisor may lie -/
def bigB : Nat := 340282366920938463463374607431768211456
def CDivB (_ j : Int) : Prop := j ≠ 0 ∧ j.natAbs < bigB
theorem bigB_log {j : Int} (h : CDivB 0 j) : j.natAbs.log2 < 9000 := by
  have h1 : j ≠ 0 := h.1
  have h2 : j.natAbs < 340282366920938463463374607431768211456 := h.2
  exact Nat.lt_of_lt_of_le (PySem.Flt.log2_lt_of (k := 128) (by decide) (Nat.lt_of_lt_of_le h2 (by decide))) (by decide)
theorem op_fdivB {X : Cx} : OpR X (binaryOp .FloorDiv) (rI CDivB fun i j => .int (i.fdiv j)) := opI fun i j _ _ _ _ _ hc q => floordiv_int (show j ≠ 0 from hc.1) q (.inl (PyProof.noPylong_of_log2 (bigB_log hc)))
def cDiv (_ j : Int) : Bool := decide (j ≠ 0 ∧ j.natAbs < bigB)
def gDiv : Bop := iopC cDiv fun i j => .int (i.fdiv j)
theorem l_add : L2op c (rI0 fun i j => .int (i + j)) gAdd := l_int
theorem l_sub : L2op c (rI0 fun i j => .int (i - j)) gSub' := l_int
theorem l_lt : L2op c (rI0 fun i j => .bl (decide (i < j))) gLt := l_int
theorem l_le : L2op c (rI0 fun i j => .bl (decide (i ≤ j))) gLe := l_int
theorem l_gt : L2op c (rI0 fun i j => .bl (decide (j < i))) gGt := l_int
theorem l_ge : L2op c (rI0 fun i j => .bl (decide (j ≤ i))) gGe := l_int
theorem l_mul : L2op c (rI CMul fun i j => .int (i * j)) gMul := l_intC fun i j h => by
  unfold cMul at h
  rw [Bool.or_eq_true] at h
  exact h.imp of_decide_eq_true of_decide_eq_true
theorem l_mod : L2op c (rI (fun _ j => j ≠ 0) fun i j => .int (i.fmod j)) gMod := l_intC fun i j h => of_decide_eq_true h
theorem l_div : L2op c (rI CDivB fun i j => .int (i.fdiv j)) gDiv := l_intC fun i j h => by
  have z : j ≠ 0 ∧ j.natAbs < bigB := of_decide_eq_true h
  exact z
/-! ### ==, != of scalars -/
/-- the two are of one sort (or either is none of these) -/
def gEqS (ne : Bool) : Bop := fun p q => match sv p, sv q with
  | some x, some y => if scal x y = true then some (.bl (ne != decide (x = y))) else none
  | _, _ => none
theorem l_eq : L2op c rEq (gEqS false) := l2_sc fun p q z e => by
  unfold gEqS at e
  split at e
  · rename_i x y h1 h2
    split at e
    · rename_i h
      cases e
      exact ⟨x, y, _, h1, h2, rfl, fun H Q q => ⟨h, by simpa using q⟩⟩
    · cases e
  · cases e
theorem l_ne : L2op c rNe (gEqS true) := l2_sc fun p q z e => by
  unfold gEqS at e
  split at e
  · rename_i x y h1 h2
    split at e
    · rename_i h
      cases e
      exact ⟨x, y, _, h1, h2, rfl, fun H Q q => ⟨h, by simpa using q⟩⟩
    · cases e
  · cases e
/-! ### tests -/
def asB (r : Rs (PV × En)) : Rs (Bool × En) := bnd r fun a => match a.1 with
  | .bl b => .ok (b, a.2)
  | _ => .no
def tst (f : En → Rs (PV × En)) (τ : En) : Rs (Bool × En) := asB (f τ)
theorem aft_asB {S : L2.St → Prop} {r : Rs (PV × En)} {Q : Bool × En → Prop} (h : Aft c S (asB r) Q) : Aft c S r fun a => ∃ b, a.1 = .bl b ∧ Q (b, a.2) := by
  unfold asB at h
  cases r with
  | no => exact h
  | err e τ => exact h
  | ok a =>
    simp only [bnd_ok] at h
    split at h
    · rename_i b e; exact ⟨b, e, h⟩
    · exact h.elim
theorem mt_val {t : TE} {f : En → Rs (PV × En)} (h : ME c t f) : MT c (tB t) (tst f) := fun σ τ hv hp H Q s k => h σ τ hv hp H _ s (aft_mono (aft_asB k) fun a ⟨b, e, k⟩ v H' s' => by
  rw [e] at s'
  exact ⟨b, s'.top_sv rfl, k H' s'.pop⟩)
theorem mt_test {t : TE} {f : En → Rs (PV × En)} (h : ME c t f) : MT c (tTest t) (tst f) := fun σ τ hv hp H Q s k => h σ τ hv hp H _ s (aft_mono (aft_asB k) fun a ⟨b, e, k⟩ v H' s' => by
  rw [e] at s'
  exact ⟨b, s'.top_sv rfl, k H' s'.pop⟩)
def tnot (f : En → Rs (Bool × En)) (τ : En) : Rs (Bool × En) := bnd (f τ) fun a => .ok (!a.1, a.2)
def tand (f g : En → Rs (Bool × En)) (τ : En) : Rs (Bool × En) := bnd (f τ) fun a => if a.1 = true then g a.2 else .ok (false, a.2)
def tor (f g : En → Rs (Bool × En)) (τ : En) : Rs (Bool × En) := bnd (f τ) fun a => if a.1 = true then .ok (true, a.2) else g a.2
theorem aft_bnd {α β : Type} {S : L2.St → Prop} {r : Rs α} {f : α → Rs β} {Q : β → Prop} (h : Aft c S (bnd r f) Q) : Aft c S r fun a => Aft c S (f a) Q := by
  cases r <;> exact h
theorem mt_not {t : TT} {f : En → Rs (Bool × En)} (h : MT c t f) : MT c (tNot t) (tnot f) := fun σ τ hv hp H Q s k => h σ τ hv hp H _ s (aft_mono (aft_bnd k) fun a k H' s' => k H' s')
theorem mt_and {t u : TT} {f g : En → Rs (Bool × En)} (h : MT c t f) (h' : MT c u g) : MT c (tAnd t u) (tand f g) := fun σ τ hv hp H Q s k => h σ τ hv hp H _ s (aft_mono (aft_bnd k) fun a k H' s' => by
  by_cases e : a.1 = true
  · simp only [e, if_true] at k ⊢
    exact h' σ a.2 hv hp H' Q s' k
  · simp only [e, if_false] at k ⊢
    exact k H' s')
theorem mt_or {t u : TT} {f g : En → Rs (Bool × En)} (h : MT c t f) (h' : MT c u g) : MT c (tOr t u) (tor f g) := fun σ τ hv hp H Q s k => h σ τ hv hp H _ s (aft_mono (aft_bnd k) fun a k H' s' => by
  by_cases e : a.1 = true
  · simp only [e, if_true] at k ⊢
    exact k H' s'
  · simp only [e, if_false] at k ⊢
    exact h' σ a.2 hv hp H' Q s' k)
/-! .. as values -/
def bval (f : En → Rs (Bool × En)) (τ : En) : Rs (PV × En) := bnd (f τ) fun a => .ok (.bl a.1, a.2)
def vand (f g : En → Rs (PV × En)) (τ : En) : Rs (PV × En) := bnd (asB (f τ)) fun a => if a.1 = true then g a.2 else .ok (.bl false, a.2)
def vor (f g : En → Rs (PV × En)) (τ : En) : Rs (PV × En) := bnd (asB (f τ)) fun a => if a.1 = true then .ok (.bl true, a.2) else g a.2
def vnot (f : En → Rs (PV × En)) (τ : En) : Rs (PV × En) := bnd (asB (f τ)) fun a => .ok (.bl (!a.1), a.2)
theorem te_and {t u : TE} {f g : En → Rs (PV × En)} (h : ME c t f) (h' : ME c u g) : ME c (tAndV t u) (vand f g) := fun σ τ hv hp H Q s k => h σ τ hv hp H _ s (aft_mono (aft_asB (aft_bnd k)) fun a ⟨b, e, k⟩ v H' s' => by
  rw [e] at s'
  refine ⟨b, s'.top_sv rfl, ?_⟩
  cases b with
  | true => simp only [if_true] at k ⊢; exact h' σ a.2 hv hp H' Q s'.pop k
  | false => simp only [Bool.false_eq_true, if_false] at k ⊢; exact k _ H' (s'.pop.sc rfl))
theorem te_or {t u : TE} {f g : En → Rs (PV × En)} (h : ME c t f) (h' : ME c u g) : ME c (tOrV t u) (vor f g) := fun σ τ hv hp H Q s k => h σ τ hv hp H _ s (aft_mono (aft_asB (aft_bnd k)) fun a ⟨b, e, k⟩ v H' s' => by
  rw [e] at s'
  refine ⟨b, s'.top_sv rfl, ?_⟩
  cases b with
  | true => simp only [if_true] at k ⊢; exact k _ H' (s'.pop.sc rfl)
  | false => simp only [Bool.false_eq_true, if_false] at k ⊢; exact h' σ a.2 hv hp H' Q s'.pop k)
theorem te_not {t : TE} {f : En → Rs (PV × En)} (h : ME c t f) : ME c (tNotV t) (vnot f) := fun σ τ hv hp H Q s k => h σ τ hv hp H _ s (aft_mono (aft_asB (aft_bnd k)) fun a ⟨b, e, k⟩ v H' s' => by
  rw [e] at s'
  exact ⟨b, s'.top_sv rfl, k _ H' (s'.pop.sc rfl)⟩)
def vif (t : En → Rs (Bool × En)) (f g : En → Rs (PV × En)) (τ : En) : Rs (PV × En) := bnd (t τ) fun a => if a.1 = true then f a.2 else g a.2
theorem te_if {tt : TT} {t u : TE} {k : En → Rs (Bool × En)} {f g : En → Rs (PV × En)} (hk : MT c tt k) (h : ME c t f) (h' : ME c u g) : ME c (tIf tt t u) (vif k f g) := fun σ τ hv hp H Q s q => hk σ τ hv hp H _ s (aft_mono (aft_bnd q) fun a q H' s' => by
  by_cases e : a.1 = true
  · simp only [e, if_true] at q ⊢
    exact h σ a.2 hv hp H' Q s' q
  · simp only [e, if_false] at q ⊢
    exact h' σ a.2 hv hp H' Q s' q)
/-- is None -/
def isNon : PV → Option Bool
  | .un => none
  | .non => some true
  | _ => some false
def gIsN (ne : Bool) : Bop := fun p q => match q with
  | .non => (isNon p).map fun b => .bl (ne != b)
  | _ => none
theorem Rel.isNon {P : Program} {w : World} {B : Addr → Prop} {H : Hp} {v : V} {p : PV} {O : List Addr} {b : Bool} (r : Rel P w B H v p O) (e : isNon p = some b) : decide (v = .non) = b := by
  cases r <;> (cases e) <;> rfl
theorem l_isN : L2op c (fun x y H Q => y = .non ∧ Q (.bl (decide (x = .non))) H) (gIsN false) := by
  intro σ τ hv hp H x y p q z Q s e h
  unfold gIsN at e
  split at e
  · obtain ⟨b, e1, e2⟩ := Option.map_eq_some_iff.mp e
    obtain ⟨B, O, r⟩ := s.pop.top
    refine ⟨s.top_sv rfl, ?_⟩
    rw [r.isNon e1]
    subst e2
    exact h _ H (s.pop.pop.sc (by cases b <;> rfl))
  · cases e
theorem l_notN : L2op c (fun x y H Q => y = .non ∧ Q (.bl (!decide (x = .non))) H) (gIsN true) := by
  intro σ τ hv hp H x y p q z Q s e h
  unfold gIsN at e
  split at e
  · obtain ⟨b, e1, e2⟩ := Option.map_eq_some_iff.mp e
    obtain ⟨B, O, r⟩ := s.pop.top
    refine ⟨s.top_sv rfl, ?_⟩
    rw [r.isNon e1]
    subst e2
    exact h _ H (s.pop.pop.sc (by cases b <;> rfl))
  · cases e
end
end FL

namespace FL
open PySem PySem.Spec PyProof.Rows L2
section
variable {c : Bd}
def fits (n : Nat) : Bool := decide (n ≤ 16777216)
theorem fits_ok {n : Nat} (h : fits n = true) : n ≤ sizeLine := by
  rw [sizeLine_eq]
  exact of_decide_eq_true h
theorem fits_lt {n : Nat} (h : fits (n + 1) = true) : n < sizeLine := by
  rw [sizeLine_eq]
  exact of_decide_eq_true h
/-! ### arguments, displays -/
def vnil (τ : En) : Rs (List PV × En) := .ok ([], τ)
def vcons (f : En → Rs (PV × En)) (g : En → Rs (List PV × En)) (τ : En) : Rs (List PV × En) := bnd (f τ) fun a => bnd (g a.2) fun b => .ok (a.1 :: b.1, b.2)
theorem ma_nil : MA c tNil vnil := fun σ τ hv hp H Q s h => by
  have := h [] H (by simpa using s)
  exact this
theorem ma_cons {t : TE} {u : TA} {f : En → Rs (PV × En)} {g : En → Rs (List PV × En)} (h : ME c t f) (h' : MA c u g) : MA c (tCons t u) (vcons f g) := fun σ τ hv hp H Q s k => h σ τ hv hp H _ s (aft_mono (aft_bnd k) fun a k v H1 s1 => h' σ a.2 _ _ H1 _ s1 (aft_mono (aft_bnd k) fun b k vs H2 s2 => k _ H2 (by simpa using s2)))
def vtup (g : En → Rs (List PV × En)) (τ : En) : Rs (PV × En) := bnd (g τ) fun a => if fits a.1.length = true then .ok (.tup a.1, a.2) else .no
def vlst (g : En → Rs (List PV × En)) (τ : En) : Rs (PV × En) := bnd (g τ) fun a => if fits a.1.length = true then .ok (.lst true a.1, a.2) else .no
theorem Stt.lenL {σ : L2.St} {τ : En} {hv vs : List V} {hp ps : List PV} {H H' : Hp} (s0 : hv.length = hp.length) (s : Stt c σ τ (hv ++ vs) (hp ++ ps) H) : vs.length = ps.length := by
  have := s.len
  rw [List.length_append, List.length_append] at this
  omega
theorem te_tup {t : TA} {g : En → Rs (List PV × En)} (h : MA c t g) : ME c (tTup t) (vtup g) := fun σ τ hv hp H Q s k => h σ τ hv hp H _ s (aft_mono (aft_bnd k) fun a k vs H1 s1 => by
  by_cases e : fits a.1.length = true
  · simp only [e, if_true] at k
    exact ⟨by rw [Stt.lenL s.len s1 (H' := H1)]; exact fits_ok e, fun q nq => k _ _ (s1.newT s.len nq)⟩
  · simp only [e, if_false] at k
    exact k.elim)
theorem te_lst {t : TA} {g : En → Rs (List PV × En)} (h : MA c t g) : ME c (tLst t) (vlst g) := fun σ τ hv hp H Q s k => h σ τ hv hp H _ s (aft_mono (aft_bnd k) fun a k vs H1 s1 => by
  by_cases e : fits a.1.length = true
  · simp only [e, if_true] at k
    exact ⟨by rw [Stt.lenL s.len s1 (H' := H1)]; exact fits_ok e, fun q nq => k _ _ (s1.newL s.len nq)⟩
  · simp only [e, if_false] at k
    exact k.elim)
/-! ### statements -/
def sseq (f g : En → Rs Fl) (τ : En) : Rs Fl := bnd (f τ) fun
  | .nx τ' => g τ'
  | fl => .ok fl
def snx (τ : En) : Rs Fl := .ok (.nx τ)
theorem ms_next : MS c tNext snx := fun σ τ hv hp H D s k => k σ H s
theorem ms_seq {t u : TS} {f g : En → Rs Fl} (h : MS c t f) (h' : MS c u g) : MS c (tSeq t u) (sseq f g) := fun σ τ hv hp H D s k => h σ τ hv hp H _ s (aft_mono (aft_bnd k) fun fl k => by
  cases fl with
  | nx τ' => exact fun σ' H' s' => h' σ' τ' hv hp H' D s' k
  | rt p τ' => exact k
  | bk τ' => exact k
  | ct τ' => exact k)
def sret (f : En → Rs (PV × En)) (τ : En) : Rs Fl := bnd (f τ) fun a => .ok (.rt a.1 a.2)
def sretN (τ : En) : Rs Fl := .ok (.rt .non τ)
theorem ms_ret {t : TE} {f : En → Rs (PV × En)} (h : ME c t f) : MS c (tRet t) (sret f) := fun σ τ hv hp H D s k => h σ τ hv hp H _ s (aft_mono (aft_bnd k) (fun a k v H' s' => k σ v H' s') fun _ _ => trivial)
theorem ms_retN : MS c tRetN sretN := fun σ τ hv hp H D s k => k σ _ H (s.sc rfl)
def sdrop (f : En → Rs (PV × En)) (τ : En) : Rs Fl := bnd (f τ) fun a => .ok (.nx a.2)
theorem ms_drop {t : TE} {f : En → Rs (PV × En)} (h : ME c t f) : MS c (tDrop t) (sdrop f) := fun σ τ hv hp H D s k => h σ τ hv hp H _ s (aft_mono (aft_bnd k) (fun a k v H' s' => k σ H' s'.pop) fun _ _ => trivial)
def sif (t : En → Rs (Bool × En)) (f g : En → Rs Fl) (τ : En) : Rs Fl := bnd (t τ) fun a => if a.1 = true then f a.2 else g a.2
theorem ms_if {t : TT} {u w : TS} {k : En → Rs (Bool × En)} {f g : En → Rs Fl} (hk : MT c t k) (h : MS c u f) (h' : MS c w g) : MS c (tIfS t u w) (sif k f g) := fun σ τ hv hp H D s q => hk σ τ hv hp H _ s (aft_mono (aft_bnd q) (fun a q H' s' => by
  by_cases e : a.1 = true
  · simp only [e, if_true] at q ⊢
    exact h σ a.2 hv hp H' D s' q
  · simp only [e, if_false] at q ⊢
    exact h' σ a.2 hv hp H' D s' q) fun _ _ => trivial)
def sbk (τ : En) : Rs Fl := .ok (.bk τ)
def sct (τ : En) : Rs Fl := .ok (.ct τ)
theorem ms_break : MS c tBreak sbk := fun σ τ hv hp H D s k => k σ H s
theorem ms_cont : MS c tCont sct := fun σ τ hv hp H D s k => k σ H s
def sasg (f : En → Rs (PV × En)) (g : PV → En → Option En) (τ : En) : Rs Fl := bnd (f τ) fun a => match g a.1 a.2 with
  | some τ' => .ok (.nx τ')
  | none => .no
theorem ms_asg {t : TE} {gg : TG} {f : En → Rs (PV × En)} {g : PV → En → Option En} (h : ME c t f) (hg : MG c gg g) : MS c (tAsg t gg) (sasg f g) := fun σ τ hv hp H D s k => h σ τ hv hp H _ s (aft_mono (aft_bnd k) (fun a k v H' s' => by
  cases e : g a.1 a.2 with
  | none => rw [e] at k; exact k.elim
  | some τ' => rw [e] at k; exact hg σ a.2 τ' hv hp v a.1 H' _ s' e fun σ' H'' s'' => k σ' H'' s'') fun _ _ => trivial)
/-! ### targets -/
def stN (i : Nat) (p : PV) (τ : En) : Option En := if i < τ.length then some (τ.set i p) else none
theorem mg_name {i : Nat} (n : c.np i = false := by rfl) : MG c (gName i) (stN i) := fun σ τ τ' hv hp v p H Q s e k => by
  unfold stN at e
  split at e
  · rename_i hi
    cases e
    exact k _ H (s.store hi n)
  · cases e
def MGs (c : Bd) (g : TGs) (f : List PV → En → Option En) : Prop := ∀ σ τ τ' hv hp vs ps H Q, hv.length = hp.length → Stt c σ τ (hv ++ vs) (hp ++ ps) H → f ps τ = some τ' → (∀ σ' H', Stt c σ' τ' hv hp H' → Q σ' H') → g vs σ H Q
def stNil (ps : List PV) (τ : En) : Option En := match ps with
  | [] => some τ
  | _ => none
def stCons (f : PV → En → Option En) (g : List PV → En → Option En) (ps : List PV) (τ : En) : Option En := match ps with
  | [] => none
  | p :: ps => match f p τ with
    | some τ' => g ps τ'
    | none => none
theorem mgs_nil : MGs c gNil stNil := fun σ τ τ' hv hp vs ps H Q l s e k => by
  cases ps with
  | cons p ps => cases e
  | nil =>
    cases e
    have l2 := Stt.lenL l s (H' := H)
    cases vs with
    | cons v vs => cases l2
    | nil => exact ⟨rfl, k σ H (by simpa using s)⟩
theorem perm3 {A O O' : List Addr} : (A ++ (O ++ O')).Perm (A ++ (O' ++ O)) := List.Perm.append_left A List.perm_append_comm
theorem mgs_cons {t : TG} {u : TGs} {f : PV → En → Option En} {g : List PV → En → Option En} (h : MG c t f) (h' : MGs c u g) : MGs c (gCons t u) (stCons f g) := fun σ τ τ' hv hp vs ps H Q l s e k => by
  cases ps with
  | nil => cases e
  | cons p ps =>
    have l2 := Stt.lenL l s (H' := H)
    cases vs with
    | nil => cases l2
    | cons v vs =>
      refine ⟨v, vs, rfl, ?_⟩
      unfold stCons at e
      simp only at e
      cases ef : f p τ with
      | none => rw [ef] at e; cases e
      | some τ1 =>
        rw [ef] at e
        have s1 : Stt c σ τ (hv ++ vs ++ [v]) (hp ++ ps ++ [p]) H := by
          rw [List.append_assoc, List.append_assoc]
          refine s.part l fun B O r => ?_
          cases r with
          | cons x r => exact ⟨[], _, List.perm_append_comm, r.append (.one x)⟩
        exact h σ τ τ1 _ _ v p H _ s1 ef fun σ' H' s' => h' σ' τ1 τ' hv hp vs ps H' Q l s' e k
def stTup (n : Nat) (f : List PV → En → Option En) (p : PV) (τ : En) : Option En := match p with
  | .tup ps => if ps.length = n then f ps τ else none
  | _ => none
theorem mg_tup {n : Nat} {t : TGs} {f : List PV → En → Option En} (h : MGs c t f) : MG c (gTup c.K n t) (stTup n f) := fun σ τ τ' hv hp v p H Q s e k => by
  unfold stTup at e
  split at e
  · rename_i ps
    split at e
    · rename_i hn
      have l := s.lenT
      obtain ⟨B, O, r⟩ := s.top
      cases r with
      | @tup a xs _ _ nb hx r =>
        refine ⟨a, xs, rfl, SqT.of hx, by rw [r.len]; exact hn, h σ τ τ' hv hp xs ps H Q l (s.part l fun B' O' r' => ?_) e k⟩
        have r' := r'.one'
        cases r' with
        | tup nb' hx' r' => rw [hx] at hx'; cases hx'; exact ⟨[], _, .refl _, r'⟩
    · cases e
  · cases e
/-- a, b = e, e' -/
def spar (i j : Nat) (g : En → Rs (List PV × En)) (τ : En) : Rs Fl := bnd (g τ) fun a => match a.1 with
  | [p, q] => if i < a.2.length ∧ j < a.2.length then .ok (.nx ((a.2.set i p).set j q)) else .no
  | _ => .no
theorem ms_par {i j : Nat} {t : TA} {g : En → Rs (List PV × En)} (h : MA c t g) (ni : c.np i = false := by rfl) (nj : c.np j = false := by rfl) : MS c (tPar i j t) (spar i j g) := fun σ τ hv hp H D s k => h σ τ hv hp H _ s (aft_mono (aft_bnd k) (fun a k vs H' s' => by
  split at k
  · rename_i p q e
    split at k
    · rename_i hi
      have l2 := Stt.lenL s.len s' (H' := H')
      rw [e] at l2 s'
      match vs, l2 with
      | [v, w], _ =>
        refine ⟨v, w, rfl, k _ H' ?_⟩
        have s1 : Stt c σ a.2 (hv ++ [w] ++ [v]) (hp ++ [q] ++ [p]) H' := Stt.swap (by simpa using s')
        exact (s1.store hi.1 ni).store (by rw [List.length_set]; exact hi.2) nj
    · exact k.elim
  · exact k.elim) fun _ _ => trivial)
/-! ### loops -/
/-- what is walked: J gives xs, one after another, the things at hand (vs, ps) standing -/
structure Wlk (c : Bd) (J : It) (xs : List PV) (vs : List V) (ps : List PV) : Prop where
  ex : ∃ (G : Hp → Prop) (Y : Nat → Hp → V → Hp → Prop), L2.Walk J xs.length G Y ∧ (∀ σ τ hv hp H, hv.length = hp.length → Stt c σ τ (hv ++ vs) (hp ++ ps) H → G H) ∧
    ∀ i H x H' σ τ hv hp q, hv.length = hp.length → xs[i]? = some q → Stt c σ τ (hv ++ vs) (hp ++ ps) H → Y i H x H' → Stt c σ τ (hv ++ vs ++ [x]) (hp ++ ps ++ [q]) H'
def MI (c : Bd) (wi : TI) (f : En → Rs (List PV × En)) : Prop := ∀ σ τ hv hp H (R : It → Hp → Prop), Stt c σ τ hv hp H → Aft c (· = σ) (f τ) (fun r => ∀ J vs ps H', Stt c σ r.2 (hv ++ vs) (hp ++ ps) H' → Wlk c J r.1 vs ps → R J H') → wi σ H R
def forF (g : PV → En → Option En) (b : En → Rs Fl) : List PV → En → Rs Fl
  | [], τ => .ok (.nx τ)
  | x :: xs, τ => match g x τ with
    | none => .no
    | some τ1 => bnd (b τ1) fun
      | .nx τ2 => forF g b xs τ2
      | .ct τ2 => forF g b xs τ2
      | .bk τ2 => .ok (.nx τ2)
      | .rt p τ2 => .ok (.rt p τ2)
def sfor (f : En → Rs (List PV × En)) (g : PV → En → Option En) (b : En → Rs Fl) (τ : En) : Rs Fl := bnd (f τ) fun a => forF g b a.1 a.2
theorem Stt.mid {σ : L2.St} {τ : En} {hv : List V} {hp : List PV} {v u : V} {p q : PV} {H : Hp} (s : Stt c σ τ (hv ++ [v] ++ [u]) (hp ++ [p] ++ [q]) H) : Stt c σ τ (hv ++ [u]) (hp ++ [q]) H := s.swap.pop
theorem Stt.midL {σ : L2.St} {τ : En} {hv vs : List V} {hp ps : List PV} {u : V} {q : PV} {H : Hp} (s : Stt c σ τ (hv ++ vs ++ [u]) (hp ++ ps ++ [q]) H) (l : hv.length = hp.length) : Stt c σ τ (hv ++ [u]) (hp ++ [q]) H := by
  have l2 : vs.length = ps.length := by have := s.len; simp at this; omega
  rw [List.append_assoc, List.append_assoc] at s
  refine s.part l fun B O r => ?_
  obtain ⟨O1, O2, e, r1, r2⟩ := r.split l2
  exact ⟨O1, O2, by rw [e], r2⟩
theorem ms_for {wi : TI} {gg : TG} {tb : TS} {f : En → Rs (List PV × En)} {g : PV → En → Option En} {b : En → Rs Fl} (hi : MI c wi f) (hg : MG c gg g) (hb : MS c tb b) : MS c (tFor wi gg tb) (sfor f g b) := fun σ τ hv hp H D s k => hi σ τ hv hp H _ s (aft_mono (aft_bnd k) (fun r k J vs ps H' s' wl => by
  obtain ⟨G, Y, W, hG, hY⟩ := wl.ex
  have l := s.len
  refine L2.for_it W (fun i σ H => ∃ τ, Stt c σ τ (hv ++ vs) (hp ++ ps) H ∧ Aft c (fun _ => True) (forF g b (r.1.drop i) τ) (FlOk c hv hp D)) ⟨r.2, s', k⟩ (fun i σ H _ ⟨τ, s, _⟩ => hG σ τ hv hp H l s) (fun i x σ H H' hi ⟨τ, s, k⟩ y => ?_) (fun σ H ⟨τ, s, k⟩ => ?_)
  · have hq : r.1[i]? = some r.1[i] := List.getElem?_eq_getElem hi
    have e : r.1.drop i = r.1[i] :: r.1.drop (i + 1) := List.drop_eq_getElem_cons hi
    rw [e] at k
    have s1 := hY i H x H' σ τ hv hp _ l hq s y
    unfold forF at k
    cases eg : g r.1[i] τ with
    | none => rw [eg] at k; exact k.elim
    | some τ1 =>
      rw [eg] at k
      refine hg σ τ τ1 _ _ x _ H' _ s1 eg fun σ2 H2 s2 => hb σ2 τ1 _ _ H2 _ s2 (aft_mono (aft_bnd k) fun fl k => ?_)
      cases fl with
      | nx τ2 => exact fun σ3 H3 s3 => ⟨τ2, s3, k⟩
      | ct τ2 => exact fun σ3 H3 s3 => ⟨τ2, s3, k⟩
      | bk τ2 => exact fun σ3 H3 s3 => k σ3 H3 (s3.drop l)
      | rt p2 τ2 => exact fun σ3 v3 H3 s3 => k σ3 v3 H3 (s3.midL l)
  · rw [List.drop_length] at k
    exact k σ H (s.drop l)) fun _ _ => trivial)
/-! what is walked -/
theorem Stt.item {σ : L2.St} {τ : En} {hv : List V} {hp : List PV} {H : Hp} {a : Addr} {xs : List V} {ps : List PV} {p q : PV} {x : V} {i : Nat} (s : Stt c σ τ (hv ++ [.ref a]) (hp ++ [p]) H) (nf : fz p = p)
    (opn : ∀ B O, Rel c.P c.w B H (.ref a) p O → O = [] → Rels c.P c.w B H xs ps []) (hq : ps[i]? = some q) (hx : xs[i]? = some x) : Stt c σ τ (hv ++ [.ref a] ++ [x]) (hp ++ [p] ++ [q]) H := by
  have l := s.lenT
  rw [List.append_assoc, List.append_assoc]
  refine s.part l fun B O r => ?_
  have r := r.one'
  have e := Rel.nil_of r nf
  obtain ⟨y, hy, ry⟩ := (opn B O r e).get hq
  rw [hx] at hy
  cases hy
  subst e
  exact ⟨[], _, .refl _, .cons (O := []) (O' := []) r (.one ry)⟩
/-- a list (what of it is owned is given up) -/
def ilst (f : En → Rs (PV × En)) (τ : En) : Rs (List PV × En) := bnd (f τ) fun a => match a.1 with
  | .lst _ ps => .ok (fzs ps, a.2)
  | _ => .no
def itup (f : En → Rs (PV × En)) (τ : En) : Rs (List PV × En) := bnd (f τ) fun a => match a.1 with
  | .tup ps => .ok (fzs ps, a.2)
  | _ => .no
theorem Rel.lst_at {P : Program} {w : World} {B : Addr → Prop} {H : Hp} {v : V} {o : Bool} {ps : List PV} {O : List Addr} (r : Rel P w B H v (.lst o ps) O) : ∃ a xs, v = .ref a ∧ H a = some (.lst xs) ∧ xs.length = ps.length := by
  cases r with
  | lstF n h r => exact ⟨_, _, rfl, h, r.len⟩
  | lstO h r => exact ⟨_, _, rfl, h, r.len⟩
theorem walkL {K : PySem.W.Frag} {a : Addr} {n : Nat} : L2.Walk (Itl K a) n (fun H => ∃ xs, SqL K H a xs ∧ xs.length = n) (fun i H x H' => H' = H ∧ ∀ xs, SqL K H a xs → xs[i]? = some x) :=
  ⟨fun i H hi ⟨xs, q, l⟩ => ⟨xs, xs[i], q, List.getElem?_eq_getElem (by omega)⟩, fun H ⟨xs, q, l⟩ => ⟨xs, q, by omega⟩, fun i H x H' hi _ y => y⟩
theorem walkT {K : PySem.W.Frag} {a : Addr} {n : Nat} : L2.Walk (Itt K a) n (fun H => ∃ xs, SqT K H a xs ∧ xs.length = n) (fun i H x H' => H' = H ∧ ∀ xs, SqT K H a xs → xs[i]? = some x) :=
  ⟨fun i H hi ⟨xs, q, l⟩ => ⟨xs, xs[i], q, List.getElem?_eq_getElem (by omega)⟩, fun H ⟨xs, q, l⟩ => ⟨xs, q, by omega⟩, fun i H x H' hi _ y => y⟩
theorem wlk_list {ad : Addr} {o : Bool} {ps : List PV} : Wlk c (Itl c.K ad) (fzs ps) [.ref ad] [fz (.lst o ps)] := by
  refine ⟨_, _, walkL, fun σ τ hv hp H _ s => ?_, fun i H x H' σ τ hv hp q _ hq s y => ?_⟩
  · obtain ⟨B, O, r⟩ := s.top
    obtain ⟨_, xs, e, hx, hl⟩ := r.lst_at
    cases e
    exact ⟨xs, SqL.of hx, hl⟩
  · obtain ⟨rfl, y⟩ := y
    obtain ⟨B, O, r⟩ := s.top
    obtain ⟨_, xs, e, hx, hl⟩ := r.lst_at
    cases e
    refine s.item (xs := xs) (ps := fzs ps) (fz_fz _) (fun B O r _ => ?_) hq (y xs (SqL.of hx))
    cases r with
    | lstF n h r => rw [hx] at h; cases h; exact r
theorem mi_list {t : TE} {f : En → Rs (PV × En)} (h : ME c t f) : MI c (iList c.K t) (ilst f) := fun σ τ hv hp H R s k => h σ τ hv hp H _ s (aft_mono (aft_bnd k) fun a k x H1 s1 => by
  split at k
  · rename_i o ps e
    rw [e] at s1
    obtain ⟨B, O, r⟩ := s1.top
    obtain ⟨ad, xs, rfl, hx, hl⟩ := r.lst_at
    exact ⟨ad, rfl, ⟨xs, SqL.of hx⟩, k _ _ _ _ s1.froze wlk_list⟩
  · exact k.elim)
theorem Rel.tup_at {P : Program} {w : World} {B : Addr → Prop} {H : Hp} {v : V} {ps : List PV} {O : List Addr} (r : Rel P w B H v (.tup ps) O) : ∃ a xs, v = .ref a ∧ H a = some (.tup xs) ∧ Rels P w B H xs ps O := by
  cases r with
  | tup n h r => exact ⟨_, _, rfl, h, r⟩
theorem wlk_tup {ad : Addr} {ps : List PV} : Wlk c (Itt c.K ad) (fzs ps) [.ref ad] [fz (.tup ps)] := by
  refine ⟨_, _, walkT, fun σ τ hv hp H _ s => ?_, fun i H x H' σ τ hv hp q _ hq s y => ?_⟩
  · obtain ⟨B, O, r⟩ := s.top
    obtain ⟨_, xs, e, hx, r⟩ := Rel.tup_at (ps := fzs ps) r
    cases e
    exact ⟨xs, SqT.of hx, r.len⟩
  · obtain ⟨rfl, y⟩ := y
    obtain ⟨B, O, r⟩ := s.top
    obtain ⟨_, xs, e, hx, r⟩ := Rel.tup_at (ps := fzs ps) r
    cases e
    refine s.item (xs := xs) (ps := fzs ps) (fz_fz _) (fun B O r e => ?_) hq (y xs (SqT.of hx))
    subst e
    obtain ⟨_, xs', e, hx', r⟩ := Rel.tup_at (ps := fzs ps) r
    cases e
    rw [hx] at hx'
    cases hx'
    exact r
theorem mi_tup {t : TE} {f : En → Rs (PV × En)} (h : ME c t f) : MI c (iTup c.K t) (itup f) := fun σ τ hv hp H R s k => h σ τ hv hp H _ s (aft_mono (aft_bnd k) fun a k x H1 s1 => by
  split at k
  · rename_i ps e
    rw [e] at s1
    obtain ⟨B, O, r⟩ := s1.top
    obtain ⟨ad, xs, rfl, hx, hl⟩ := r.tup_at
    exact ⟨ad, rfl, ⟨xs, SqT.of hx⟩, k _ _ _ _ s1.froze wlk_tup⟩
  · exact k.elim)
/-- range -/
def rng (lo : Int) (n : Nat) : List PV := (List.range n).map fun i => .int (lo + (i : Nat))
theorem wlk_range {lo : Int} {n : Nat} : Wlk c (Itr lo n) (rng lo n) [] [] := by
  have e : (rng lo n).length = n := by simp [rng]
  refine ⟨fun _ => True, YFn fun i => .int (lo + i), by rw [e]; exact walk_range, fun σ τ hv hp H _ s => trivial, fun i H x H' σ τ hv hp q _ hq s y => ?_⟩
  obtain ⟨rfl, rfl⟩ := y
  unfold rng at hq
  rw [List.getElem?_map] at hq
  obtain ⟨j, hj, rfl⟩ := Option.map_eq_some_iff.mp hq
  obtain ⟨_, rfl⟩ := List.getElem?_eq_some_iff.mp hj
  rw [List.getElem_range]
  exact s.sc rfl
def irng1 (f : En → Rs (List PV × En)) (τ : En) : Rs (List PV × En) := bnd (f τ) fun a => match a.1 with
  | [.int j] => if -(2 ^ 62) ≤ j ∧ j < 2 ^ 62 then .ok (rng 0 j.toNat, a.2) else .no
  | _ => .no
def irng2 (f : En → Rs (List PV × En)) (τ : En) : Rs (List PV × En) := bnd (f τ) fun a => match a.1 with
  | [.int i, .int j] => if -(2 ^ 62) ≤ i ∧ i < 2 ^ 62 ∧ -(2 ^ 62) ≤ j ∧ j < 2 ^ 62 then .ok (rng i (j - i).toNat, a.2) else .no
  | _ => .no
theorem Stt.one {σ : L2.St} {τ : En} {hv vs : List V} {hp : List PV} {p : PV} {u : V} {H : Hp} (l : hv.length = hp.length) (s : Stt c σ τ (hv ++ vs) (hp ++ [p]) H) (e : sv p = some u) : vs = [u] ∧ Stt c σ τ hv hp H := by
  have l2 := Stt.lenL l s (H' := H)
  match vs, l2 with
  | [v], _ =>
    cases s.top_sv e
    exact ⟨rfl, s.pop⟩
theorem Stt.two {σ : L2.St} {τ : En} {hv vs : List V} {hp : List PV} {p q : PV} {u w : V} {H : Hp} (l : hv.length = hp.length) (s : Stt c σ τ (hv ++ vs) (hp ++ [p, q]) H) (e : sv p = some u) (e' : sv q = some w) : vs = [u, w] ∧ Stt c σ τ hv hp H := by
  have l2 := Stt.lenL l s (H' := H)
  match vs, l2 with
  | [v, z], _ =>
    have s' : Stt c σ τ (hv ++ [v] ++ [z]) (hp ++ [p] ++ [q]) H := by simpa using s
    cases s'.top_sv e'
    cases s'.pop.top_sv e
    exact ⟨rfl, s'.pop.pop⟩
theorem mi_rng1 {t : TA} {f : En → Rs (List PV × En)} (h : MA c t f) : MI c (iRng1 t) (irng1 f) := fun σ τ hv hp H R s k => h σ τ hv hp H _ s (aft_mono (aft_bnd k) fun a k vs H1 s1 => by
  split at k
  · rename_i j e
    split at k
    · rename_i b
      rw [e] at s1
      obtain ⟨rfl, s2⟩ := Stt.one s.len s1 (u := .int j) rfl
      exact ⟨j, rfl, b.1, b.2, k _ [] [] _ (by simpa using s2) wlk_range⟩
    · exact k.elim
  · exact k.elim)
theorem mi_rng2 {t : TA} {f : En → Rs (List PV × En)} (h : MA c t f) : MI c (iRng2 t) (irng2 f) := fun σ τ hv hp H R s k => h σ τ hv hp H _ s (aft_mono (aft_bnd k) fun a k vs H1 s1 => by
  split at k
  · rename_i i j e
    split at k
    · rename_i b
      rw [e] at s1
      obtain ⟨rfl, s2⟩ := Stt.two s.len s1 (u := .int i) (w := .int j) rfl rfl
      exact ⟨i, j, rfl, b, k _ [] [] _ (by simpa using s2) wlk_range⟩
    · exact k.elim
  · exact k.elim)
end
end FL

namespace FL
open PySem PySem.Spec PyProof.Rows L2
/-! ### promises -/
def PostF (P : Program) (w : World) (B : Addr → Prop) (O : List Addr) (H : Hp) (vs : List V) (ps : List PV) (H' : Hp) : Prop :=
  ∃ O', Rels P w (fun a => (B a ∧ a ∉ O) ∨ a ∈ O') H' vs ps O' ∧ O'.Nodup ∧ (∀ a ∈ O', ¬ (B a ∧ a ∉ O) ∧ (a ∈ O ∨ H a = none)) ∧ (∀ a o, H a = some o → a ∉ O → H' a = some o)
def selL {α : Type} : List Bool → List α → List α
  | true :: m, x :: xs => x :: selL m xs
  | false :: m, _ :: xs => selL m xs
  | [], _ => []
  | _ :: _, [] => []
abbrev FnF := List PV → Rs (PV × List PV)
/-- called with things that are ps: what F says; m: which arguments come owned and go back changed -/
def spF (P : Program) (w : World) (n : Nat) (m : List Bool) (F : FnF) : Sp := fun vs H Q E => vs.length = n ∧ HK.Mk H ∧ ∃ B ps O, Rels P w B H vs ps O ∧ O.Nodup ∧ (∀ a ∈ O, B a) ∧ (∀ a, B a → ∃ o, H a = some o) ∧
  match F ps with
  | .ok r => ∀ v H', PostF P w B O H (v :: selL m vs) (r.1 :: r.2) H' → Q v H'
  | .err e _ => ∀ d xs H', H' d = some (.xd (e.fs.zip xs)) → e.fs.length = xs.length → PostF P w B O H xs e.ps H' → E (.ref e.C) (some d) H'
  | .no => False
section
variable {c : Bd} {σ : L2.St} {τ : En} {hv vs : List V} {hp ps : List PV} {H : Hp}
/-- the last things at hand handed over, others come back -/
theorem Stt.handed (s : Stt c σ τ (hv ++ vs) (hp ++ ps) H) (l : hv.length = hp.length) : ∃ B O, Rels c.P c.w B H vs ps O ∧ O.Nodup ∧ (∀ a ∈ O, B a) ∧ (∀ a, B a → ∃ o, H a = some o) ∧
    ∀ ws rs H', PostF c.P c.w B O H ws rs H' → Stt c σ τ (hv ++ ws) (hp ++ rs) H' := by
  obtain ⟨⟨B, O1, O2, r1, r2, nd, hb, ho, wf, fr⟩, pn⟩ := s
  obtain ⟨Oa, Ob, e2, ra, rb⟩ := r2.split l
  subst e2
  obtain ⟨n1, n2, n3⟩ := List.nodup_append.mp nd
  obtain ⟨na, nb, nab⟩ := List.nodup_append.mp n2
  have mb : ∀ a ∈ Ob, a ∈ O1 ++ (Oa ++ Ob) := fun a m => List.mem_append_right _ (List.mem_append_right _ m)
  have wB : ∀ a, B a → ∃ o, H a = some o := fun a h => by
    rcases (hb a).mp h with h | h
    · exact wf a h
    · rcases List.mem_append.mp h with h | h
      · exact r1.lt a h
      · exact r2.lt a h
  refine ⟨B, Ob, rb, nb, fun a m => (hb a).mpr (.inr (mb a m)), wB, fun ws rs H' ⟨O', r', nd', ho', fr'⟩ => ?_⟩
  have i1 : ∀ a ∈ O1, a ∉ Ob := fun a m z => n3 a m a (List.mem_append_right _ z) rfl
  have ia : ∀ a ∈ Oa, a ∉ Ob := fun a m z => nab a m a z rfl
  have hn : ∀ a o, H a = some o → ¬ B a → H' a = some o ∧ ¬ ((B a ∧ a ∉ Ob) ∨ a ∈ O') := fun a o h n => by
    refine ⟨fr' a o h fun z => n ((hb a).mpr (.inr (mb a z))), fun z => z.elim (fun z => n z.1) fun z => ?_⟩
    rcases (ho' a z).2 with q | q
    · exact n ((hb a).mpr (.inr (mb a q)))
    · rw [q] at h; cases h
  have off : ∀ a ∈ O', a ∉ O1 ∧ a ∉ Oa := fun a m => by
    rcases (ho' a m).2 with q | q
    · exact ⟨fun z => i1 a z q, fun z => ia a z q⟩
    · refine ⟨fun z => ?_, fun z => ?_⟩
      · obtain ⟨o, h⟩ := r1.lt a z; rw [q] at h; cases h
      · obtain ⟨o, h⟩ := ra.lt a z; rw [q] at h; cases h
  have mk' : HK.Mk H' := by
    obtain ⟨ob, u, hm⟩ := pn.2
    exact ⟨ob, u, fr' _ _ hm fun z => rb.nfz _ z ob u hm⟩
  refine ⟨⟨_, O1, Oa ++ O', r1.go hn fun a o m h => fr' a o h (i1 a m), (ra.go hn fun a o m h => fr' a o h (ia a m)).append r', ?_, fun a => ?_, fun a m => ?_, fun a h => ?_, fun a o h n => ?_⟩, pn.1, mk'⟩
  · refine List.nodup_append.mpr ⟨n1, List.nodup_append.mpr ⟨na, nd', fun a m b m' e => (off b m').2 (e ▸ m)⟩, fun a m b m' e => ?_⟩
    rcases List.mem_append.mp m' with m' | m'
    · exact n3 a m b (List.mem_append_left _ m') e
    · exact (off b m').1 (e ▸ m)
  · constructor
    · rintro (⟨h, n⟩ | h)
      · rcases (hb a).mp h with h | h
        · exact .inl h
        · rcases List.mem_append.mp h with h | h
          · exact .inr (List.mem_append_left _ h)
          · rcases List.mem_append.mp h with h | h
            · exact .inr (List.mem_append_right _ (List.mem_append_left _ h))
            · exact absurd h n
      · exact .inr (List.mem_append_right _ (List.mem_append_right _ h))
    · rintro (h | h)
      · exact .inl ⟨(hb a).mpr (.inl h), fun z => (ho a (mb a z)).1 h⟩
      · rcases List.mem_append.mp h with h | h
        · exact .inl ⟨(hb a).mpr (.inr (List.mem_append_left _ h)), i1 a h⟩
        · rcases List.mem_append.mp h with h | h
          · exact .inl ⟨(hb a).mpr (.inr (List.mem_append_right _ (List.mem_append_left _ h))), ia a h⟩
          · exact .inr h
  · have old : a ∈ O1 ++ (Oa ++ Ob) → ¬ c.B a ∧ (a ∈ c.I ∨ c.H a = none) := ho a
    have new : a ∈ O' → ¬ c.B a ∧ (a ∈ c.I ∨ c.H a = none) := fun m => by
      obtain ⟨q1, q2⟩ := ho' a m
      refine ⟨fun z => q1 ⟨(hb a).mpr (.inl z), fun y => (ho a (mb a y)).1 z⟩, ?_⟩
      rcases q2 with q2 | q2
      · exact (ho a (mb a q2)).2
      · cases e : c.H a with
        | none => exact .inr rfl
        | some u =>
          refine .inl (Classical.byContradiction fun z => ?_)
          rw [fr a u e z] at q2
          cases q2
    rcases List.mem_append.mp m with m | m
    · exact old (List.mem_append_left _ m)
    · rcases List.mem_append.mp m with m | m
      · exact old (List.mem_append_right _ (List.mem_append_left _ m))
      · exact new m
  · obtain ⟨o, q⟩ := wf a h
    exact ⟨o, fr' a o q fun z => (ho a (mb a z)).1 h⟩
  · refine fr' a o (fr a o h n) fun z => ?_
    rcases (ho a (mb a z)).2 with q | q
    · exact n q
    · rw [q] at h; cases h
end
/-! ### a def's body -/
abbrev bdOf (P : Program) (w : World) (K : PySem.W.Frag) (H : Hp) (B : Addr → Prop) (I : List Addr) (E : XK) (m : List Bool) (vs : List V) : Bd := { P := P, w := w, K := K, H := H, B := B, I := I, E := fun _ => E, np := fun i => m.getD i false, pv := fun i => vs.getD i .non }
def runF (n : Nat) (m : List Bool) (b : En → Rs Fl) : FnF := fun ps => bnd (b (ps ++ List.replicate (n - ps.length) .un)) fun
  | .rt p τ => .ok (p, selL m τ)
  | .nx τ => .ok (.non, selL m τ)
  | _ => .no
section
variable {P : Program} {w : World} {B : Addr → Prop} {H : Hp}
theorem RelS.start : ∀ {vs : List V} {ps : List PV} {O : List Addr} (n : Nat), Rels P w B H vs ps O → RelS P w B H (vs.map some ++ List.replicate n none) (ps ++ List.replicate n .un) O
  | _, _, _, 0, .nil => .nil
  | _, _, _, n + 1, .nil => .no (RelS.start n .nil)
  | _, _, _, n, .cons x r => .so x (RelS.start n r)
theorem RelS.sel : ∀ {m : List Bool} {vs : List V} {σ : L2.St} {τ : En} {O : List Addr}, RelS P w B H σ τ O → (∀ i, m.getD i false = true → σ[i]? = some (some (vs.getD i .non))) → m.length ≤ vs.length → ∃ Od O', O.Perm (Od ++ O') ∧ Rels P w B H (selL m vs) (selL m τ) O'
  | [], vs, σ, τ, O, r, _, _ => ⟨O, [], by simp, by cases vs <;> cases τ <;> exact .nil⟩
  | b :: m, [], σ, τ, O, r, _, l => by simp at l
  | true :: m, v :: vs, _, _, _, .nil, h, l => by simpa using h 0 rfl
  | false :: m, v :: vs, _, _, _, .nil, h, l => by
    have all : ∀ b ∈ m, b = false := fun b hb => by
      obtain ⟨i, hi⟩ := List.mem_iff_getElem?.mp hb
      cases b with
      | false => rfl
      | true =>
        have := h (i + 1) (by rw [List.getD_eq_getElem?_getD, List.getElem?_cons_succ, hi]; rfl)
        simp at this
    have e1 : ∀ {α : Type} (xs : List α) (m : List Bool), (∀ b ∈ m, b = false) → selL m xs = [] := by
      intro α xs m
      induction m generalizing xs with
      | nil => intro _; cases xs <;> rfl
      | cons b m ih =>
        intro hm
        have := hm b List.mem_cons_self
        subst this
        cases xs with
        | nil => rfl
        | cons x xs => exact ih xs fun b hb => hm b (List.mem_cons_of_mem _ hb)
    refine ⟨[], [], .refl _, ?_⟩
    show Rels P w B H (selL m vs) [] []
    rw [e1 vs m all]
    exact .nil
  | true :: m, v :: vs, _, _, _, .no r, h, l => by
    have := h 0 rfl
    simp at this
  | true :: m, v :: vs, _, _, _, .so (O := O1) x r, h, l => by
    have e := h 0 rfl
    simp at e
    subst e
    obtain ⟨Od, O', p, q⟩ := RelS.sel (m := m) (vs := vs) r (fun i hi => by simpa using h (i + 1) (by simpa using hi)) (by simpa using l)
    exact ⟨Od, O1 ++ O', perm_rot p, .cons x q⟩
  | false :: m, v :: vs, _, _, _, .no r, h, l => by
    obtain ⟨Od, O', p, q⟩ := RelS.sel (m := m) (vs := vs) r (fun i hi => by simpa using h (i + 1) (by simpa using hi)) (by simpa using l)
    exact ⟨Od, O', p, q⟩
  | false :: m, v :: vs, _, _, _, .so (O := O1) x r, h, l => by
    obtain ⟨Od, O', p, q⟩ := RelS.sel (m := m) (vs := vs) r (fun i hi => by simpa using h (i + 1) (by simpa using hi)) (by simpa using l)
    refine ⟨O1 ++ Od, O', ?_, q⟩
    rw [List.append_assoc]
    exact p.append_left O1
end
section
variable {P : Program} {w : World} {K : PySem.W.Frag} {H : Hp} {B : Addr → Prop} {O : List Addr} {E : XK} {m : List Bool} {vs : List V} {ps : List PV}
theorem start_stt {N : List Str} (mk : HK.Mk H) (r : Rels P w B H vs ps O) (nd : O.Nodup) (hO : ∀ a ∈ O, B a) (wf : ∀ a, B a → ∃ o, H a = some o) (lm : m.length ≤ vs.length) :
    Stt (bdOf P w K H (fun a => B a ∧ a ∉ O) O E m vs) (start N vs) (ps ++ List.replicate (N.length - ps.length) .un) [] [] H := by
  refine ⟨⟨B, O, [], ?_, .nil, by simpa using nd, fun a => ?_, fun a h => ?_, fun a h => wf a h.1, fun a o h _ => h⟩, fun i hi => ?_, mk⟩
  · unfold L2.start
    rw [r.len]
    exact RelS.start _ r
  · rw [List.append_nil]
    constructor
    · intro h
      by_cases z : a ∈ O
      · exact .inr z
      · exact .inl ⟨h, z⟩
    · rintro (h | h)
      · exact h.1
      · exact hO a h
  · rw [List.append_nil] at h
    exact ⟨fun z => z.2 h, .inl h⟩
  · have hi' : m.getD i false = true := hi
    have li : i < m.length := by
      apply Classical.byContradiction
      intro z
      rw [List.getD_eq_getElem?_getD, List.getElem?_eq_none (by omega)] at hi'
      cases hi'
    unfold L2.start
    rw [List.getElem?_append_left (by rw [List.length_map]; omega), List.getElem?_map]
    show Option.map some vs[i]? = some (some (vs.getD i V.non))
    rw [List.getD_eq_getElem?_getD, List.getElem?_eq_getElem (by omega)]
    rfl
theorem end_post {σ : L2.St} {τ : En} {ws : List V} {rs : List PV} {H' : Hp} (s : Stt (bdOf P w K H (fun a => B a ∧ a ∉ O) O E m vs) σ τ ws rs H') (lm : m.length ≤ vs.length) : PostF P w B O H (ws ++ selL m vs) (rs ++ selL m τ) H' := by
  obtain ⟨⟨B', O1, O2, r1, r2, nd, hb, ho, wf, fr⟩, pn⟩ := s
  obtain ⟨Od, Os, p, q⟩ := RelS.sel (m := m) (vs := vs) r1 pn.1 lm
  have pm : (O1 ++ O2).Perm (Od ++ (O2 ++ Os)) := by
    refine (p.append_right O2).trans ?_
    rw [List.append_assoc]
    exact List.Perm.append_left Od List.perm_append_comm
  have s2 : St0 (bdOf P w K H (fun a => B a ∧ a ∉ O) O E m vs) (σ.map fun _ => none) (τ.map fun _ => .un) (ws ++ selL m vs) (rs ++ selL m τ) H' := by
    refine .mk' (O1' := []) (Od := Od) nd hb ho wf fr ?_ (r2.append q) (by simpa using pm)
    clear pm p q pn nd ho hb
    induction r1 with
    | nil => exact .nil
    | no r ih => exact .no ih
    | so x r ih => exact .no ih
  obtain ⟨B2, P1, P2, t1, t2, nd2, hb2, ho2, wf2, fr2⟩ := s2
  have e1 : P1 = [] := by
    clear nd2 hb2 ho2
    generalize σ.map (fun _ => (none : Option V)) = σ' at t1
    have : ∀ {σ' : L2.St} {τ' : En} {Q : List Addr}, RelS P w B2 H' σ' τ' Q → (∀ x ∈ τ', x = PV.un) → Q = [] := by
      intro σ' τ' Q r
      induction r with
      | nil => exact fun _ => rfl
      | no r ih => exact fun h => ih fun x m => h x (List.mem_cons_of_mem _ m)
      | so x r ih =>
        intro h
        have e := h _ List.mem_cons_self
        subst e
        cases x
        exact ih fun x m => h x (List.mem_cons_of_mem _ m)
    refine this t1 fun x hx => ?_
    obtain ⟨_, _, e⟩ := List.mem_map.mp hx
    exact e.symm
  subst e1
  refine ⟨P2, ?_, by simpa using nd2, fun a h => ho2 a (by simpa using h), fr2⟩
  have e : B2 = fun a => (B a ∧ a ∉ O) ∨ a ∈ P2 := by
    funext a
    refine propext ?_
    rw [hb2 a]
    simp
  rw [← e]
  exact t2
/-- the end of a body's run -/
theorem run_body {N : List Str} {t : TS} {b : En → Rs Fl} {n : Nat} {Q : VK} (hs : spF P w n m (runF N.length m b) vs H Q E) (lm : m.length ≤ n) (hb : ∀ B O, MS (bdOf P w K H B O E m vs) t b) : t { nx := fun _ H' => Q .non H', rt := Q } (start N vs) H := by
  obtain ⟨ln, mk, B, ps, O, r, nd, hO, wf, k⟩ := hs
  have lm' : m.length ≤ vs.length := by omega
  refine hb _ _ (start N vs) _ [] [] H _ (start_stt mk r nd hO wf lm') ?_
  have run : runF N.length m b ps = bnd (b (ps ++ List.replicate (N.length - ps.length) .un)) fun
    | .rt p τ => .ok (p, selL m τ)
    | .nx τ => .ok (.non, selL m τ)
    | _ => .no := rfl
  rw [run] at k
  cases e : b (ps ++ List.replicate (N.length - ps.length) .un) with
  | no => rw [e] at k; exact k.elim
  | err x τ =>
    rw [e] at k
    intro σ d H' _ ⟨xs, hx, hl, s⟩
    refine k d xs H' hx hl ?_
    obtain ⟨s0, pn⟩ := s
    have z := end_post (m := []) (vs := vs) (σ := σ) (τ := τ) (ws := xs) (rs := x.ps) (H' := H') (H := H) (B := B) (O := O) (P := P) (w := w) (K := K) (E := E) ⟨?_, fun i hi => by simp at hi, pn.2⟩ (Nat.zero_le _)
    · have e1 : selL [] vs = [] := by cases vs <;> rfl
      have e2 : selL [] τ = [] := by cases τ <;> rfl
      rw [e1, e2, List.append_nil, List.append_nil] at z
      exact z
    · exact s0
  | ok fl =>
    rw [e] at k
    cases fl with
    | nx τ =>
      intro σ H' s
      exact k _ _ (end_post (ws := [.non]) (rs := [.non]) (s.sc (p := .non) rfl) lm')
    | rt p τ =>
      intro σ v H' s
      exact k _ _ (end_post (ws := [v]) (rs := [p]) s lm')
    | bk τ => exact k.elim
    | ct τ => exact k.elim
end
section
variable {P : Program} {w : World} {K : PySem.W.Frag} {mg : Str → Option Value} {base : Heap}
/-- a def that raises nothing -/
theorem okF {x qual : Str} {st : Stmt} {f : Addr} {fd : FuncData} {N ps : List Str} {k : Nat} {m : List Bool} {b : En → Rs Fl} (F : Fun K x qual st f fd) (S : FnScope N ps (defScope st)) (lm : m.length ≤ ps.length)
    (hbody : ∀ (cdv : Value) (A : Around) (outer : List Env) (s : Shared) (H : Hp) (vs : List V) (E : XK), HK.Quiet (A.deeper (envOfC qual (defScope st) s.heap.objs.size f cdv)) → Room k (A.deeper (envOfC qual (defScope st) s.heap.objs.size f cdv)) →
      ∃ t, PSs (cxOf CX0 P w K mg base N qual (defScope st) f cdv A outer s H E).nox (defBody st) t ∧ ∀ B O, MS (bdOf P w K H B O E m vs) t b) :
    HK.FnG P w K mg base CX0 (k + 1) f fd ps (spF P w ps.length m (runF N.length m b)) := by
  refine HK.fnG F S (fun vs H Q E h => h.1) fun cdv A outer s H vs Q E hq hr hs => ?_
  obtain ⟨t, ht, hb⟩ := hbody cdv A outer s H vs E hq hr
  exact ⟨t, ht, run_body hs lm hb⟩
end
/-! ### calls -/
def weave {α : Type} : List Bool → List α → List α → List α
  | true :: m, i :: is, vs => i :: weave m is vs
  | false :: m, is, v :: vs => v :: weave m is vs
  | _, _, _ => []
theorem Rels.weave {P : Program} {w : World} {B : Addr → Prop} {H : Hp} : ∀ {m : List Bool} {is vs : List V} {qs ps : List PV} {O1 O2 : List Addr}, Rels P w B H is qs O1 → Rels P w B H vs ps O2 → ∃ Od O', (O1 ++ O2).Perm (Od ++ O') ∧ Rels P w B H (weave m is vs) (FL.weave m qs ps) O'
  | [], _, _, _, _, O1, O2, r1, r2 => ⟨O1 ++ O2, [], by simp, by unfold FL.weave; exact .nil⟩
  | true :: m, _, _, _, _, _, O2, .nil, r2 => ⟨O2, [], by simp, by unfold FL.weave; exact .nil⟩
  | true :: m, _, _, _, _, _, O2, .cons (O := O) (O' := O') x r1, r2 => by
    obtain ⟨Od, Or, p, q⟩ := Rels.weave (m := m) r1 r2
    refine ⟨Od, O ++ Or, ?_, by unfold FL.weave; exact .cons x q⟩
    rw [List.append_assoc]
    exact perm_rot p
  | false :: m, _, _, _, _, O1, _, r1, .nil => ⟨O1, [], by simp, by unfold FL.weave; exact .nil⟩
  | false :: m, _, _, _, _, O1, _, r1, .cons (O := O) (O' := O') x r2 => by
    obtain ⟨Od, Or, p, q⟩ := Rels.weave (m := m) r1 r2
    refine ⟨Od, O ++ Or, ?_, by unfold FL.weave; exact .cons x q⟩
    refine List.Perm.trans ?_ (perm_rot p)
    rw [← List.append_assoc, ← List.append_assoc]
    exact List.perm_append_comm.append_right _
def takes : List Nat → En → Option (List PV × En)
  | [], τ => some ([], τ)
  | i :: is, τ => match τ[i]? with
    | none => none
    | some .un => none
    | some p => match takes is (τ.set i .un) with
      | some (ps, τ') => some (p :: ps, τ')
      | none => none
def puts : List Nat → List PV → En → En
  | i :: is, p :: ps, τ => puts is ps (τ.set i p)
  | _, _, τ => τ
section
variable {c : Bd}
def MX (c : Bd) (t : TA) (ks : List Nat) (m : List Bool) (f : En → Rs (List PV × En)) : Prop := (∀ τ r, f τ = .ok r → r.1.length = (m.filter (!·)).length) ∧ ∀ σ τ hv hp H Q, Stt c σ τ hv hp H → Aft c (· = σ) (f τ) (fun r => ∀ vals ios H', Stt c σ r.2 (hv ++ vals) (hp ++ r.1) H' → ios.map some = ks.map (fun i => (σ[i]?).join) → Q (weave m ios vals) H') → t σ H Q
theorem mx_nil : MX c tNil [] [] vnil := ⟨fun τ r e => by cases e; rfl, fun σ τ hv hp H Q s h => by
  have := h [] [] H (by simpa using s) rfl
  exact this⟩
theorem mx_val {t : TE} {u : TA} {ks : List Nat} {m : List Bool} {f : En → Rs (PV × En)} {g : En → Rs (List PV × En)} (h : ME c t f) (h' : MX c u ks m g) : MX c (tCons t u) ks (false :: m) (vcons f g) := ⟨fun τ r e => by
    unfold vcons at e
    cases e1 : f τ with
    | no => rw [e1] at e; cases e
    | err x y => rw [e1] at e; cases e
    | ok a =>
      rw [e1] at e
      simp only [bnd_ok] at e
      cases e2 : g a.2 with
      | no => rw [e2] at e; cases e
      | err x y => rw [e2] at e; cases e
      | ok b =>
        rw [e2] at e
        cases e
        simp [h'.1 _ _ e2], fun σ τ hv hp H Q s k => h σ τ hv hp H _ s (aft_mono (aft_bnd k) fun a k v H1 s1 => h'.2 σ a.2 _ _ H1 _ s1 (aft_mono (aft_bnd k) fun b k vals ios H2 s2 e => k (v :: vals) ios H2 (by simpa using s2) e))⟩
/-- the slot holds something that may be handed over -/
def has (i : Nat) (g : En → Rs (List PV × En)) (τ : En) : Rs (List PV × En) := match τ[i]? with
  | none => .no
  | some .un => .no
  | some _ => g τ
theorem mx_io (i : Nat) {u : TA} {ks : List Nat} {m : List Bool} {g : En → Rs (List PV × En)} (h' : MX c u ks m g) : MX c (tCons (tVar i) u) (i :: ks) (true :: m) (has i g) := ⟨fun τ r e => by
    unfold has at e
    split at e
    · cases e
    · cases e
    · simp [h'.1 _ _ e], fun σ τ hv hp H Q s k => by
  unfold has at k
  split at k
  · exact k.elim
  · exact k.elim
  · rename_i p n e
    obtain ⟨v, hs, _⟩ := s.move e (fun z => n z)
    refine ⟨v, hs, h'.2 σ τ hv hp H _ s (aft_mono k fun b k vals ios H2 s2 eq => k vals (v :: ios) H2 s2 ?_)⟩
    rw [List.map_cons, List.map_cons, eq, hs]
    rfl⟩
def cal (m : List Bool) (F : FnF) (ks : List Nat) (fa : En → Rs (List PV × En)) (τ : En) : Rs (PV × En) := bnd (fa τ) fun a => match takes ks a.2 with
  | none => .no
  | some (ios, τ2) => match F (weave m ios a.1) with
    | .ok r => .ok (r.1, puts ks r.2 τ2)
    | _ => .no
theorem Stt.takes {σ : L2.St} {H : Hp} : ∀ {ks : List Nat} {τ τ2 : List PV} {hv : List V} {hp ios : List PV}, Stt c σ τ hv hp H → FL.takes ks τ = some (ios, τ2) → ∃ vs : List V, vs.map some = ks.map (fun i => (σ[i]?).join) ∧ Stt c σ τ2 (hv ++ vs) (hp ++ ios) H ∧ (∀ i ∈ ks, τ2[i]? = some PV.un) ∧ ∀ i : Nat, τ[i]? = some PV.un → τ2[i]? = some PV.un
  | [], τ, τ2, hv, hp, ios, s, e => by
    cases e
    exact ⟨[], rfl, by simpa using s, fun i m => (List.not_mem_nil m).elim, fun i h => h⟩
  | i :: ks, τ, τ2, hv, hp, ios, s, e => by
    unfold FL.takes at e
    split at e
    · cases e
    · cases e
    · rename_i p n h
      split at e
      · rename_i ps τ' e'
        cases e
        obtain ⟨v, hs, s1⟩ := s.move h (fun z => n z)
        obtain ⟨vs, q1, q2, q3, q4⟩ := Stt.takes s1 e'
        have li := (List.getElem?_eq_some_iff.mp h).1
        have un : (τ.set i PV.un)[i]? = some .un := by rw [List.getElem?_set_self li]
        refine ⟨v :: vs, by rw [List.map_cons, List.map_cons, q1, hs]; rfl, by simpa using q2, fun j m => ?_, fun j hj => ?_⟩
        · rcases List.mem_cons.mp m with z | z
          · subst z; exact q4 j un
          · exact q3 j z
        · by_cases z : i = j
          · subst z; exact q4 i un
          · exact q4 j (by rw [List.getElem?_set_ne z]; exact hj)
      · cases e
theorem Stt.puts {σ : L2.St} {H : Hp} : ∀ {ks : List Nat} {τ : List PV} {hv vs : List V} {hp qs : List PV}, Stt c σ τ (hv ++ vs) (hp ++ qs) H → hv.length = hp.length → vs.map some = ks.map (fun i => (σ[i]?).join) → ks.Nodup → (∀ i ∈ ks, τ[i]? = some PV.un) → Stt c σ (FL.puts ks qs τ) hv hp H
  | [], τ, hv, vs, hp, qs, s, l, e, nd, h => by
    have e' : vs = [] := by simpa using e
    subst e'
    have l2 := Stt.lenL l s (H' := H)
    match qs, l2 with
    | [], _ => simpa [FL.puts] using s
  | i :: ks, τ, hv, [], hp, qs, s, l, e, nd, h => by simp at e
  | i :: ks, τ, hv, v :: vs, hp, qs, s, l, e, nd, h => by
    rw [List.map_cons, List.map_cons] at e
    injection e with e1 e2
    have l2 := Stt.lenL l s (H' := H)
    match qs, l2 with
    | q :: qs, _ =>
      have hs : σ[i]? = some (some v) := by
        cases z : σ[i]? with
        | none => rw [z] at e1; cases e1
        | some o => rw [z] at e1; exact congrArg some e1.symm
      have s1 : Stt c σ τ (hv ++ vs ++ [v]) (hp ++ qs ++ [q]) H := by
        rw [List.append_assoc, List.append_assoc]
        refine s.part l fun B O r => ?_
        cases r with
        | cons x r => exact ⟨[], _, List.perm_append_comm, r.append (.one x)⟩
      have s2 := s1.back (h i List.mem_cons_self) hs
      obtain ⟨n1, n2⟩ := List.nodup_cons.mp nd
      exact Stt.puts (ks := ks) s2 l e2 n2 fun j m => by
        rw [List.getElem?_set_ne (fun z : i = j => n1 (by rw [z]; exact m))]
        exact h j (List.mem_cons_of_mem _ m)
theorem selL_weave {α : Type} : ∀ {m : List Bool} {is vs : List α}, is.length = (m.filter id).length → vs.length = (m.filter (!·)).length → selL m (weave m is vs) = is ∧ (weave m is vs).length = m.length
  | [], is, vs, h1, h2 => by
    have e : is = [] := List.eq_nil_of_length_eq_zero h1
    subst e
    exact ⟨by unfold weave selL; rfl, by unfold weave; rfl⟩
  | true :: m, [], vs, h1, h2 => by simp at h1
  | true :: m, i :: is, vs, h1, h2 => by
    obtain ⟨a, b⟩ := selL_weave (m := m) (is := is) (vs := vs) (by simpa using h1) (by simpa using h2)
    exact ⟨by simp [weave, selL, a], by simp [weave, b]⟩
  | false :: m, is, [], h1, h2 => by simp at h2
  | false :: m, is, v :: vs, h1, h2 => by
    obtain ⟨a, b⟩ := selL_weave (m := m) (is := is) (vs := vs) (by simpa using h1) (by simpa using h2)
    exact ⟨by simp [weave, selL, a], by simp [weave, b]⟩
theorem filt {α : Type} {m : List Bool} {is vs : List α} (h1 : is.length = (m.filter id).length) (h2 : vs.length = m.length - (m.filter id).length) : vs.length = (m.filter (!·)).length := by
  have : ∀ m : List Bool, (m.filter id).length + (m.filter (!·)).length = m.length := by
    intro m
    induction m with
    | nil => rfl
    | cons b m ih => cases b <;> simp <;> omega
  have := this m
  omega
theorem te_call {n : Nat} {m : List Bool} {F : FnF} {ks : List Nat} {t : TA} {fa : En → Rs (List PV × En)} (ha : MX c t ks m fa) (nd : ks.Nodup := by decide) (lk : ks.length = (m.filter id).length := by rfl) (ln : m.length = n := by rfl) :
    ME c (tCall (spF c.P c.w n m F) [] E0 t) (cal m F ks fa) := fun σ τ hv hp H Q s k => ha.2 σ τ hv hp H _ s (by
  have k := aft_bnd k
  cases ef : fa τ with
  | no => rw [ef] at k; exact k
  | err e τ1 => rw [ef] at k; exact k
  | ok a =>
  rw [ef] at k
  intro vals ios H1 s1 e
  have k : Aft c (· = σ) (match takes ks a.2 with
    | none => .no
    | some (ios, τ2) => match F (weave m ios a.1) with
      | .ok r => .ok (r.1, puts ks r.2 τ2)
      | _ => .no) (fun r : PV × En => ∀ v H', Stt c σ r.2 (hv ++ [v]) (hp ++ [r.1]) H' → Q v H') := k
  cases et : takes ks a.2 with
  | none => rw [et] at k; exact k.elim
  | some r =>
    obtain ⟨ps, τ2⟩ := r
    rw [et] at k
    simp only at k
    obtain ⟨vs, q1, q2, q3, _⟩ := s1.takes et
    have ev : vs = ios := by
      have := q1.trans e.symm
      exact List.map_inj_right (fun _ _ h => Option.some.inj h) |>.mp this
    subst ev
    have l1 := s.len
    have lvs : vs.length = (m.filter id).length := by rw [← lk]; simpa using congrArg List.length q1
    have lvals := Stt.lenL l1 s1 (H' := H1)
    have s2 : Stt c σ τ2 (hv ++ weave m vs vals) (hp ++ weave m ps a.1) H1 := by
      rw [List.append_assoc, List.append_assoc] at q2
      refine q2.part l1 fun B O r => ?_
      obtain ⟨Oa, Ob, eo, ra, rb⟩ := r.split lvals
      subst eo
      obtain ⟨Od, O', p, q⟩ := Rels.weave (m := m) rb ra
      exact ⟨Od, O', List.perm_append_comm.trans p, q⟩
    obtain ⟨w1, w2⟩ := selL_weave (m := m) (is := vs) (vs := vals) lvs (by rw [lvals]; exact ha.1 τ a ef)
    obtain ⟨B, O, r, nd', hO, wf, back⟩ := s2.handed l1
    rw [List.append_nil]
    refine ⟨by rw [w2, ln], s2.2.2, B, _, O, r, nd', hO, wf, ?_⟩
    cases eF : F (weave m ps a.1) with
    | no => rw [eF] at k; exact k.elim
    | err x y => rw [eF] at k; exact k.elim
    | ok r =>
      rw [eF] at k
      intro v H' po
      rw [w1] at po
      have s3 := back _ _ _ po
      have s4 : Stt c σ τ2 (hv ++ [v] ++ vs) (hp ++ [r.1] ++ r.2) H' := by simpa using s3
      exact k v H' (s4.puts (by simp [l1]) q1 nd q3))
end
end FL

namespace FL
open PySem PySem.Spec PyProof.Rows L2
mutual
/-- nothing of it is owned -/
def isFz : PV → Bool
  | .un => true
  | .non => true
  | .bl _ => true
  | .int _ => true
  | .str _ => true
  | .tup ps => isFzs ps
  | .lst o ps => !o && isFzs ps
  | .dct o _ es => !o && isFzs es
  | .ins _ _ ps => isFzs ps
  | .exc _ _ _ ps => isFzs ps
def isFzs : List PV → Bool
  | [] => true
  | p :: ps => isFz p && isFzs ps
end
mutual
theorem fz_of : ∀ {p : PV}, isFz p = true → fz p = p
  | .un, _ => rfl
  | .non, _ => rfl
  | .bl _, _ => rfl
  | .int _, _ => rfl
  | .str _, _ => rfl
  | .tup ps, h => by rw [fz, fzs_of (by rwa [isFz] at h)]
  | .lst o ps, h => by
    rw [isFz, Bool.and_eq_true] at h
    rw [fz, fzs_of h.2]
    cases o with
    | false => rfl
    | true => exact absurd h.1 (by decide)
  | .dct o t es, h => by
    rw [isFz, Bool.and_eq_true] at h
    rw [fz, fzs_of h.2]
    cases o with
    | false => rfl
    | true => exact absurd h.1 (by decide)
  | .ins _ _ ps, h => by rw [fz, fzs_of (by rwa [isFz] at h)]
  | .exc _ _ _ ps, h => by rw [fz, fzs_of (by rwa [isFz] at h)]
theorem fzs_of : ∀ {ps : List PV}, isFzs ps = true → fzs ps = ps
  | [], _ => rfl
  | p :: ps, h => by
    rw [isFzs, Bool.and_eq_true] at h
    rw [fzs, fz_of h.1, fzs_of h.2]
end
theorem isFzs_all : ∀ ps, isFzs ps = ps.all isFz
  | [] => rfl
  | p :: ps => by rw [isFzs, List.all_cons, isFzs_all ps]
section
variable {c : Bd}
/-! ### built-ins by name -/
abbrev Lop := List PV → Option PV
def LC (c : Bd) (r : List V → Hp → VK → Prop) (g : Lop) : Prop := ∀ σ τ hv hp H vs ps z Q, hv.length = hp.length → Stt c σ τ (hv ++ vs) (hp ++ ps) H → g ps = some z → (∀ v H', Stt c σ τ (hv ++ [v]) (hp ++ [z]) H' → Q v H') → r vs H Q
def cb (g : Lop) (fa : En → Rs (List PV × En)) (τ : En) : Rs (PV × En) := bnd (fa τ) fun a => opt (g a.1) a.2
theorem te_cb {r : List V → Hp → VK → Prop} {g : Lop} {t : TA} {fa : En → Rs (List PV × En)} (hr : LC c r g) (ha : MA c t fa) : ME c (tCB r t) (cb g fa) := fun σ τ hv hp H Q s k => ha σ τ hv hp H _ s (aft_mono (aft_bnd k) fun a k vs H1 s1 => by
  cases e : g a.1 with
  | none => rw [e] at k; exact k.elim
  | some z => rw [e] at k; exact hr σ a.2 hv hp H1 vs a.1 z Q s.len s1 e k)
/-- of one thing, which stays at hand -/
def L1b (c : Bd) (r : V → Hp → VK → Prop) (g : Uop) : Prop := ∀ σ τ hv hp H x p z Q, Stt c σ τ (hv ++ [x]) (hp ++ [p]) H → g p = some z → (∀ v H', Stt c σ τ (hv ++ [v] ++ [x]) (hp ++ [z] ++ [p]) H' → Q v H') → r x H Q
def on1 (g : Uop) : Lop
  | [p] => g p
  | _ => none
theorem L1b.lc {r : List V → Hp → VK → Prop} {g : Uop} (h : L1b c (fun x => r [x]) g) : LC c r (on1 g) := fun σ τ hv hp H vs ps z Q l s e k => by
  have l2 := Stt.lenL l s (H' := H)
  match ps, vs, l2, e with
  | [p], [x], _, e => exact h σ τ hv hp H x p z Q s e fun v H' s' => k v H' s'.pop
theorem L1b.l1 {r : V → Hp → VK → Prop} {g : Uop} (h : L1b c r g) : L1op c r g := fun σ τ hv hp H x p z Q s e k => h σ τ hv hp H x p z Q s e fun v H' s' => k v H' s'.pop
/-- .. of a slot, which keeps it -/
def cbB (g : Uop) (i : Nat) (τ : En) : Rs (PV × En) := match τ[i]? with
  | none => .no
  | some .un => .no
  | some p => opt (g p) τ
theorem set_back {τ : En} {i : Nat} {p : PV} (h : τ[i]? = some p) : (τ.set i .un).set i p = τ := by
  rw [List.set_set]
  obtain ⟨l, e⟩ := List.getElem?_eq_some_iff.mp h
  rw [← e, List.set_getElem_self]
theorem te_cbB {r : List V → Hp → VK → Prop} {g : Uop} (h : L1b c (fun x => r [x]) g) (i : Nat) : ME c (tCB r (tCons (tVar i) tNil)) (cbB g i) := fun σ τ hv hp H Q s k => by
  unfold cbB at k
  split at k
  · exact k.elim
  · exact k.elim
  · rename_i p n e
    obtain ⟨v, hs, s1⟩ := s.move e (fun z => n z)
    refine ⟨v, hs, ?_⟩
    cases eg : g p with
    | none => rw [eg] at k; exact k.elim
    | some z =>
      rw [eg] at k
      refine h σ _ hv hp H v p z Q s1 eg fun u H' s' => k u H' ?_
      have li := (List.getElem?_eq_some_iff.mp e).1
      have := s'.back (by rw [List.getElem?_set_self li]) hs
      rwa [set_back e] at this
/-- what the last thing at hand is, and what is new behind it -/
theorem Stt.add {σ : L2.St} {τ : En} {hv : List V} {hp : List PV} {x u : V} {p z : PV} {H : Hp} (s : Stt c σ τ (hv ++ [x]) (hp ++ [p]) H) (e : sv z = some u) : Stt c σ τ (hv ++ [u] ++ [x]) (hp ++ [z] ++ [p]) H := (s.sc e).swap
/-! ### len -/
def gLen : Uop
  | .lst _ ps => some (.int ps.length)
  | .tup ps => some (.int ps.length)
  | _ => none
theorem l_len : L1b c (fun x H Q => ∃ p ys, [x] = [V.ref p] ∧ (SqL c.K H p ys ∨ SqT c.K H p ys) ∧ Q (.int ys.length) H) gLen := fun σ τ hv hp H x p z Q s e k => by
  obtain ⟨B, O, r⟩ := s.top
  cases p <;> simp only [gLen, Option.some.injEq, reduceCtorEq] at e
  · subst e
    obtain ⟨a, xs, rfl, h, r⟩ := r.tup_at
    exact ⟨a, xs, rfl, .inr (SqT.of h), k _ H (by rw [r.len]; exact s.add rfl)⟩
  · subst e
    obtain ⟨a, xs, rfl, h, l⟩ := r.lst_at
    exact ⟨a, xs, rfl, .inl (SqL.of h), k _ H (by rw [l]; exact s.add rfl)⟩
def gLenS : Uop
  | .str x => if fits x.length = true then some (.int x.length) else none
  | _ => none
theorem l_lenS : L1b c (fun v H Q => ∃ x, [v] = [V.str x] ∧ x.length ≤ sizeLine ∧ Q (.int x.length) H) gLenS := fun σ τ hv hp H x p z Q s e k => by
  cases p <;> simp only [gLenS, Option.some.injEq, reduceCtorEq] at e
  split at e
  · rename_i f
    cases e
    cases s.top_sv rfl
    exact ⟨_, rfl, fits_ok f, k _ H (s.add rfl)⟩
  · cases e
/-! ### isinstance -/
def tyP : PV → Option String
  | .un => none
  | .non => some "NoneType"
  | .bl _ => some "bool"
  | .int _ => some "int"
  | .str _ => some "str"
  | .tup _ => some "tuple"
  | .lst _ _ => some "list"
  | .dct _ t _ => if t = true then none else some "dict"
  | .ins _ _ _ => none
  | .exc _ _ _ _ => none
def kb (n T : String) : Bool := n == T || (n == "bool" && T == "int")
def kbT (T : String) : Bool := ["str", "int", "bool", "list", "tuple", "dict"].contains T
theorem kb_ok {n T : String} {p : PV} (h : tyP p = some n) (hT : kbT T = true) : L2.kitB n T = some (kb n T) := by
  have all : ∀ n ∈ ["NoneType", "bool", "int", "str", "tuple", "list", "dict"], ∀ T ∈ ["str", "int", "bool", "list", "tuple", "dict"], L2.kitB n T = some (kb n T) := by decide +kernel
  have hn : n ∈ ["NoneType", "bool", "int", "str", "tuple", "list", "dict"] := by
    cases p <;> simp only [tyP, Option.some.injEq, reduceCtorEq] at h
    case dct o t es =>
      split at h
      · cases h
      · cases h; simp
    all_goals (subst h; simp)
  exact all n hn T (by simpa [kbT] using hT)
theorem Rel.ty {P : Program} {w : World} {K : PySem.W.Frag} {B : Addr → Prop} {H : Hp} {v : V} {p : PV} {O : List Addr} {n : String} (r : Rel P w B H v p O) (h : tyP p = some n) : TyX K H v (.type n) := by
  cases r <;> simp only [tyP, Option.some.injEq, reduceCtorEq, if_true, Bool.false_eq_true, if_false] at h <;> subst h
  case non => exact .base .non
  case bl => exact .base (.bl _)
  case int => exact .base (.int _)
  case str => exact .base (.str _)
  case tup n h r => exact .base (.tup h)
  case lstF n h r => exact .base (.lst h)
  case lstO h r => exact .base (.lst h)
  case dctF n h r => exact .base (.dK h)
  case dctO h r => exact .base (.dK h)
/-- isinstance(e, T), T a built-in class -/
def isi (T : String) (f : En → Rs (PV × En)) (τ : En) : Rs (PV × En) := bnd (f τ) fun a => match tyP a.1 with
  | some n => .ok (.bl (kb n T), a.2)
  | none => .no
theorem te_isi {T : String} {t : TE} {f : En → Rs (PV × En)} (h : ME c t f) (hT : kbT T = true := by decide) : ME c (tCB (rIsi c.K) (tCons t (tCons (tC (.ty T)) tNil))) (isi T f) := fun σ τ hv hp H Q s k => h σ τ hv hp H _ s (aft_mono (aft_bnd k) fun a k v H1 s1 => by
  cases e : tyP a.1 with
  | none => rw [e] at k; exact k.elim
  | some n =>
    rw [e] at k
    obtain ⟨B, O, r⟩ := s1.top
    exact ⟨v, .ty T, _, _, _, rfl, .ty T, r.ty e, kit_ty (kb_ok e hT), k _ H1 (s1.pop.sc rfl)⟩)
/-! ### items -/
def ixL : Bop := fun p q => match p, q with
  | .lst _ ps, .int i => atI ps i
  | _, _ => none
def ixT : Bop := fun p q => match p, q with
  | .tup ps, .int i => atI ps i
  | _, _ => none
def ixS : Bop := fun p q => match p, q with
  | .str z, .int i => if fits z.length = true then (atI z.cps.toList i).map fun c => .str ⟨#[c]⟩ else none
  | _, _ => none
theorem Rels.atI {P : Program} {w : World} {B : Addr → Prop} {H : Hp} {xs : List V} {ps : List PV} {O : List Addr} {i : Int} {z : PV} (r : Rels P w B H xs ps O) (e : L2.atI ps i = some z) : ∃ v Oi O', L2.atI xs i = some v ∧ Rel P w B H v z Oi ∧ O.Perm (Oi ++ O') := by
  unfold L2.atI at e ⊢
  rw [r.len]
  obtain ⟨j, h1, h2⟩ := Option.bind_eq_some_iff.mp e
  obtain ⟨v, Oi, O', e1, e2, e3, _⟩ := r.at' h2
  exact ⟨v, Oi, O', by rw [h1]; exact e1, e2, e3⟩
theorem ixL_eq {p q z : PV} (h : ixL p q = some z) : ∃ o ps i, p = .lst o ps ∧ q = .int i ∧ L2.atI ps i = some z := by
  unfold ixL at h
  split at h
  · exact ⟨_, _, _, rfl, rfl, h⟩
  · cases h
theorem ixT_eq {p q z : PV} (h : ixT p q = some z) : ∃ ps i, p = .tup ps ∧ q = .int i ∧ L2.atI ps i = some z := by
  unfold ixT at h
  split at h
  · exact ⟨_, _, rfl, rfl, h⟩
  · cases h
theorem Rel.lstI {P : Program} {w : World} {B : Addr → Prop} {H : Hp} {a : Addr} {xs : List V} {o : Bool} {ps : List PV} {O : List Addr} (r : Rel P w B H (.ref a) (.lst o ps) O) (hx : H a = some (.lst xs)) : ∃ Oa O', O.Perm (Oa ++ O') ∧ Rels P w B H xs ps O' := by
  cases r with
  | lstF n h r => rw [hx] at h; cases h; exact ⟨[], [], .refl _, r⟩
  | @lstO _ _ _ O h r => rw [hx] at h; cases h; exact ⟨[a], O, .refl _, r⟩
theorem Rel.tupI {P : Program} {w : World} {B : Addr → Prop} {H : Hp} {a : Addr} {xs : List V} {ps : List PV} {O : List Addr} (r : Rel P w B H (.ref a) (.tup ps) O) (hx : H a = some (.tup xs)) : Rels P w B H xs ps O := by
  cases r with
  | tup n h r => rw [hx] at h; cases h; exact r
theorem lix_list : L2op c (rIxL c.K) ixL := fun σ τ hv hp H x y p q z Q s e k => by
  obtain ⟨o, ps, i, rfl, rfl, e⟩ := ixL_eq e
  cases s.top_sv rfl
  have s := s.pop
  obtain ⟨B, O, r⟩ := s.top
  obtain ⟨a, xs, rfl, h, l⟩ := r.lst_at
  obtain ⟨Oa, O', _, r'⟩ := r.lstI h
  obtain ⟨v, _, _, ev, _, _⟩ := r'.atI e
  refine ⟨a, xs, i, v, rfl, rfl, SqL.of h, ev, k v H (s.part s.lenT fun B O r => ?_)⟩
  obtain ⟨Oa, O', p1, r'⟩ := r.one'.lstI h
  obtain ⟨v', Oi, Or, ev', rv, p2⟩ := r'.atI e
  rw [ev] at ev'
  cases ev'
  refine ⟨Oa ++ Or, Oi, p1.trans ?_, .one rv⟩
  refine (p2.append_left Oa).trans ?_
  rw [List.append_assoc]
  exact List.Perm.append_left Oa List.perm_append_comm
theorem lix_tup : L2op c (rIxT c.K) ixT := fun σ τ hv hp H x y p q z Q s e k => by
  obtain ⟨ps, i, rfl, rfl, e⟩ := ixT_eq e
  cases s.top_sv rfl
  have s := s.pop
  obtain ⟨B, O, r⟩ := s.top
  obtain ⟨a, xs, rfl, h, r'⟩ := r.tup_at
  obtain ⟨v, _, _, ev, _, _⟩ := r'.atI e
  refine ⟨a, xs, i, v, rfl, rfl, SqT.of h, ev, k v H (s.part s.lenT fun B O r => ?_)⟩
  obtain ⟨v', Oi, Or, ev', rv, p2⟩ := (r.one'.tupI h).atI e
  rw [ev] at ev'
  cases ev'
  exact ⟨Or, Oi, p2.trans List.perm_append_comm, .one rv⟩
theorem lix_str : L2op c rIxS ixS := l2_sc fun p q z e => by
  unfold ixS at e
  split at e
  · rename_i z i
    split at e
    · rename_i f
      obtain ⟨ch, h, rfl⟩ := Option.map_eq_some_iff.mp e
      exact ⟨_, _, _, rfl, rfl, rfl, fun H Q q => ⟨z, i, ch, rfl, rfl, fits_ok f, h, q⟩⟩
    · cases e
  · cases e
/-- of a slot, which keeps its thing -/
def L2b (c : Bd) (r : R2) (g : Bop) : Prop := ∀ σ τ hv hp H x y p q z Q, Stt c σ τ (hv ++ [y] ++ [x]) (hp ++ [q] ++ [p]) H → g p q = some z → (∀ v H', Stt c σ τ (hv ++ [v] ++ [x]) (hp ++ [z] ++ [p]) H' → Q v H') → r x y H Q
def opB (g : Bop) (i : Nat) (fb : En → Rs (PV × En)) (τ : En) : Rs (PV × En) := match τ[i]? with
  | none => .no
  | some .un => .no
  | some _ => bnd (fb τ) fun b => match b.2[i]? with
    | none => .no
    | some .un => .no
    | some p => opt (g p b.1) b.2
theorem te_opB {r : R2} {g : Bop} {tb : TE} {fb : En → Rs (PV × En)} (hr : L2b c r g) (i : Nat) (hb : ME c tb fb) : ME c (tOp r (tVar i) tb) (opB g i fb) := fun σ τ hv hp H Q s k => by
  unfold opB at k
  split at k
  · exact k.elim
  · exact k.elim
  · rename_i p0 n0 e0
    obtain ⟨v, hs, _⟩ := s.move e0 (fun z => n0 z)
    refine ⟨v, hs, hb σ τ hv hp H _ s (aft_mono (aft_bnd k) fun b k y H1 s1 => ?_)⟩
    split at k
    · exact k.elim
    · exact k.elim
    · rename_i p n e
      obtain ⟨v', hs', s2⟩ := s1.move e (fun z => n z)
      rw [hs] at hs'
      cases hs'
      cases eg : g p b.1 with
      | none => rw [eg] at k; exact k.elim
      | some z =>
        rw [eg] at k
        refine hr σ _ hv hp H1 v y p b.1 z Q s2 eg fun u H' s' => k u H' ?_
        have li := (List.getElem?_eq_some_iff.mp e).1
        have := s'.back (by rw [List.getElem?_set_self li]) hs
        rwa [set_back e] at this
/-- the item where nothing of it is owned -/
def fzd (g : Bop) : Bop := fun p q => match g p q with
  | some z => if isFz z = true then some z else none
  | none => none
theorem fzd_eq {g : Bop} {p q z : PV} (h : fzd g p q = some z) : g p q = some z ∧ isFz z = true := by
  unfold fzd at h
  split at h
  · split at h
    · rename_i e f; cases h; exact ⟨e, f⟩
    · cases h
  · cases h
theorem lix_listB : L2b c (rIxL c.K) (fzd ixL) := fun σ τ hv hp H x y p q z Q s e k => by
  obtain ⟨e, f⟩ := fzd_eq e
  obtain ⟨o, ps, i, rfl, rfl, e⟩ := ixL_eq e
  cases s.swap.top_sv rfl
  have s := s.mid
  obtain ⟨B, O, r⟩ := s.top
  obtain ⟨a, xs, rfl, h, l⟩ := r.lst_at
  obtain ⟨Oa, O', _, r'⟩ := r.lstI h
  obtain ⟨v, _, _, ev, _, _⟩ := r'.atI e
  refine ⟨a, xs, i, v, rfl, rfl, SqL.of h, ev, k v H ?_⟩
  rw [List.append_assoc, List.append_assoc]
  refine s.part s.lenT fun B O r => ?_
  have r := r.one'
  obtain ⟨Oa, O', p1, r'⟩ := r.lstI h
  obtain ⟨v', Oi, Or, ev', rv, p2⟩ := r'.atI e
  rw [ev] at ev'
  cases ev'
  have eo := rv.nil_of (fz_of f)
  subst eo
  exact ⟨[], [] ++ O, by simp, .cons rv (.one r)⟩
theorem lix_tupB : L2b c (rIxT c.K) (fzd ixT) := fun σ τ hv hp H x y p q z Q s e k => by
  obtain ⟨e, f⟩ := fzd_eq e
  obtain ⟨ps, i, rfl, rfl, e⟩ := ixT_eq e
  cases s.swap.top_sv rfl
  have s := s.mid
  obtain ⟨B, O, r⟩ := s.top
  obtain ⟨a, xs, rfl, h, r'⟩ := r.tup_at
  obtain ⟨v, _, _, ev, _, _⟩ := r'.atI e
  refine ⟨a, xs, i, v, rfl, rfl, SqT.of h, ev, k v H ?_⟩
  rw [List.append_assoc, List.append_assoc]
  refine s.part s.lenT fun B O r => ?_
  have r := r.one'
  obtain ⟨v', Oi, Or, ev', rv, p2⟩ := (r.tupI h).atI e
  rw [ev] at ev'
  cases ev'
  have eo := rv.nil_of (fz_of f)
  subst eo
  exact ⟨[], [] ++ O, by simp, .cons rv (.one r)⟩
/-! ### texts -/
def sop (f : Str → Str → PV) : Bop := fun p q => match p, q with
  | .str i, .str j => some (f i j)
  | _, _ => none
theorem l_str {g : Str → Str → V} {f : Str → Str → PV} (k : ∀ i j, sv (f i j) = some (g i j) := by intros; rfl) : L2op c (fun x y H Q => ∃ i j, x = .str i ∧ y = .str j ∧ Q (g i j) H) (sop f) := l2_sc fun p q z e => by
  unfold sop at e
  split at e
  · cases e
    exact ⟨_, _, _, rfl, rfl, k _ _, fun H Q h => ⟨_, _, rfl, rfl, h⟩⟩
  · cases e
def ltS (i j : Str) : Bool := decide (i.cps.toList < j.cps.toList)
def gLtS : Bop := sop fun i j => .bl (ltS i j)
def gLeS : Bop := sop fun i j => .bl (!ltS j i)
def gGtS : Bop := sop fun i j => .bl (ltS j i)
theorem l_ltS : L2op c (fun x y H Q => ∃ i j, x = .str i ∧ y = .str j ∧ Q (.bl (decide (i.cps.toList < j.cps.toList))) H) gLtS := l_str
theorem l_leS : L2op c (fun x y H Q => ∃ i j, x = .str i ∧ y = .str j ∧ Q (.bl (!decide (j.cps.toList < i.cps.toList))) H) gLeS := l_str
theorem l_gtS : L2op c (fun x y H Q => ∃ i j, x = .str i ∧ y = .str j ∧ Q (.bl (decide (j.cps.toList < i.cps.toList))) H) gGtS := l_str
/-- one sign in a text -/
def gInS (neg : Bool) : Bop := fun p q => match p, q with
  | .str x, .str z => match x.cps.toList with
    | [ch] => some (.bl (neg != decide (ch ∈ z.cps.toList)))
    | _ => none
  | _, _ => none
theorem one_sign {x : Str} {ch : Nat} (h : x.cps.toList = [ch]) : x = ⟨#[ch]⟩ := by
  obtain ⟨a⟩ := x
  congr 1
  exact Array.ext' h
theorem l_inS : L2op c (fun x y H Q => ∃ (ch : Nat) (z : Str), x = .str ⟨#[ch]⟩ ∧ y = .str z ∧ Q (.bl (decide (ch ∈ z.cps.toList))) H) (gInS false) := l2_sc fun p q z e => by
  unfold gInS at e
  split at e
  · split at e
    · rename_i x z ch h
      cases e
      cases one_sign h
      exact ⟨_, _, _, rfl, rfl, rfl, fun H Q q => ⟨ch, _, rfl, rfl, by simpa using q⟩⟩
    · cases e
  · cases e
theorem l_notInS : L2op c (fun x y H Q => ∃ (ch : Nat) (z : Str), x = .str ⟨#[ch]⟩ ∧ y = .str z ∧ Q (.bl (!decide (ch ∈ z.cps.toList))) H) (gInS true) := l2_sc fun p q z e => by
  unfold gInS at e
  split at e
  · split at e
    · rename_i x z ch h
      cases e
      cases one_sign h
      exact ⟨_, _, _, rfl, rfl, rfl, fun H Q q => ⟨ch, _, rfl, rfl, by simpa using q⟩⟩
    · cases e
  · cases e
def gAddS : Bop := fun p q => match p, q with
  | .str i, .str j => if fits (i.length + j.length) = true then some (.str (i ++ j)) else none
  | _, _ => none
theorem l_addS : L2op c (fun x y H Q => ∃ i j, x = .str i ∧ y = .str j ∧ i.length + j.length ≤ sizeLine ∧ Q (.str (i ++ j)) H) gAddS := l2_sc fun p q z e => by
  unfold gAddS at e
  split at e
  · split at e
    · rename_i f
      cases e
      exact ⟨_, _, _, rfl, rfl, rfl, fun H Q q => ⟨_, _, rfl, rfl, fits_ok f, q⟩⟩
    · cases e
  · cases e
/-- the signs of a text -/
def signs (x : Str) : List PV := x.cps.toList.map fun ch => .str ⟨#[ch]⟩
def istr (f : En → Rs (PV × En)) (τ : En) : Rs (List PV × En) := bnd (f τ) fun a => match a.1 with
  | .str x => .ok (signs x, a.2)
  | _ => .no
theorem wlk_str {x : Str} : Wlk c (Its x) (signs x) [] [] := by
  have e : (signs x).length = x.cps.size := by simp [signs]
  refine ⟨_, _, by rw [e]; exact walk_str, fun σ τ hv hp H _ s => trivial, fun i H v H' σ τ hv hp q _ hq s y => ?_⟩
  obtain ⟨rfl, ch, hc, rfl⟩ := y
  unfold signs at hq
  rw [List.getElem?_map, Array.getElem?_toList, hc] at hq
  cases hq
  exact s.sc rfl
theorem mi_str {t : TE} {f : En → Rs (PV × En)} (h : ME c t f) : MI c (iStr t) (istr f) := fun σ τ hv hp H R s k => h σ τ hv hp H _ s (aft_mono (aft_bnd k) fun a k v H1 s1 => by
  split at k
  · rename_i x e
    rw [e] at s1
    cases s1.top_sv rfl
    exact ⟨x, rfl, k _ [] [] _ (by simpa using s1.pop) wlk_str⟩
  · exact k.elim)
/-! ### more built-ins -/
theorem lc_sc {r : List V → Hp → VK → Prop} {g : Uop} (k : ∀ p z, g p = some z → ∃ x v, sv p = some x ∧ sv z = some v ∧ ∀ H Q, Q v H → r [x] H Q) : LC c r (on1 g) := fun σ τ hv hp H vs ps z Q l s e h => by
  match ps, e with
  | [p], e =>
    obtain ⟨x, v, e1, e2, k⟩ := k p z e
    obtain ⟨rfl, s'⟩ := Stt.one l s e1
    exact k H Q (h v H (s'.sc e2))
def gInt : Uop
  | .int i => some (.int i)
  | .bl b => some (.int (if b then 1 else 0))
  | _ => none
theorem l_int1 : LC c (fun xs H Q => (∃ i, xs = [.int i] ∧ Q (.int i) H) ∨ ∃ k, xs = [.bl k] ∧ Q (.int (if k then 1 else 0)) H) (on1 gInt) := lc_sc fun p z e => by
  cases p <;> simp only [gInt, Option.some.injEq, reduceCtorEq] at e <;> subst e
  · exact ⟨_, _, rfl, rfl, fun H Q q => .inr ⟨_, rfl, q⟩⟩
  · exact ⟨_, _, rfl, rfl, fun H Q q => .inl ⟨_, rfl, q⟩⟩
def gAbs : Uop
  | .int i => some (.int (if i < 0 then -i else i))
  | _ => none
theorem l_abs : LC c (fun xs H Q => ∃ i, xs = [.int i] ∧ Q (.int (if i < 0 then -i else i)) H) (on1 gAbs) := lc_sc fun p z e => by
  cases p <;> simp only [gAbs, Option.some.injEq, reduceCtorEq] at e <;> subst e
  exact ⟨_, _, rfl, rfl, fun H Q q => ⟨_, rfl, q⟩⟩
def on2 (g : Bop) : Lop
  | [p, q] => g p q
  | _ => none
theorem lc2_sc {r : List V → Hp → VK → Prop} {g : Bop} (k : ∀ p q z, g p q = some z → ∃ x y v, sv p = some x ∧ sv q = some y ∧ sv z = some v ∧ ∀ H Q, Q v H → r [x, y] H Q) : LC c r (on2 g) := fun σ τ hv hp H vs ps z Q l s e h => by
  match ps, e with
  | [p, q], e =>
    obtain ⟨x, y, v, e1, e2, e3, k⟩ := k p q z e
    obtain ⟨rfl, s'⟩ := Stt.two l s e1 e2
    exact k H Q (h v H (s'.sc e3))
def gMaxS : Bop := sop fun i j => .str (HK.maxS i j)
def gMinS : Bop := sop fun i j => .str (HK.minS i j)
theorem l_maxS : LC c (fun xs H Q => ∃ a b, xs = [.str a, .str b] ∧ Q (.str (HK.maxS a b)) H) (on2 gMaxS) := lc2_sc fun p q z e => by
  unfold gMaxS sop at e
  split at e
  · cases e; exact ⟨_, _, _, rfl, rfl, rfl, fun H Q q => ⟨_, _, rfl, q⟩⟩
  · cases e
theorem l_minS : LC c (fun xs H Q => ∃ a b, xs = [.str a, .str b] ∧ Q (.str (HK.minS a b)) H) (on2 gMinS) := lc2_sc fun p q z e => by
  unfold gMinS sop at e
  split at e
  · cases e; exact ⟨_, _, _, rfl, rfl, rfl, fun H Q q => ⟨_, _, rfl, q⟩⟩
  · cases e
end
end FL

namespace FL
open PySem PySem.Spec PyProof.Rows L2
section
variable {P : Program} {w : World} {B : Addr → Prop} {H : Hp}
/-- empty slots may hold anything -/
theorem RelS.free : ∀ {σ σ' : L2.St} {τ : List PV} {O : List Addr}, RelS P w B H σ τ O → σ'.length = σ.length → (∀ i : Nat, σ'[i]? = σ[i]? ∨ τ[i]? = some .un) → RelS P w B H σ' τ O
  | _, σ', _, _, .nil, l, h => by
    have e : σ' = [] := List.eq_nil_of_length_eq_zero l
    subst e
    exact .nil
  | _, [], _, _, .no r, l, h => by simp at l
  | _, a :: σ', _, _, .no r, l, h => by
    have r' := RelS.free (σ' := σ') r (by simpa using l) fun i => by simpa using h (i + 1)
    cases a with
    | none => exact .no r'
    | some v => exact .so (O := []) .un r'
  | _, [], _, _, .so x r, l, h => by simp at l
  | _, a :: σ', _, _, .so (v := v) (p := p) (O := O) x r, l, h => by
    have r' := RelS.free (σ' := σ') r (by simpa using l) fun i => by simpa using h (i + 1)
    rcases h 0 with e | e
    · simp at e
      subst e
      exact .so x r'
    · simp at e
      subst e
      cases x
      cases a with
      | none => exact .no r'
      | some v => exact .so (O := []) .un r'
end
section
variable {c : Bd} {σ : L2.St} {τ : En} {hv : List V} {hp : List PV} {H : Hp}
theorem Stt.free {σ' : L2.St} (s : Stt c σ τ hv hp H) (l : σ'.length = σ.length) (h : ∀ i : Nat, σ'[i]? = σ[i]? ∨ (τ[i]? = some PV.un ∧ c.np i = false)) : Stt c σ' τ hv hp H := by
  obtain ⟨⟨B, O1, O2, r1, r⟩, pn, mk⟩ := s
  refine ⟨⟨B, O1, O2, r1.free l fun i => (h i).imp id (·.1), r⟩, fun i hi => ?_, mk⟩
  rcases h i with e | e
  · rw [e]; exact pn i hi
  · rw [e.2] at hi; cases hi
/-- the block's own slots emptied -/
def wip (τ : List PV) : List Nat → List PV
  | [] => τ
  | v :: vs => (wip τ vs).set v .un
theorem Stt.wip1 (s : Stt c σ τ hv hp H) : ∀ vs : List Nat, Stt c σ (wip τ vs) hv hp H
  | [] => s
  | v :: vs => (Stt.wip1 s vs).forget v
theorem wip_at : ∀ {vs : List Nat} {i : Nat}, i ∈ vs → i < τ.length → (wip τ vs)[i]? = some .un
  | v :: vs, i, m, l => by
    have ll : ∀ vs : List Nat, (wip τ vs).length = τ.length := fun vs => by
      induction vs with
      | nil => rfl
      | cons v vs ih => unfold wip; rw [List.length_set, ih]
    unfold wip
    by_cases e : v = i
    · subst e; rw [List.getElem?_set_self (by rw [ll]; exact l)]
    · rw [List.getElem?_set_ne e]
      rcases List.mem_cons.mp m with m | m
      · exact absurd m.symm e
      · exact wip_at m l
theorem Stt.wipe (s : Stt c σ τ hv hp H) (vs : List Nat) (n : ∀ i ∈ vs, c.np i = false) : Stt c (L2.wipe σ vs) (wip τ vs) hv hp H := by
  refine (s.wip1 vs).free (wipe_length σ vs) fun i => ?_
  by_cases m : i ∈ vs
  · by_cases l : i < τ.length
    · exact .inr ⟨wip_at m l, n i m⟩
    · left
      rw [List.getElem?_eq_none (by rw [wipe_length, s.lenS]; omega), List.getElem?_eq_none (by rw [s.lenS]; omega)]
  · exact .inl (wipe_out m)
/-- behind the block -/
theorem Stt.unwipe {vs : List Nat} {σ2 : L2.St} (s : Stt c σ2 τ hv hp H) (e : L2.wipe σ2 vs = L2.wipe σ vs) (n : ∀ i ∈ vs, c.np i = false) : Stt c σ (wip τ vs) hv hp H := by
  have ls : σ2.length = σ.length := by have := congrArg List.length e; rwa [wipe_length, wipe_length] at this
  refine (s.wip1 vs).free ls.symm fun i => ?_
  by_cases m : i ∈ vs
  · by_cases l : i < τ.length
    · exact .inr ⟨wip_at m l, n i m⟩
    · left
      rw [List.getElem?_eq_none (by rw [← ls, s.lenS]; omega), List.getElem?_eq_none (by rw [s.lenS]; omega)]
  · left
    rw [← wipe_out m, ← e, wipe_out m]
/-- a target that stores own slots alone -/
def GW (g : TG) (vs : List Nat) : Prop := ∀ x σ H Q, g x σ H Q → g x σ H fun σ2 H2 => L2.wipe σ2 vs = L2.wipe σ vs ∧ Q σ2 H2
theorem wipe_set {i : Nat} {v : Option V} : ∀ {vs : List Nat} {σ : L2.St}, i ∈ vs → L2.wipe (σ.set i v) vs = L2.wipe σ vs
  | u :: vs, σ, m => by
    unfold L2.wipe
    by_cases e : i ∈ vs
    · rw [wipe_set e]
    · have ei : i = u := (List.mem_cons.mp m).resolve_right e
      subst ei
      have : ∀ vs : List Nat, i ∉ vs → L2.wipe (σ.set i v) vs = (L2.wipe σ vs).set i v := by
        intro vs
        induction vs with
        | nil => intro _; rfl
        | cons a vs ih =>
          intro h
          unfold L2.wipe
          rw [ih fun z => h (List.mem_cons_of_mem _ z), List.set_comm _ _ (fun z => h (by rw [z]; exact List.mem_cons_self))]
      rw [this vs e, List.set_set]
theorem gw_name {i : Nat} {vs : List Nat} (m : i ∈ vs := by decide) : GW (gName i) vs := fun x σ H Q h => ⟨wipe_set m, h⟩
def GWs (g : TGs) (vs : List Nat) : Prop := ∀ xs σ H Q, g xs σ H Q → g xs σ H fun σ2 H2 => L2.wipe σ2 vs = L2.wipe σ vs ∧ Q σ2 H2
theorem gw_nil {vs : List Nat} : GWs gNil vs := fun xs σ H Q h => ⟨h.1, rfl, h.2⟩
def GMono (g : TG) : Prop := ∀ x σ H Q Q', (∀ σ H, Q σ H → Q' σ H) → g x σ H Q → g x σ H Q'
theorem gm_name {i : Nat} : GMono (gName i) := fun x σ H Q Q' k h => k _ _ h
def GMonos (g : TGs) : Prop := ∀ x σ H Q Q', (∀ σ H, Q σ H → Q' σ H) → g x σ H Q → g x σ H Q'
theorem gm_nil : GMonos gNil := fun x σ H Q Q' k h => ⟨h.1, k _ _ h.2⟩
theorem gm_cons {g : TG} {gs : TGs} (a : GMono g) (b : GMonos gs) : GMonos (gCons g gs) := fun x σ H Q Q' k ⟨v, r, e, h⟩ => ⟨v, r, e, a _ _ _ _ _ (fun σ H h => b _ _ _ _ _ k h) h⟩
theorem gm_tup {K : PySem.W.Frag} {n : Nat} {gs : TGs} (b : GMonos gs) : GMono (gTup K n gs) := fun x σ H Q Q' k ⟨a, xs, e, h1, h2, h⟩ => ⟨a, xs, e, h1, h2, b _ _ _ _ _ k h⟩
theorem gw_cons {g : TG} {gs : TGs} {vs : List Nat} (a : GW g vs) (am : GMono g) (b : GWs gs vs) : GWs (gCons g gs) vs := fun xs σ H Q ⟨v, r, e, h⟩ => by
  refine ⟨v, r, e, am _ _ _ _ _ (fun σ2 H2 h2 => ?_) (a v σ H _ h)⟩
  have := b r σ2 H2 Q h2.2
  rw [h2.1] at this
  exact this
theorem gw_tup {K : PySem.W.Frag} {n : Nat} {gs : TGs} {vs : List Nat} (b : GWs gs vs) : GW (gTup K n gs) vs := fun x σ H Q ⟨a, xs, e, h1, h2, h⟩ => ⟨a, xs, e, h1, h2, b xs σ H Q h⟩
/-- a comprehension's turns; acc: what the new list has -/
def lcF (g : PV → En → Option En) (t : En → Rs (Bool × En)) (e : En → Rs (PV × En)) (vs : List Nat) : List PV → En → List PV → Rs (List PV × En)
  | [], τ, acc => .ok (acc, wip τ vs)
  | x :: xs, τ, acc => match g x (wip τ vs) with
    | none => .no
    | some τ1 => match t τ1 with
      | .ok (false, τ2) => lcF g t e vs xs τ2 acc
      | .ok (true, τ2) => match e τ2 with
        | .ok (y, τ3) => if fits (acc.length + 1) = true then lcF g t e vs xs τ3 (acc ++ [y]) else .no
        | _ => .no
      | _ => .no
def vlc (f : En → Rs (List PV × En)) (g : PV → En → Option En) (t : En → Rs (Bool × En)) (e : En → Rs (PV × En)) (vs : List Nat) (τ : En) : Rs (PV × En) := bnd (f τ) fun a => bnd (lcF g t e vs a.1 a.2 []) fun b => .ok (.lst true b.1, b.2)
def tyes (τ : En) : Rs (Bool × En) := .ok (true, τ)
theorem mt_yes : MT c tYes tyes := fun σ τ hv hp H Q s k => k H s
theorem aft_pure {α : Type} {S : L2.St → Prop} {r : Rs α} {a : α} {Q : α → Prop} (e : r = .ok a) (h : Q a) : Aft c S r Q := by rw [e]; exact h
/-- the append at a comprehension's end of a turn -/
theorem Stt.app {D : Addr} {xs : List V} {ps : List PV} {y : V} {q : PV} (s : Stt c σ τ (hv ++ [.ref D] ++ [y]) (hp ++ [.lst true ps] ++ [q]) H) (l : hv.length = hp.length) (h : H D = some (.lst xs)) : Stt c σ τ (hv ++ [.ref D]) (hp ++ [.lst true (ps ++ [q])]) (upd H D (.lst (xs ++ [y]))) := by
  rw [List.append_assoc, List.append_assoc] at s
  exact s.writeL l h fun B H' O r => ⟨[], O, by simp, r⟩
theorem wip_len : ∀ vs : List Nat, (wip τ vs).length = τ.length
  | [] => rfl
  | v :: vs => by unfold wip; rw [List.length_set, wip_len vs]
theorem Stt.wiped {vs : List Nat} (s : Stt c σ (wip τ vs) hv hp H) (n : ∀ i ∈ vs, c.np i = false) : Stt c (L2.wipe σ vs) (wip τ vs) hv hp H := by
  refine s.free (wipe_length σ vs) fun i => ?_
  by_cases m : i ∈ vs
  · by_cases l : i < τ.length
    · exact .inr ⟨wip_at m l, n i m⟩
    · left
      have := s.lenS
      rw [wip_len] at this
      rw [List.getElem?_eq_none (by rw [wipe_length]; omega), List.getElem?_eq_none (by omega)]
  · exact .inl (wipe_out m)
theorem Stt.rot {a b d : V} {p q r : PV} (s : Stt c σ τ (hv ++ [a] ++ [b] ++ [d]) (hp ++ [p] ++ [q] ++ [r]) H) : Stt c σ τ (hv ++ [b] ++ [a] ++ [d]) (hp ++ [q] ++ [p] ++ [r]) H := by
  have l : hv.length = hp.length := by have := s.len; simpa using this
  simp only [List.append_assoc] at s ⊢
  refine s.part l fun B O r => ?_
  cases r with
  | cons x r =>
    cases r with
    | @cons _ _ _ _ Oy Or y r =>
      refine ⟨[], _, ?_, .cons y (.cons x r)⟩
      rw [List.nil_append]
      exact perm_rot (.refl _)
/-- one thing from behind others -/
theorem Stt.rotL {a : V} {p : PV} {us vs : List V} {qs ps : List PV} (l : hv.length = hp.length) (lu : us.length = qs.length) (s : Stt c σ τ (hv ++ ([a] ++ us) ++ vs) (hp ++ ([p] ++ qs) ++ ps) H) : Stt c σ τ (hv ++ (us ++ [a]) ++ vs) (hp ++ (qs ++ [p]) ++ ps) H := by
  have s : Stt c σ τ (hv ++ (([a] ++ us) ++ vs)) (hp ++ (([p] ++ qs) ++ ps)) H := by rw [← List.append_assoc, ← List.append_assoc hp]; exact s
  rw [List.append_assoc hv, List.append_assoc hp]
  refine s.part l fun B O r => ?_
  obtain ⟨O1, O2, e, r1, r2⟩ := r.split (by simp [lu])
  subst e
  cases r1 with
  | @cons _ _ _ _ Oa Ob x r1 =>
    refine ⟨[], _, ?_, (r1.append (.one x)).append r2⟩
    rw [List.nil_append]
    exact List.perm_append_comm.append_right O2
theorem Stt.rotR {a : V} {p : PV} {us vs : List V} {qs ps : List PV} (l : hv.length = hp.length) (lu : us.length = qs.length) (s : Stt c σ τ (hv ++ (us ++ [a]) ++ vs) (hp ++ (qs ++ [p]) ++ ps) H) : Stt c σ τ (hv ++ ([a] ++ us) ++ vs) (hp ++ ([p] ++ qs) ++ ps) H := by
  have s : Stt c σ τ (hv ++ ((us ++ [a]) ++ vs)) (hp ++ ((qs ++ [p]) ++ ps)) H := by rw [← List.append_assoc, ← List.append_assoc hp]; exact s
  rw [List.append_assoc hv, List.append_assoc hp]
  refine s.part l fun B O r => ?_
  obtain ⟨O1, O2, e, r1, r2⟩ := r.split (by simp [lu])
  subst e
  obtain ⟨Oa, Ob, e, ra, rb⟩ := r1.split lu
  subst e
  refine ⟨[], _, ?_, (rb.append ra).append r2⟩
  rw [List.nil_append]
  exact List.perm_append_comm.append_right O2
theorem te_lc {wi : TI} {gg : TG} {tt : TT} {te : TE} {vs : List Nat} {f : En → Rs (List PV × En)} {g : PV → En → Option En} {t : En → Rs (Bool × En)} {e : En → Rs (PV × En)} (hi : MI c wi f) (hg : MG c gg g) (hw : GW gg vs) (gm : GMono gg) (ht : MT c tt t) (he : ME c te e) (n : ∀ i ∈ vs, c.np i = false) :
    ME c (tLc wi gg tt te vs) (vlc f g t e vs) := fun σ τ hv hp H Q s k => hi σ τ hv hp H _ s (aft_mono (aft_bnd k) fun r k J ws ps H' s' wl => by
  have k := aft_bnd k
  have l := s.len
  have lw := Stt.lenL l s' (H' := H')
  obtain ⟨G, Y, W, hG, hY⟩ := wl.ex
  intro D nD
  have s0 := (Stt.rotR (vs := []) (ps := []) l lw (by simpa using (Stt.newL (xs := []) (ps := []) (q := D) (by simpa using s') s'.len nD)))
  rw [List.append_nil, List.append_nil] at s0
  refine L2.lc_it (n := r.1.length) W (Qd := fun H => Q (.ref D) H) (fun i H => ∃ τ acc, Stt c σ (wip τ vs) (hv ++ ([.ref D] ++ ws)) (hp ++ ([.lst true acc] ++ ps)) H ∧ Aft c (· = σ) (lcF g t e vs (r.1.drop i) τ acc) (fun b : List PV × En => ∀ v H', Stt c σ b.2 (hv ++ [v]) (hp ++ [PV.lst true b.1]) H' → Q v H')) ⟨r.2, [], s0.wip1 vs, k⟩ (fun i H _ ⟨τ, acc, s, _⟩ => hG σ (wip τ vs) (hv ++ [.ref D]) (hp ++ [.lst true acc]) H (by simp [l]) (by simpa using s)) (fun i x H H' hi ⟨τ, acc, s, k⟩ y => ?_) (fun H ⟨τ, acc, s, k⟩ => ?_)
  · have hq : r.1[i]? = some r.1[i] := List.getElem?_eq_getElem hi
    have ed : r.1.drop i = r.1[i] :: r.1.drop (i + 1) := List.drop_eq_getElem_cons hi
    rw [ed] at k
    have s1 := hY i H x H' (L2.wipe σ vs) (wip τ vs) (hv ++ [.ref D]) (hp ++ [.lst true acc]) _ (by simp [l]) hq (by simpa using s.wiped n) y
    unfold lcF at k
    cases eg : g r.1[i] (wip τ vs) with
    | none => rw [eg] at k; exact k.elim
    | some τ1 =>
      rw [eg] at k
      simp only at k
      refine gm _ _ _ _ _ (fun σ2 H2 h2 => ?_) (hw x (L2.wipe σ vs) H' _ (hg (L2.wipe σ vs) (wip τ vs) τ1 _ _ x r.1[i] H' (fun σ2 H2 => Stt c σ2 τ1 (hv ++ [.ref D] ++ ws) (hp ++ [.lst true acc] ++ ps) H2) s1 eg fun σ2 H2 s2 => s2))
      obtain ⟨w2, s2⟩ := h2
      have w2' : L2.wipe σ2 vs = L2.wipe σ vs := by
        rw [w2]
        have : ∀ vs : List Nat, (∀ i ∈ vs, i ∈ vs) → L2.wipe (L2.wipe σ vs) vs = L2.wipe σ vs := fun vs _ => by
          have wm : ∀ us : List Nat, (∀ i ∈ us, i ∈ vs) → L2.wipe (L2.wipe σ us) vs = L2.wipe σ vs := by
            intro us
            induction us with
            | nil => intro _; rfl
            | cons u us ih => intro h; rw [show L2.wipe σ (u :: us) = (L2.wipe σ us).set u none from rfl, wipe_set (h u List.mem_cons_self), ih fun i m => h i (List.mem_cons_of_mem _ m)]
          exact wm vs fun _ m => m
        exact this vs fun _ m => m
      refine ⟨w2', ht σ2 τ1 _ _ H2 _ s2 ?_⟩
      cases et : t τ1 with
      | no => rw [et] at k; exact k.elim
      | err x y => rw [et] at k; exact k.elim
      | ok b =>
        obtain ⟨b, τ2⟩ := b
        rw [et] at k
        intro H3 s3
        cases b with
        | false =>
          simp only [Bool.false_eq_true, if_false]
          exact ⟨τ2, acc, by simpa using s3.unwipe w2' n, k⟩
        | true =>
          simp only [if_true]
          simp only at k
          refine he σ2 τ2 _ _ H3 _ s3 ?_
          cases ee : e τ2 with
          | no => rw [ee] at k; exact k.elim
          | err x y => rw [ee] at k; exact k.elim
          | ok yy =>
            obtain ⟨yy, τ3⟩ := yy
            rw [ee] at k
            simp only at k
            by_cases ef : fits (acc.length + 1) = true
            · rw [if_pos ef] at k
              intro u H4 s4
              have s5 : Stt c σ2 τ3 (hv ++ (ws ++ [.ref D]) ++ [u]) (hp ++ (ps ++ [.lst true acc]) ++ [yy]) H4 := Stt.rotL l lw (by simpa using s4)
              have s5 : Stt c σ2 τ3 (hv ++ ws ++ [.ref D] ++ [u]) (hp ++ ps ++ [.lst true acc] ++ [yy]) H4 := by simpa using s5
              obtain ⟨B, O, rt⟩ := s5.pop.top
              obtain ⟨_, ac, e', hD, hl⟩ := rt.lst_at
              cases e'
              refine ⟨ac, hD, by rw [hl]; exact fits_lt ef, τ3, acc ++ [yy], ?_, k⟩
              have s6 := s5.app (by rw [List.length_append, List.length_append, l, lw]) hD
              have s7 := (Stt.rotR (vs := []) (ps := []) l lw (by simpa using s6)).unwipe w2' n
              simpa using s7
            · rw [if_neg ef] at k; exact k.elim
  · rw [List.drop_length] at k
    have s7 := s.unwipe (vs := vs) rfl n
    refine k _ H (Stt.drop (ws := ws) (qs := ps) ?_ (by simp [l]))
    simpa using s)
/-! ### lists -/
def gCat : Bop := fun p q => match p, q with
  | .lst _ ps, .lst _ qs => if fits (ps.length + qs.length) = true then some (.lst true (ps ++ qs)) else none
  | _, _ => none
theorem gCat_eq {p q z : PV} (h : gCat p q = some z) : ∃ o o' ps qs, p = .lst o ps ∧ q = .lst o' qs ∧ fits (ps.length + qs.length) = true ∧ z = .lst true (ps ++ qs) := by
  unfold gCat at h
  split at h
  · split at h
    · rename_i f; cases h; exact ⟨_, _, _, _, rfl, rfl, f, rfl⟩
    · cases h
  · cases h
theorem l_cat : L2op c rCat gCat := fun σ τ hv hp H x y p q z Q s e k => by
  obtain ⟨o, o', ps, qs, rfl, rfl, f, rfl⟩ := gCat_eq e
  obtain ⟨B, O, r1⟩ := s.top
  obtain ⟨b, zs, rfl, h1, l1⟩ := r1.lst_at
  obtain ⟨B2, O2, r2⟩ := s.pop.top
  obtain ⟨a, xs, rfl, h2, l2⟩ := r2.lst_at
  refine ⟨a, b, xs, zs, rfl, rfl, h2, h1, by rw [l1, l2]; exact fits_ok f, fun D nD => k _ _ ?_⟩
  have l : hv.length = hp.length := by have := s.len; simpa using this
  refine Stt.newL ?_ l nD
  rw [List.append_assoc, List.append_assoc] at s
  refine s.part l fun B O r => ?_
  cases r with
  | cons x r =>
    obtain ⟨Oa, Oa', p1, q1⟩ := x.lstI h2
    obtain ⟨Ob, Ob', p2, q2⟩ := r.one'.lstI h1
    refine ⟨Oa ++ Ob, Oa' ++ Ob', ?_, q1.append q2⟩
    refine (p1.append p2).trans ?_
    rw [List.append_assoc, List.append_assoc]
    refine List.Perm.append_left Oa ?_
    rw [← List.append_assoc, ← List.append_assoc]
    exact List.perm_append_comm.append_right _
def gRep : Bop := fun p q => match p, q with
  | .lst _ ps, .int k => if (decide (-(2 ^ 63) ≤ k) && decide (k < 2 ^ 63) && fits (ps.length * k.toNat) && isFzs ps) = true then some (.lst true (List.replicate k.toNat ps).flatten) else none
  | _, _ => none
theorem Rels.rep {P : Program} {w : World} {B : Addr → Prop} {H : Hp} {xs : List V} {ps : List PV} (r : Rels P w B H xs ps []) : ∀ n, Rels P w B H (List.replicate n xs).flatten (List.replicate n ps).flatten []
  | 0 => .nil
  | n + 1 => by
    rw [List.replicate_succ, List.replicate_succ, List.flatten_cons, List.flatten_cons]
    exact r.append (Rels.rep r n)
theorem l_rep : L2op c rRep gRep := fun σ τ hv hp H x y p q z Q s e k => by
  unfold gRep at e
  split at e
  · rename_i o ps n
    split at e
    · rename_i f
      cases e
      simp only [Bool.and_eq_true, decide_eq_true_eq] at f
      obtain ⟨⟨⟨f1, f2⟩, f3⟩, f4⟩ := f
      cases s.top_sv rfl
      have s := s.pop
      obtain ⟨B, O, r1⟩ := s.top
      obtain ⟨a, xs, rfl, h1, l1⟩ := r1.lst_at
      refine ⟨a, n, xs, rfl, rfl, h1, f1, f2, by rw [l1]; exact fits_ok f3, fun D nD => k _ _ ?_⟩
      refine Stt.newL (s.part s.lenT fun B O r => ?_) s.lenT nD
      obtain ⟨Oa, Oa', p1, q1⟩ := r.one'.lstI h1
      have eo := q1.nil_of (fzs_of f4)
      subst eo
      exact ⟨Oa, [], p1, q1.rep _⟩
    · cases e
  · cases e
/-! slices -/
def MO (c : Bd) (t : TO) (f : En → Rs (Option Int × En)) : Prop := ∀ σ τ hv hp H Q, Stt c σ τ hv hp H → Aft c (· = σ) (f τ) (fun r => ∀ H', Stt c σ r.2 hv hp H' → Q r.1 H') → t σ H Q
def ono (τ : En) : Rs (Option Int × En) := .ok (none, τ)
def oso (f : En → Rs (PV × En)) (τ : En) : Rs (Option Int × En) := bnd (f τ) fun a => match a.1 with
  | .int i => .ok (some i, a.2)
  | _ => .no
theorem mo_none : MO c tNoPart ono := fun σ τ hv hp H Q s k => k H s
theorem mo_some {t : TE} {f : En → Rs (PV × En)} (h : ME c t f) : MO c (tPart t) (oso f) := fun σ τ hv hp H Q s k => h σ τ hv hp H _ s (aft_mono (aft_bnd k) fun a k v H' s' => by
  split at k
  · rename_i i e
    rw [e] at s'
    exact ⟨i, s'.top_sv rfl, k H' s'.pop⟩
  · exact k.elim)
def cutL {α : Type} (xs : List α) (lo hi : Option Int) : List α := (xs.drop (HT.sIx xs.length 0 lo)).take (HT.sIx xs.length xs.length hi - HT.sIx xs.length 0 lo)
theorem Rels.take : ∀ {P : Program} {w : World} {B : Addr → Prop} {H : Hp} {xs : List V} {ps : List PV} {O : List Addr} (n : Nat), Rels P w B H xs ps O → ∃ Od O', O.Perm (Od ++ O') ∧ Rels P w B H (xs.take n) (ps.take n) O'
  | _, _, _, _, _, _, O, 0, r => ⟨O, [], by simp, .nil⟩
  | _, _, _, _, _, _, _, n + 1, .nil => ⟨[], [], .refl _, .nil⟩
  | _, _, _, _, _, _, _, n + 1, .cons (O := O) x r => by
    obtain ⟨Od, O', p, q⟩ := Rels.take n r
    exact ⟨Od, O ++ O', perm_rot p, .cons x q⟩
theorem Rels.drop : ∀ {P : Program} {w : World} {B : Addr → Prop} {H : Hp} {xs : List V} {ps : List PV} {O : List Addr} (n : Nat), Rels P w B H xs ps O → ∃ Od O', O.Perm (Od ++ O') ∧ Rels P w B H (xs.drop n) (ps.drop n) O'
  | _, _, _, _, _, _, O, 0, r => ⟨[], O, .refl _, r⟩
  | _, _, _, _, _, _, _, n + 1, .nil => ⟨[], [], .refl _, .nil⟩
  | _, _, _, _, _, _, _, n + 1, .cons (O := O) (O' := Or) x r => by
    obtain ⟨Od, O', p, q⟩ := Rels.drop n r
    refine ⟨O ++ Od, O', ?_, q⟩
    rw [List.append_assoc]
    exact p.append_left O
theorem Rels.cut {P : Program} {w : World} {B : Addr → Prop} {H : Hp} {xs : List V} {ps : List PV} {O : List Addr} (lo hi : Option Int) (r : Rels P w B H xs ps O) : ∃ Od O', O.Perm (Od ++ O') ∧ Rels P w B H (cutV xs lo hi) (cutL ps lo hi) O' := by
  unfold cutV cutL
  rw [r.len]
  obtain ⟨O1, O2, p, q⟩ := r.drop (HT.sIx ps.length 0 lo)
  obtain ⟨O3, O4, p', q'⟩ := q.take (HT.sIx ps.length ps.length hi - HT.sIx ps.length 0 lo)
  refine ⟨O1 ++ O3, O4, p.trans ?_, q'⟩
  rw [List.append_assoc]
  exact p'.append_left O1
def slL (f : En → Rs (PV × En)) (fl fh : En → Rs (Option Int × En)) (τ : En) : Rs (PV × En) := bnd (f τ) fun a => bnd (fl a.2) fun l => bnd (fh l.2) fun h => match a.1 with
  | .lst _ ps => .ok (.lst true (cutL ps l.1 h.1), h.2)
  | _ => .no
theorem te_slL {t : TE} {tl th : TO} {f : En → Rs (PV × En)} {fl fh : En → Rs (Option Int × En)} (h : ME c t f) (hl : MO c tl fl) (hh : MO c th fh) : ME c (tSl (rSlL c.K) t tl th) (slL f fl fh) := fun σ τ hv hp H Q s k => h σ τ hv hp H _ s (aft_mono (aft_bnd k) fun a k x H1 s1 => hl σ a.2 _ _ H1 _ s1 (aft_mono (aft_bnd k) fun l k H2 s2 => hh σ l.2 _ _ H2 _ s2 (aft_mono (aft_bnd k) fun u k H3 s3 => by
  split at k
  · rename_i o ps e
    rw [e] at s3
    obtain ⟨B, O, r⟩ := s3.top
    obtain ⟨ad, xs, rfl, hx, _⟩ := r.lst_at
    refine ⟨ad, xs, rfl, SqL.of hx, fun D nD => k _ _ (Stt.newL (s3.part s3.lenT fun B O r => ?_) s3.lenT nD)⟩
    obtain ⟨Oa, Oa', p1, q1⟩ := r.one'.lstI hx
    obtain ⟨Ob, Ob', p2, q2⟩ := q1.cut l.1 u.1
    refine ⟨Oa ++ Ob, Ob', p1.trans ?_, q2⟩
    rw [List.append_assoc]
    exact p2.append_left Oa
  · exact k.elim)))
def slS (f : En → Rs (PV × En)) (fl fh : En → Rs (Option Int × En)) (τ : En) : Rs (PV × En) := bnd (f τ) fun a => bnd (fl a.2) fun l => bnd (fh l.2) fun h => match a.1 with
  | .str z => if fits z.length = true then .ok (.str (cutS z l.1 h.1), h.2) else .no
  | _ => .no
theorem te_slS {t : TE} {tl th : TO} {f : En → Rs (PV × En)} {fl fh : En → Rs (Option Int × En)} (h : ME c t f) (hl : MO c tl fl) (hh : MO c th fh) : ME c (tSl rSlS t tl th) (slS f fl fh) := fun σ τ hv hp H Q s k => h σ τ hv hp H _ s (aft_mono (aft_bnd k) fun a k x H1 s1 => hl σ a.2 _ _ H1 _ s1 (aft_mono (aft_bnd k) fun l k H2 s2 => hh σ l.2 _ _ H2 _ s2 (aft_mono (aft_bnd k) fun u k H3 s3 => by
  split at k
  · rename_i z e
    split at k
    · rename_i f
      rw [e] at s3
      cases s3.top_sv rfl
      exact ⟨z, rfl, fits_ok f, k _ _ (s3.pop.sc rfl)⟩
    · exact k.elim
  · exact k.elim)))
/-! all, any, list, tuple -/
def bools : List PV → Option (List Bool)
  | [] => some []
  | .bl b :: ps => (bools ps).map (b :: ·)
  | _ => none
theorem bools_eq : ∀ {ps : List PV} {bs : List Bool}, bools ps = some bs → ps = bs.map .bl
  | [], _, h => by cases h; rfl
  | .bl b :: ps, _, h => by
    obtain ⟨r, e, rfl⟩ := Option.map_eq_some_iff.mp h
    rw [bools_eq e]; rfl
  | .un :: _, _, h => nomatch h
  | .non :: _, _, h => nomatch h
  | .int _ :: _, _, h => nomatch h
  | .str _ :: _, _, h => nomatch h
  | .tup _ :: _, _, h => nomatch h
  | .lst _ _ :: _, _, h => nomatch h
  | .dct _ _ _ :: _, _, h => nomatch h
  | .ins _ _ _ :: _, _, h => nomatch h
  | .exc _ _ _ _ :: _, _, h => nomatch h
theorem Rels.svs {P : Program} {w : World} {B : Addr → Prop} {H : Hp} {α : Type} {f : α → PV} {g : α → V} (k : ∀ a, FL.sv (f a) = some (g a)) : ∀ {as : List α} {xs : List V} {O : List Addr}, Rels P w B H xs (as.map f) O → xs = as.map g
  | [], _, _, .nil => rfl
  | a :: as, _, _, .cons x r => by rw [x.sv (k a), Rels.svs k r]; rfl
def gAll (any : Bool) : Uop
  | .lst _ ps => (bools ps).map fun bs => .bl (if any = true then bs.any id else bs.all id)
  | _ => none
theorem l_all : L1b c (fun x H Q => rAll c.K [x] H Q) (gAll false) := fun σ τ hv hp H x p z Q s e k => by
  cases p <;> simp only [gAll, reduceCtorEq] at e
  obtain ⟨bs, e1, rfl⟩ := Option.map_eq_some_iff.mp e
  have e2 := bools_eq e1
  subst e2
  obtain ⟨B, O, r⟩ := s.top
  obtain ⟨a, xs, rfl, h, _⟩ := r.lst_at
  obtain ⟨_, _, _, r'⟩ := r.lstI h
  have ex := Rels.svs (f := PV.bl) (g := V.bl) (fun _ => rfl) r'
  subst ex
  exact ⟨a, bs, rfl, SqL.of h, k _ H (s.add rfl)⟩
theorem l_any : L1b c (fun x H Q => rAny c.K [x] H Q) (gAll true) := fun σ τ hv hp H x p z Q s e k => by
  cases p <;> simp only [gAll, reduceCtorEq] at e
  obtain ⟨bs, e1, rfl⟩ := Option.map_eq_some_iff.mp e
  have e2 := bools_eq e1
  subst e2
  obtain ⟨B, O, r⟩ := s.top
  obtain ⟨a, xs, rfl, h, _⟩ := r.lst_at
  obtain ⟨_, _, _, r'⟩ := r.lstI h
  have ex := Rels.svs (f := PV.bl) (g := V.bl) (fun _ => rfl) r'
  subst ex
  exact ⟨a, bs, rfl, SqL.of h, k _ H (s.add rfl)⟩
def gList : Lop
  | [.lst _ ps] => some (.lst true ps)
  | [.tup ps] => some (.lst true ps)
  | _ => none
theorem l_list : LC c (fun xs H Q => ∃ p ys, xs = [V.ref p] ∧ (SqL c.K H p ys ∨ SqT c.K H p ys) ∧ ∀ l, H l = none → Q (.ref l) (upd H l (.lst ys))) gList := fun σ τ hv hp H vs ps z Q l s e k => by
  have l2 := Stt.lenL l s (H' := H)
  unfold gList at e
  split at e
  · cases e
    match vs, l2 with
    | [x], _ =>
      obtain ⟨B, O, r⟩ := s.top
      obtain ⟨a, xs, rfl, h, _⟩ := r.lst_at
      refine ⟨a, xs, rfl, .inl (SqL.of h), fun D nD => k _ _ (Stt.newL (s.part l fun B O r => ?_) l nD)⟩
      obtain ⟨Oa, Oa', p1, q1⟩ := r.one'.lstI h
      exact ⟨Oa, Oa', p1, q1⟩
  · cases e
    match vs, l2 with
    | [x], _ =>
      obtain ⟨B, O, r⟩ := s.top
      obtain ⟨a, xs, rfl, h, _⟩ := r.tup_at
      exact ⟨a, xs, rfl, .inr (SqT.of h), fun D nD => k _ _ (Stt.newL (s.part l fun B O r => ⟨[], O, .refl _, r.one'.tupI h⟩) l nD)⟩
  · cases e
def gTuple : Lop
  | [.lst _ ps] => some (.tup ps)
  | [.tup ps] => some (.tup ps)
  | _ => none
theorem l_tuple : LC c (fun xs H Q => ∃ p ys, xs = [V.ref p] ∧ ((SqL c.K H p ys ∧ ∀ l, H l = none → Q (.ref l) (upd H l (.tup ys))) ∨ (SqT c.K H p ys ∧ Q (.ref p) H))) gTuple := fun σ τ hv hp H vs ps z Q l s e k => by
  have l2 := Stt.lenL l s (H' := H)
  unfold gTuple at e
  split at e
  · cases e
    match vs, l2 with
    | [x], _ =>
      obtain ⟨B, O, r⟩ := s.top
      obtain ⟨a, xs, rfl, h, _⟩ := r.lst_at
      refine ⟨a, xs, rfl, .inl ⟨SqL.of h, fun D nD => k _ _ (Stt.newT (s.part l fun B O r => ?_) l nD)⟩⟩
      obtain ⟨Oa, Oa', p1, q1⟩ := r.one'.lstI h
      exact ⟨Oa, Oa', p1, q1⟩
  · cases e
    match vs, l2 with
    | [x], _ =>
      obtain ⟨B, O, r⟩ := s.top
      obtain ⟨a, xs, rfl, h, _⟩ := r.tup_at
      exact ⟨a, xs, rfl, .inr ⟨SqT.of h, k _ _ s⟩⟩
  · cases e
end
end FL

namespace FL
open PySem PySem.Spec PyProof.Rows L2
section
variable {c : Bd}
/-! ### a slot's thing changed -/
/-- x at hand, the arguments behind it: x changed, an answer -/
abbrev Mop := PV → List PV → Option (PV × PV)
def LM (c : Bd) (r : V → List V → Hp → VK → Prop) (g : Mop) : Prop := ∀ σ τ hv hp H x vs p ps p' z Q, hv.length = hp.length → Stt c σ τ (hv ++ (x :: vs)) (hp ++ (p :: ps)) H → g p ps = some (p', z) → (∀ v H', Stt c σ τ (hv ++ [v] ++ [x]) (hp ++ [z] ++ [p']) H' → Q v H') → r x vs H Q
def tyM : PV → Option String
  | .lst _ _ => some "list"
  | .dct true false _ => some "dict"
  | _ => none
theorem Rel.tyv {P : Program} {w : World} {K : PySem.W.Frag} {B : Addr → Prop} {H : Hp} {v : V} {p : PV} {O : List Addr} {T : String} (r : Rel P w B H v p O) (h : tyM p = some T) : tyV K T v H := by
  cases r <;> simp only [tyM, Option.some.injEq, reduceCtorEq] at h <;> subst h
  case lstF n h r => exact .inl ⟨rfl, _, SqL.of h⟩
  case lstO h r => exact .inl ⟨rfl, _, SqL.of h⟩
  case dctO h r => exact .inr (.inr (.inl ⟨rfl, .inl ⟨_, h⟩⟩))
def mutM (T : String) (g : Mop) (i : Nat) (fa : En → Rs (List PV × En)) (τ : En) : Rs (PV × En) := match τ[i]? with
  | none => .no
  | some .un => .no
  | some p0 => if tyM p0 = some T then bnd (fa τ) fun a => match a.2[i]? with
      | none => .no
      | some .un => .no
      | some p => match g p a.1 with
        | some (p', z) => .ok (z, a.2.set i p')
        | none => .no
    else .no
theorem te_mut {T : String} {r : V → List V → Hp → VK → Prop} {g : Mop} {t : TA} {fa : En → Rs (List PV × En)} (hr : LM c r g) (i : Nat) (ha : MA c t fa) : ME c (tBM c.K T r (tVar i) t) (mutM T g i fa) := fun σ τ hv hp H Q s k => by
  unfold mutM at k
  split at k
  · exact k.elim
  · exact k.elim
  · rename_i p0 n0 e0
    split at k
    · rename_i hT
      obtain ⟨v, hs, s0⟩ := s.move e0 (fun z => n0 z)
      obtain ⟨B, O, r0⟩ := s0.top
      refine ⟨v, hs, r0.tyv hT, ha σ τ hv hp H _ s (aft_mono (aft_bnd k) fun a k vs H1 s1 => ?_)⟩
      split at k
      · exact k.elim
      · exact k.elim
      · rename_i p n e
        obtain ⟨v', hs', s2⟩ := s1.move e (fun z => n z)
        rw [hs] at hs'
        cases hs'
        split at k
        · rename_i p' z eg
          have s3 : Stt c σ (a.2.set i .un) (hv ++ (v :: vs)) (hp ++ (p :: a.1)) H1 := by
            rw [List.append_assoc, List.append_assoc] at s2
            refine s2.part s.len fun B O r => ?_
            obtain ⟨Oa, Ob, eo, ra, rb⟩ := r.split (Stt.lenL s.len s1 (H' := H1))
            subst eo
            exact ⟨[], Ob ++ Oa, List.perm_append_comm, .cons rb.one' ra⟩
          refine hr σ _ hv hp H1 v vs p a.1 p' z Q s.len s3 eg fun u H' s' => k u H' ?_
          have li := (List.getElem?_eq_some_iff.mp e).1
          have := s'.back (by rw [List.getElem?_set_self li]) hs
          rwa [List.set_set] at this
        · exact k.elim
    · exact k.elim
def gAppend : Mop := fun p ps => match p, ps with
  | .lst true xs, [q] => if fits (xs.length + 1) = true then some (.lst true (xs ++ [q]), .non) else none
  | _, _ => none
/-- .. of a thing that is given up -/
def gAppendF : Mop := fun p ps => gAppend p (fzs ps)
theorem lm_append : LM c rAppend gAppend := fun σ τ hv hp H x vs p ps p' z Q l s e k => by
  unfold gAppend at e
  split at e
  · rename_i xs q
    split at e
    · rename_i f
      cases e
      have l2 := Stt.lenL l s (H' := H)
      match vs, l2 with
      | [y], _ =>
        obtain ⟨B, O, r⟩ := (show Stt c σ τ (hv ++ [x]) (hp ++ [.lst true xs]) H from Stt.drop (ws := [y]) (qs := [q]) (by simpa using s) (by simp [l])).top
        obtain ⟨a, ys, rfl, h, lx⟩ := r.lst_at
        refine ⟨a, ys, y, rfl, rfl, h, by rw [lx]; exact fits_lt f, k _ _ (Stt.add ?_ rfl)⟩
        exact s.writeL l h fun B H' O r => ⟨[], O, by simp, r⟩
    · cases e
  · cases e
theorem lm_appendF : LM c rAppend gAppendF := fun σ τ hv hp H x vs p ps p' z Q l s e k => by
  have l2 := Stt.lenL l s (H' := H)
  unfold gAppendF at e
  have one : ∃ q, ps = [q] := by
    unfold gAppend at e
    split at e
    · rename_i xs q h
      match ps, h with
      | [q'], h => exact ⟨q', rfl⟩
    · cases e
  obtain ⟨q, rfl⟩ := one
  match vs, l2 with
  | [y], _ =>
    have s2 : Stt c σ τ (hv ++ [x] ++ [y]) (hp ++ [p] ++ [fz q]) H := Stt.froze (by simpa using s)
    exact lm_append σ τ hv hp H x [y] p [fz q] p' z Q l (by simpa using s2) e k
def gInsert : Mop := fun p ps => match p, ps with
  | .lst true xs, [.int i, q] => if (fits (xs.length + 1) && decide (0 ≤ i) && decide (i < 2 ^ 63)) = true then some (.lst true (xs.take i.toNat ++ [q] ++ xs.drop i.toNat), .non) else none
  | _, _ => none
theorem Rels.ins {P : Program} {w : World} {B : Addr → Prop} {H : Hp} : ∀ {xs : List V} {ps : List PV} {y : V} {q : PV} {O Oy : List Addr} (n : Nat), Rels P w B H xs ps O → Rel P w B H y q Oy → ∃ O', (O ++ Oy).Perm O' ∧ Rels P w B H (xs.take n ++ [y] ++ xs.drop n) (ps.take n ++ [q] ++ ps.drop n) O'
  | _, _, _, _, O, Oy, 0, r, x => ⟨Oy ++ O, List.perm_append_comm, .cons x r⟩
  | _, _, _, _, _, Oy, n + 1, .nil, x => ⟨Oy ++ [], by simp, .cons x .nil⟩
  | _, _, _, _, _, Oy, n + 1, .cons (O := O) (O' := O') z r, x => by
    obtain ⟨Or, p, q⟩ := Rels.ins n r x
    refine ⟨O ++ Or, ?_, .cons z q⟩
    rw [List.append_assoc]
    exact p.append_left O
theorem lm_insert : LM c (fun x vs H Q => ∃ (l : Addr) (xs : List V) (i : Int) (y : V), x = .ref l ∧ vs = [.int i, y] ∧ H l = some (.lst xs) ∧ xs.length < sizeLine ∧ 0 ≤ i ∧ i < 2 ^ 63 ∧
    Q .non (upd H l (.lst (xs.take i.toNat ++ [y] ++ xs.drop i.toNat)))) gInsert := fun σ τ hv hp H x vs p ps p' z Q l s e k => by
  unfold gInsert at e
  split at e
  · rename_i xs i q
    split at e
    · rename_i f
      cases e
      simp only [Bool.and_eq_true, decide_eq_true_eq] at f
      obtain ⟨⟨f1, f2⟩, f3⟩ := f
      have l2 := Stt.lenL l s (H' := H)
      match vs, l2 with
      | [u, y], _ =>
        have s0 : Stt c σ τ (hv ++ [x] ++ [u]) (hp ++ [.lst true xs] ++ [.int i]) H := Stt.drop (ws := [y]) (qs := [q]) (by simpa using s) (by simp [l])
        cases s0.top_sv rfl
        obtain ⟨B, O, r⟩ := s0.pop.top
        obtain ⟨a, ys, rfl, h, lx⟩ := r.lst_at
        refine ⟨a, ys, i, y, rfl, rfl, h, by rw [lx]; exact fits_lt f1, f2, f3, k _ _ (Stt.add ?_ rfl)⟩
        have s1 : Stt c σ τ (hv ++ (.ref a :: [y])) (hp ++ (.lst true xs :: [q])) H := s.part l fun B O r => by
          cases r with
          | cons x r =>
            cases r with
            | cons y r => cases y; exact ⟨[], _, .refl _, .cons x r⟩
        refine s1.writeL l h fun B H' O r => ?_
        obtain ⟨Oa, Ob, eo, ra, rb⟩ := r.split lx
        subst eo
        obtain ⟨O', p1, q1⟩ := ra.ins i.toNat rb.one'
        exact ⟨[], O', p1, q1⟩
    · cases e
  · cases e
/-! x[i] = e, x a slot -/
abbrev Sop := PV → PV → PV → Option PV
def LS (c : Bd) (t : TSet) (g : Sop) : Prop := ∀ σ τ hv hp H o i v p q u p' Q, hv.length = hp.length → Stt c σ τ (hv ++ [o, i, v]) (hp ++ [p, q, u]) H → g p q u = some p' → (∀ H', Stt c σ τ (hv ++ [o]) (hp ++ [p']) H' → Q H') → t o i v H Q
def stS (g : Sop) (i : Nat) (fi : En → Rs (PV × En)) (u : PV) (τ : En) : Option En := match τ[i]? with
  | none => none
  | some .un => none
  | some _ => match fi τ with
    | .ok b => match b.2[i]? with
      | none => none
      | some .un => none
      | some p => match g p b.1 u with
        | some p' => some (b.2.set i p')
        | none => none
    | _ => none
theorem mg_sub {t : TSet} {ti : TE} {g : Sop} {fi : En → Rs (PV × En)} (hs : LS c t g) (i : Nat) (hi : ME c ti fi) : MG c (gSub (tVar i) ti t) (stS g i fi) := fun σ τ τ' hv hp v u H Q s e k => by
  unfold stS at e
  split at e
  · cases e
  · cases e
  · rename_i p0 n0 e0
    obtain ⟨o, ho, _⟩ := s.move e0 (fun z => n0 z)
    refine ⟨o, ho, hi σ τ _ _ H _ s ?_⟩
    cases ef : fi τ with
    | no => rw [ef] at e; cases e
    | err x y => rw [ef] at e; cases e
    | ok b =>
      rw [ef] at e
      intro iv H1 s1
      simp only at e
      split at e
      · cases e
      · cases e
      · rename_i p n e1
        obtain ⟨o', ho', s2⟩ := s1.move e1 (fun z => n z)
        rw [ho] at ho'
        cases ho'
        split at e
        · rename_i p' eg
          cases e
          have l := s.lenT
          have s3 : Stt c σ (b.2.set i .un) (hv ++ [o, iv, v]) (hp ++ [p, b.1, u]) H1 := by
            simp only [List.append_assoc] at s2
            refine s2.part l fun B O r => ?_
            cases r with
            | @cons _ _ _ _ O1 _ x1 r =>
              cases r with
              | @cons _ _ _ _ O2 _ x2 r =>
                have x3 := r.one'
                rename_i O3
                refine ⟨[], O3 ++ (O2 ++ (O1 ++ [])), ?_, .cons x3 (.cons x2 (.cons x1 .nil))⟩
                exact List.perm_iff_count.mpr fun a => by simp only [List.count_append, List.count_nil]; omega
          refine hs σ _ hv hp H1 o iv v p b.1 u p' _ l s3 eg fun H' s' => k σ H' ?_
          have li := (List.getElem?_eq_some_iff.mp e1).1
          have := s'.back (by rw [List.getElem?_set_self li]) ho
          rwa [List.set_set] at this
        · cases e
def ixSet : Sop := fun p q u => match p, q with
  | .lst true ps, .int i => (ixN ps.length i).map fun j => .lst true (ps.set j u)
  | _, _ => none
theorem ls_list : LS c rSetL ixSet := fun σ τ hv hp H o i v p q u p' Q l s e k => by
  unfold ixSet at e
  split at e
  · rename_i ps n
    obtain ⟨j, hj, rfl⟩ := Option.map_eq_some_iff.mp e
    have s0 : Stt c σ τ (hv ++ [o] ++ [i]) (hp ++ [.lst true ps] ++ [.int n]) H := Stt.drop (ws := [v]) (qs := [u]) (by simpa using s) (by simp [l])
    cases s0.top_sv rfl
    obtain ⟨B, O, r⟩ := s0.pop.top
    obtain ⟨a, xs, rfl, h, lx⟩ := r.lst_at
    refine ⟨a, xs, n, j, rfl, rfl, h, by rw [lx]; exact hj, k _ ?_⟩
    have s1 : Stt c σ τ (hv ++ (.ref a :: [v])) (hp ++ (.lst true ps :: [u])) H := s.part l fun B O r => by
      cases r with
      | cons x r =>
        cases r with
        | cons y r => cases y; exact ⟨[], _, .refl _, .cons x r⟩
    refine s1.writeL l h fun B H' O r => ?_
    obtain ⟨Oa, Ob, eo, ra, rb⟩ := r.split lx
    subst eo
    have lj : j < ps.length := by
      unfold ixN at hj
      split at hj
      · split at hj
        · cases hj; omega
        · cases hj
      · split at hj
        · cases hj; omega
        · cases hj
    obtain ⟨v', Oi, Or, e1, e2, e3, e4⟩ := ra.at' (List.getElem?_eq_getElem lj)
    obtain ⟨O'', p2, q2⟩ := e4 v u Ob rb.one'
    refine ⟨Oi, O'', ?_, q2⟩
    exact List.perm_iff_count.mpr fun a => by
      have h1 := e3.count_eq a
      have h2 := p2.count_eq a
      simp only [List.count_append] at h1 h2 ⊢
      omega
  · cases e
/-- x[i] += e, x a slot that holds a list, ints -/
def aug (f : Int → Int → Int) (i : Nat) (fi fe : En → Rs (PV × En)) (τ : En) : Rs Fl := match τ[i]? with
  | none => .no
  | some .un => .no
  | some _ => bnd (fi τ) fun a => match a.2[i]? with
    | none => .no
    | some .un => .no
    | some p => match ixL p a.1 with
      | some (.int x) => bnd (fe a.2) fun b => match b.1 with
        | .int y => match b.2[i]? with
          | none => .no
          | some .un => .no
          | some p' => match ixSet p' a.1 (.int (f x y)) with
            | some p2 => .ok (.nx (b.2.set i p2))
            | none => .no
        | _ => .no
      | _ => .no
theorem ms_aug {f : Int → Int → Int} {ti te : TE} {fi fe : En → Rs (PV × En)} (i : Nat) (hi : ME c ti fi) (he : ME c te fe) : MS c (tAugS (tVar i) ti te (rIxL c.K) (ipI f) rSetL) (aug f i fi fe) := fun σ τ hv hp H D s k => by
  unfold aug at k
  split at k
  · exact k.elim
  · exact k.elim
  · rename_i p0 n0 e0
    obtain ⟨o, ho, _⟩ := s.move e0 (fun z => n0 z)
    refine ⟨o, ho, hi σ τ _ _ H _ s (aft_mono (aft_bnd k) (fun a k iv H1 s1 => ?_) fun _ _ => trivial)⟩
    split at k
    · exact k.elim
    · exact k.elim
    · rename_i p n e1
      split at k
      · rename_i x ex
        obtain ⟨o', ho', s2⟩ := s1.move e1 (fun z => n z)
        rw [ho] at ho'
        cases ho'
        obtain ⟨ob, ps, m, rfl, em, ea⟩ := ixL_eq ex
        rw [em] at s1 s2
        cases s1.top_sv rfl
        obtain ⟨B, O, r⟩ := s2.top
        obtain ⟨ad, xs, rfl, h, l⟩ := r.lst_at
        obtain ⟨_, _, _, r'⟩ := r.lstI h
        obtain ⟨v, _, _, ev, rv, _⟩ := r'.atI ea
        cases rv.sv rfl
        refine ⟨ad, xs, m, .int x, rfl, rfl, SqL.of h, ev, he σ a.2 _ _ H1 _ s1 (aft_mono (aft_bnd k) (fun b k y H2 s3 => ?_) fun _ _ => trivial)⟩
        split at k
        · rename_i y' ey
          rw [ey] at s3
          cases s3.top_sv rfl
          refine ⟨x, y', rfl, rfl, ?_⟩
          split at k
          · exact k.elim
          · exact k.elim
          · rename_i p' n' e2
            split at k
            · rename_i p2 es
              obtain ⟨o', ho', s4⟩ := s3.move e2 (fun z => n' z)
              rw [ho] at ho'
              cases ho'
              have l0 := s.len
              have s5 : Stt c σ (b.2.set i .un) (hv ++ [.ref ad, .int m, .int (f x y')]) (hp ++ [p', .int m, .int (f x y')]) H2 := by
                have z : Stt c σ (b.2.set i .un) (hv ++ [.ref ad]) (hp ++ [p']) H2 := s4.mid.mid
                have := (z.sc (p := .int m) rfl).sc (p := .int (f x y')) rfl
                simpa using this
              rw [em] at es
              refine ls_list σ _ hv hp H2 _ _ _ p' (.int m) (.int (f x y')) p2 _ l0 s5 es fun H' s' => k σ H' ?_
              have li := (List.getElem?_eq_some_iff.mp e2).1
              have := s'.back (by rw [List.getElem?_set_self li]) ho
              rwa [List.set_set] at this
            · exact k.elim
        · exact k.elim
      · exact k.elim
/-- x += e, x a slot that holds an int -/
def augN (f : Int → Int → Int) (i : Nat) (fe : En → Rs (PV × En)) (τ : En) : Rs Fl := match τ[i]? with
  | some (.int x) => bnd (fe τ) fun b => match b.1 with
    | .int y => if i < b.2.length then .ok (.nx (b.2.set i (.int (f x y)))) else .no
    | _ => .no
  | _ => .no
theorem ms_augN {f : Int → Int → Int} {te : TE} {fe : En → Rs (PV × En)} (i : Nat) (he : ME c te fe) (n : c.np i = false := by rfl) : MS c (tAug i te (ipI f)) (augN f i fe) := fun σ τ hv hp H D s k => by
  unfold augN at k
  split at k
  · rename_i x e0
    obtain ⟨o, ho, s0⟩ := s.move e0 (fun z => nomatch z)
    cases s0.top_sv rfl
    refine ⟨_, ho, he σ τ _ _ H _ s (aft_mono (aft_bnd k) (fun b k y H1 s1 => ?_) fun _ _ => trivial)⟩
    split at k
    · rename_i y' ey
      rw [ey] at s1
      cases s1.top_sv rfl
      split at k
      · rename_i hi
        exact ⟨x, y', rfl, rfl, k _ _ ((s1.pop.sc (p := .int (f x y')) rfl).store hi n)⟩
      · exact k.elim
    · exact k.elim
  · exact k.elim
/-! ### a < b < c -/
def chn (g g' : Bop) (fa fb fc : En → Rs (PV × En)) (τ : En) : Rs (PV × En) := bnd (fa τ) fun a => bnd (fb a.2) fun b => match g a.1 b.1 with
  | some (.bl true) => if isFz b.1 = true then bnd (fc b.2) fun d => opt (g' b.1 d.1) d.2 else .no
  | some (.bl false) => .ok (.bl false, b.2)
  | _ => .no
theorem te_chain {r r' : R2} {g g' : Bop} {ta tb tc : TE} {fa fb fc : En → Rs (PV × En)} (hr : L2op c r g) (hr' : L2op c r' g') (ha : ME c ta fa) (hb : ME c tb fb) (hc : ME c tc fc) : ME c (tChain r r' ta tb tc) (chn g g' fa fb fc) := fun σ τ hv hp H Q s k => ha σ τ hv hp H _ s (aft_mono (aft_bnd k) fun a k x H1 s1 => hb σ a.2 _ _ H1 _ s1 (aft_mono (aft_bnd k) fun b k y H2 s2 => by
  split at k
  · rename_i eg
    split at k
    · rename_i f
      have s3 := s2.copy (fz_of f)
      have s4 : Stt c σ b.2 (hv ++ [y] ++ [x] ++ [y]) (hp ++ [b.1] ++ [a.1] ++ [b.1]) H2 := s3.rot.swap.rot.swap
      refine hr σ b.2 _ _ H2 x y a.1 b.1 (.bl true) _ s4 eg fun v H3 s5 => ⟨true, s5.top_sv rfl, ?_⟩
      simp only [if_true]
      refine hc σ b.2 _ _ H3 _ s5.pop (aft_mono (aft_bnd k) fun d k z H4 s6 => ?_)
      cases eg' : g' b.1 d.1 with
      | none => rw [eg'] at k; exact k.elim
      | some w =>
        rw [eg'] at k
        exact hr' σ d.2 _ _ H4 y z b.1 d.1 w _ s6 eg' k
    · exact k.elim
  · rename_i eg
    refine hr σ b.2 _ _ H2 x y a.1 b.1 (.bl false) _ s2 eg fun v H3 s5 => ⟨false, s5.top_sv rfl, ?_⟩
    simp only [Bool.false_eq_true, if_false]
    exact k _ H3 (s5.pop.sc rfl)
  · exact k.elim))
end
end FL

namespace HK
open PySem PySem.Spec PyProof.Rows L2
open PySem.W (dataLe EachIs alike AllAlike Sortable)
theorem each_zip {R : Value → V × PyData → Prop} {S : V → Value → Prop} (k : ∀ v u d, S v u → R u (v, d)) : ∀ {ys : List V} {its : List Value} {ds : List PyData}, Paired S ys its → ys.length = ds.length → EachIs R its (ys.zip ds)
  | _, _, [], .nil, _ => .nil
  | _, _, _ :: _, .nil, h => nomatch h
  | _, _, [], .cons _ _, h => nomatch h
  | _, _, d :: ds, .cons r t, h => .cons (k _ _ _ r) (each_zip k t (Nat.succ.inj h))
theorem DpAll.len {K : PySem.W.Frag} {H : Hp} : ∀ {ys : List V} {ds : List PyData}, DpAll K H ys ds → ys.length = ds.length
  | _, _, .nil => rfl
  | _, _, .cons _ r => congrArg Nat.succ (DpAll.len r)
theorem zip_snd {α β : Type} : ∀ {xs : List α} {ys : List β}, xs.length = ys.length → (xs.zip ys).map (·.2) = ys
  | [], [], _ => rfl
  | [], _ :: _, h => nomatch h
  | _ :: _, [], h => nomatch h
  | x :: xs, y :: ys, h => by rw [List.zip_cons_cons, List.map_cons, zip_snd (Nat.succ.inj h)]
theorem each_fst : ∀ {out : List Value} {bs : List (V × PyData)}, EachIs (fun v b => RelV b.1 v) out bs → Vals (bs.map (·.1)) out
  | _, _, .nil => .nil
  | _, _, .cons h r => .cons h (each_fst r)
theorem each_reads {X : Cx} {pins : List (Addr × Obj)} {σ : L2.St} {H : Hp} {s : Shared} (I : Inv X pins σ H s) : ∀ {ys : List V} {its : List Value} {ds : List PyData}, Vals ys its → DpAll X.K H ys ds → EachIs (fun v b => ∃ as, Reads s.heap v b.2 as) its (ys.zip ds)
  | _, _, _, .nil, .nil => .nil
  | _, _, _, .cons r t, .cons d e => .cons (Dp.reads I _ _ _ d r) (each_reads I t e)
/-- sorted of a list of data that is alike -/
def rSortedD (K : PySem.W.Frag) : List V → Hp → VK → Prop := fun xs H Q => ∃ (a : Addr) (ys : List V) (ds : List PyData), xs = [.ref a] ∧ SqL K H a ys ∧ DpAll K H ys ds ∧ AllAlike ds ∧ Sortable ds ∧ (∀ d ∈ ds, d.depth ≤ 60) ∧
  ∀ p, H p = none → Q (.ref p) (upd H p (.lst (((ys.zip ds).mergeSort (dataLe false fun b => b.2)).map (·.1))))
theorem cr_sortedD {X : Cx} (hu : X.A.units + 64 < cLine) : CallR X (.builtin "sorted") (rSortedD X.K) := by
  intro pins s σ H xs us Q I r h
  obtain ⟨a, ys, ds, rfl, hs, hd, al, so, dp, q⟩ := h
  obtain ⟨its, rv, hl, hz⟩ := I.list hs
  rw [Vals.ref1 r]
  have l1 := HK.DpAll.len hd
  have l2 := rv.length
  have hz2 : (ys.zip ds).length ≤ sizeLine := by rw [List.length_zip, ← l1, Nat.min_self]; exact hz
  refine PySem.W.sorted_data (enc := fun b : V × PyData => b.2) (R := fun v b => RelV b.1 v) hl.isList (each_zip (S := RelV) (fun v u d r => r) rv l1) (each_reads I rv hd) (by rw [zip_snd l1]; exact al) (by rw [zip_snd l1]; exact so) hz2
    (fun b hb => ?_) fun out ho eo => ?_
  · have := dp b.2 (by rw [← zip_snd l1]; exact List.mem_map.mpr ⟨b, hb, rfl⟩)
    omega
  · obtain ⟨ep, he'⟩ := PyProof.Rows.sortedAll_at s.heap its out.toArray
    refine ⟨.ref _, upd H (s.heap.objs.size + 1) (.lst (((ys.zip ds).mergeSort (dataLe false fun b => b.2)).map (·.1))), I.laid (t' := s.toks) (fun _ _ => PyProof.Rows.sortedAll_old) (Nat.le_succ _) ⟨?_, out, ep, each_fst eo, he'⟩, rfl, q _ (I.hok.fresh (Nat.le_succ _))⟩
    rw [List.length_map, List.length_mergeSort]
    exact hz2
end HK
namespace FL
open PySem PySem.Spec PyProof.Rows L2
open PySem.W (dataLe alike AllAlike Sortable)
/-! ### data -/
mutual
def toD : PV → Option PyData
  | .non => some .none
  | .bl b => some (.bool b)
  | .int i => some (.int i)
  | .str x => some (.str x)
  | .tup ps => (toDs ps).map .tuple
  | .lst _ ps => (toDs ps).map .list
  | .un => none
  | .dct _ _ _ => none
  | .ins _ _ _ => none
  | .exc _ _ _ _ => none
def toDs : List PV → Option (List PyData)
  | [] => some []
  | p :: ps => (toD p).bind fun d => (toDs ps).map (d :: ·)
end
/-! .. with empty dicts -/
mutual
def toX : PV → Option PyData
  | .non => some .none
  | .bl b => some (.bool b)
  | .int i => some (.int i)
  | .str x => some (.str x)
  | .tup ps => (toXs ps).map .tuple
  | .lst _ ps => (toXs ps).map .list
  | .un => none
  | .dct _ t es => if t = false ∧ es.length = 0 then some (.dict []) else none
  | .ins _ _ _ => none
  | .exc _ _ _ _ => none
def toXs : List PV → Option (List PyData)
  | [] => some []
  | p :: ps => (toX p).bind fun d => (toXs ps).map (d :: ·)
end
mutual
theorem toX_of : ∀ {p : PV} {d : PyData}, toD p = some d → toX p = some d
  | .non, _, h => h
  | .bl _, _, h => h
  | .int _, _, h => h
  | .str _, _, h => h
  | .tup ps, _, h => by
    obtain ⟨ds, e, rfl⟩ := Option.map_eq_some_iff.mp h
    rw [toX, toXs_of e]; rfl
  | .lst _ ps, _, h => by
    obtain ⟨ds, e, rfl⟩ := Option.map_eq_some_iff.mp h
    rw [toX, toXs_of e]; rfl
  | .un, _, h => by cases h
  | .dct _ _ _, _, h => by cases h
  | .ins _ _ _, _, h => by cases h
  | .exc _ _ _ _, _, h => by cases h
theorem toXs_of : ∀ {ps : List PV} {ds : List PyData}, toDs ps = some ds → toXs ps = some ds
  | [], _, h => h
  | p :: ps, _, h => by
    obtain ⟨d, e1, e2⟩ := Option.bind_eq_some_iff.mp h
    obtain ⟨ds, e3, rfl⟩ := Option.map_eq_some_iff.mp e2
    rw [toXs, toX_of e1, toXs_of e3]; rfl
end
section
variable {P : Program} {w : World} {K : PySem.W.Frag} {B : Addr → Prop} {H : Hp}
mutual
theorem Rel.dp : ∀ {v : V} {p : PV} {O : List Addr} {d : PyData}, Rel P w B H v p O → toD p = some d → Dp K H v d
  | _, _, _, _, .un, e => by simp [toD] at e
  | _, _, _, _, .non, e => by cases e; exact .non
  | _, _, _, _, .bl b, e => by cases e; exact .bl b
  | _, _, _, _, .int i, e => by cases e; exact .int i
  | _, _, _, _, .str x, e => by cases e; exact .str x
  | _, _, _, _, .tup n h r, e => by
    obtain ⟨ds, e1, rfl⟩ := Option.map_eq_some_iff.mp e
    exact .tup (SqT.of h) (Rels.dp r e1)
  | _, _, _, _, .lstF n h r, e => by
    obtain ⟨ds, e1, rfl⟩ := Option.map_eq_some_iff.mp e
    exact .lst (SqL.of h) (Rels.dp r e1)
  | _, _, _, _, .lstO h r, e => by
    obtain ⟨ds, e1, rfl⟩ := Option.map_eq_some_iff.mp e
    exact .lst (SqL.of h) (Rels.dp r e1)
  | _, _, _, _, .dctF n h r, e => by simp [toD] at e
  | _, _, _, _, .dctO h r, e => by simp [toD] at e
  | _, _, _, _, .dcuF n h r, e => by simp [toD] at e
  | _, _, _, _, .dcuO h r, e => by simp [toD] at e
  | _, _, _, _, .ins n h e1 e2 r, e => by simp [toD] at e
  | _, _, _, _, .exc n h e1 e2 r, e => by simp [toD] at e
theorem Rels.dp : ∀ {vs : List V} {ps : List PV} {O : List Addr} {ds : List PyData}, Rels P w B H vs ps O → toDs ps = some ds → DpAll K H vs ds
  | _, _, _, _, .nil, e => by cases e; exact .nil
  | _, _, _, _, .cons x r, e => by
    obtain ⟨d, e1, e2⟩ := Option.bind_eq_some_iff.mp e
    obtain ⟨ds, e3, rfl⟩ := Option.map_eq_some_iff.mp e2
    exact .cons (Rel.dp x e1) (Rels.dp r e3)
end
theorem RelD.nil' : ∀ {kvs : List (Key × V)} {es : List PV} {O : List Addr}, RelD P w B H kvs es O → es.length = 0 → kvs = []
  | _, _, _, .nil, _ => rfl
  | _, _, _, .cons _ _ _, h => nomatch h
mutual
theorem Rel.dx (M : HK.Mk H) : ∀ {v : V} {p : PV} {O : List Addr} {d : PyData}, Rel P w B H v p O → toX p = some d → HK.DX sysModules H v d
  | _, _, _, _, .un, e => by simp [toX] at e
  | _, _, _, _, .non, e => by cases e; exact .non
  | _, _, _, _, .bl b, e => by cases e; exact .bl b
  | _, _, _, _, .int i, e => by cases e; exact .int i
  | _, _, _, _, .str x, e => by cases e; exact .str x
  | _, _, _, _, .tup n h r, e => by
    obtain ⟨ds, e1, rfl⟩ := Option.map_eq_some_iff.mp e
    exact .tup (let ⟨_, _, m⟩ := M; ne_of h m (by intro z; cases z)) h (Rels.dx M r e1)
  | _, _, _, _, .lstF n h r, e => by
    obtain ⟨ds, e1, rfl⟩ := Option.map_eq_some_iff.mp e
    exact .lst (let ⟨_, _, m⟩ := M; ne_of h m (by intro z; cases z)) h (Rels.dx M r e1)
  | _, _, _, _, .lstO h r, e => by
    obtain ⟨ds, e1, rfl⟩ := Option.map_eq_some_iff.mp e
    exact .lst (let ⟨_, _, m⟩ := M; ne_of h m (by intro z; cases z)) h (Rels.dx M r e1)
  | _, _, _, _, .dctF n h r, e => by
    rw [toX] at e
    split at e
    · rename_i z
      cases e
      have ek := r.nil' z.2
      subst ek
      exact .dct (let ⟨_, _, m⟩ := M; ne_of h m (by intro z; cases z)) h
    · cases e
  | _, _, _, _, .dctO h r, e => by
    rw [toX] at e
    split at e
    · rename_i z
      cases e
      have ek := r.nil' z.2
      subst ek
      exact .dct (let ⟨_, _, m⟩ := M; ne_of h m (by intro z; cases z)) h
    · cases e
  | _, _, _, _, .dcuF n h r, e => by simp [toX] at e
  | _, _, _, _, .dcuO h r, e => by simp [toX] at e
  | _, _, _, _, .ins n h e1 e2 r, e => by simp [toX] at e
  | _, _, _, _, .exc n h e1 e2 r, e => by simp [toX] at e
theorem Rels.dx (M : HK.Mk H) : ∀ {vs : List V} {ps : List PV} {O : List Addr} {ds : List PyData}, Rels P w B H vs ps O → toXs ps = some ds → HK.DXs sysModules H vs ds
  | _, _, _, _, .nil, e => by cases e; exact .nil
  | _, _, _, _, .cons x r, e => by
    obtain ⟨d, e1, e2⟩ := Option.bind_eq_some_iff.mp e
    obtain ⟨ds, e3, rfl⟩ := Option.map_eq_some_iff.mp e2
    exact .cons (Rel.dx M x e1) (Rels.dx M r e3)
end
end
section
variable {c : Bd}
/-- data whose text has room -/
def txB (d : PyData) : Bool := d.showable && fits d.shown.length && decide (d.depth ≤ 60)
def gRepr : Uop := fun p => match toX p with
  | some d => if txB d = true then some (.str d.shown) else none
  | none => none
theorem l_repr : L1b c (fun v H Q => ∃ b x d, [v] = [x] ∧ HK.Mk H ∧ HK.DX b H x d ∧ HK.TX d ∧ Q (.str d.shown) H) gRepr := fun σ τ hv hp H x p z Q s e k => by
  unfold gRepr at e
  split at e
  · rename_i d ed
    split at e
    · rename_i t
      cases e
      unfold txB at t
      simp only [Bool.and_eq_true, decide_eq_true_eq] at t
      obtain ⟨B, O, r⟩ := s.top
      exact ⟨sysModules, x, d, rfl, s.2.2, r.dx s.2.2 ed, ⟨t.1.1, fits_ok t.1.2, t.2⟩, k _ H (s.add rfl)⟩
    · cases e
  · cases e
def gEqD (ne : Bool) : Bop := fun p q => match toD p, toD q with
  | some d, some e => if (SeqAt.shaped d && SeqAt.shaped e) = true then some (.bl (ne != PyData.eqv d e)) else none
  | _, _ => none
theorem gEqD_eq {ne : Bool} {p q z : PV} (h : gEqD ne p q = some z) : ∃ d e, toD p = some d ∧ toD q = some e ∧ SeqAt.shaped d = true ∧ SeqAt.shaped e = true ∧ z = .bl (ne != PyData.eqv d e) := by
  unfold gEqD at h
  split at h
  · split at h
    · rename_i e1 e2 f
      rw [Bool.and_eq_true] at f
      cases h
      exact ⟨_, _, e1, e2, f.1, f.2, rfl⟩
    · cases h
  · cases h
theorem l_eqD : L2op c (rEqD c.K) (gEqD false) := fun σ τ hv hp H x y p q z Q s e k => by
  obtain ⟨d, e', e1, e2, s1, s2, rfl⟩ := gEqD_eq e
  obtain ⟨B, O, r⟩ := s.top
  obtain ⟨B', O', r'⟩ := s.pop.top
  exact ⟨d, e', r'.dp e1, r.dp e2, s1, s2, k _ H (s.pop.pop.sc (by simp [sv]))⟩
theorem l_neD : L2op c (rNeD c.K) (gEqD true) := fun σ τ hv hp H x y p q z Q s e k => by
  obtain ⟨d, e', e1, e2, s1, s2, rfl⟩ := gEqD_eq e
  obtain ⟨B, O, r⟩ := s.top
  obtain ⟨B', O', r'⟩ := s.pop.top
  exact ⟨d, e', r'.dp e1, r.dp e2, s1, s2, k _ H (s.pop.pop.sc (by simp [sv]))⟩
/-! ### sorted -/
def dOf (p : PV) : PyData := (toD p).getD .none
def leD (p q : PV) : Bool := dataLe false dOf p q
def sortP (ps : List PV) : List PV := ps.mergeSort leD
def alikeB (ds : List PyData) : Bool := ds.all fun d => ds.all fun e => alike d e
def sortB (ds : List PyData) : Bool := (ds.all fun d => match d with | .tuple (_ :: _) => true | _ => false) || (ds.all fun d => match d with | .none => false | .tuple _ => false | _ => true)
theorem alikeB_ok {ds : List PyData} (h : alikeB ds = true) : AllAlike ds := fun d hd e he => List.all_eq_true.mp (List.all_eq_true.mp h d hd) e he
theorem sortB_ok {ds : List PyData} (h : sortB ds = true) : Sortable ds := by
  unfold sortB at h
  rw [Bool.or_eq_true] at h
  refine h.imp (fun h d hd => ?_) fun h d hd => ?_
  · have := List.all_eq_true.mp h d hd
    split at this
    · exact ⟨_, _, rfl⟩
    · cases this
  · have := List.all_eq_true.mp h d hd
    split at this
    · cases this
    · cases this
    · rename_i n1 n2
      exact ⟨fun z => n1 z, fun xs z => n2 xs z⟩
def gSorted : Uop
  | .lst _ ps => match toDs ps with
    | some ds => if (alikeB ds && sortB ds && ds.all (fun d => decide (d.depth ≤ 60)) && isFzs ps) = true then some (.lst true (sortP ps)) else none
    | none => none
  | _ => none
theorem toDs_map : ∀ {ps : List PV} {ds : List PyData}, toDs ps = some ds → ps.map dOf = ds
  | [], _, h => by cases h; rfl
  | p :: ps, _, h => by
    obtain ⟨d, e1, e2⟩ := Option.bind_eq_some_iff.mp h
    obtain ⟨ds, e3, rfl⟩ := Option.map_eq_some_iff.mp e2
    rw [List.map_cons, toDs_map e3, dOf, e1]
    rfl
/-- a list sorted by what its things are -/
theorem Rels.sort {P : Program} {w : World} {B : Addr → Prop} {H : Hp} {xs : List V} {ps : List PV} (r : Rels P w B H xs ps []) : Rels P w B H (((xs.zip (ps.map dOf)).mergeSort (dataLe false fun b => b.2)).map (·.1)) (sortP ps) [] := by
  have lx := r.len
  have e1 : xs.zip (ps.map dOf) = (xs.zip ps).map fun q => (q.1, dOf q.2) := by
    rw [List.zip_map_right]
    rfl
  have e2 : (ps : List PV) = (xs.zip ps).map (·.2) := (HK.zip_snd lx).symm
  have m1 : ((xs.zip ps).map fun q => (q.1, dOf q.2)).mergeSort (dataLe false fun b : V × PyData => b.2) = ((xs.zip ps).mergeSort fun a b => leD a.2 b.2).map fun q => (q.1, dOf q.2) := by
    exact (List.map_mergeSort (r := fun a b : V × PV => leD a.2 b.2) (s := dataLe false fun b : V × PyData => b.2) (f := fun q : V × PV => (q.1, dOf q.2)) (l := xs.zip ps) (fun a _ b _ => rfl)).symm
  have m2 : sortP ps = ((xs.zip ps).mergeSort fun a b => leD a.2 b.2).map (·.2) := by
    unfold sortP
    conv => lhs; rw [e2]
    exact (List.map_mergeSort (r := fun a b : V × PV => leD a.2 b.2) (s := leD) (f := fun q : V × PV => q.2) (l := xs.zip ps) (fun a _ b _ => rfl)).symm
  rw [e1, m1, m2, List.map_map]
  have pm := List.mergeSort_perm (xs.zip ps) (fun a b => leD a.2 b.2)
  have all : ∀ q ∈ (xs.zip ps).mergeSort (fun a b => leD a.2 b.2), Rel P w B H q.1 q.2 [] := fun q hq => by
    have hq := pm.mem_iff.mp hq
    obtain ⟨i, hi⟩ := List.mem_iff_getElem?.mp hq
    obtain ⟨h1, h2⟩ := List.getElem?_zip_eq_some.mp hi
    obtain ⟨v, hv, rv⟩ := r.get h2
    rw [h1] at hv
    cases hv
    exact rv
  generalize (xs.zip ps).mergeSort (fun a b => leD a.2 b.2) = l at all
  induction l with
  | nil => exact .nil
  | cons q l ih => exact .cons (O := []) (O' := []) (all q List.mem_cons_self) (ih fun q hq => all q (List.mem_cons_of_mem _ hq))
theorem l_sorted : LC c (HK.rSortedD c.K) (on1 gSorted) := fun σ τ hv hp H vs ps z Q l s e k => by
  have l2 := Stt.lenL l s (H' := H)
  match ps, vs, l2, e with
  | [p], [x], _, e =>
    cases p <;> simp only [on1, gSorted, reduceCtorEq] at e
    rename_i o ps
    split at e
    · rename_i ds ed
      split at e
      · rename_i f
        cases e
        simp only [Bool.and_eq_true] at f
        obtain ⟨⟨⟨f1, f2⟩, f3⟩, f4⟩ := f
        obtain ⟨B, O, r⟩ := s.top
        obtain ⟨a, xs, rfl, h, _⟩ := r.lst_at
        obtain ⟨_, _, _, r'⟩ := r.lstI h
        refine ⟨a, xs, ds, rfl, SqL.of h, r'.dp ed, alikeB_ok f1, sortB_ok f2, fun d hd => of_decide_eq_true (List.all_eq_true.mp f3 d hd), fun D nD => k _ _ (Stt.newL (s.part l fun B O r => ?_) l nD)⟩
        obtain ⟨Oa, Oa', p1, q1⟩ := r.one'.lstI h
        have eo := q1.nil_of (fzs_of f4)
        subst eo
        have := q1.sort
        rw [toDs_map ed] at this
        exact ⟨Oa, [], p1, this⟩
      · cases e
    · cases e
/-! ### xs[::-1] -/
def revL (f : En → Rs (PV × En)) (τ : En) : Rs (PV × En) := bnd (f τ) fun a => match a.1 with
  | .lst _ ps => .ok (.lst true ps.reverse, a.2)
  | _ => .no
theorem Rels.rev {P : Program} {w : World} {B : Addr → Prop} {H : Hp} : ∀ {xs : List V} {ps : List PV} {O : List Addr}, Rels P w B H xs ps O → ∃ O', O.Perm O' ∧ Rels P w B H xs.reverse ps.reverse O'
  | _, _, _, .nil => ⟨[], .refl _, .nil⟩
  | _, _, _, .cons x r => by
    obtain ⟨O', p, q⟩ := Rels.rev r
    rw [List.reverse_cons, List.reverse_cons]
    exact ⟨_, (p.append_left _).trans List.perm_append_comm, q.append (.one x)⟩
theorem te_revL {t : TE} {f : En → Rs (PV × En)} (h : ME c t f) : ME c (tRevL c.K t) (revL f) := fun σ τ hv hp H Q s k => h σ τ hv hp H _ s (aft_mono (aft_bnd k) fun a k x H1 s1 => by
  split at k
  · rename_i o ps e
    rw [e] at s1
    obtain ⟨B, O, r⟩ := s1.top
    obtain ⟨ad, xs, rfl, hx, _⟩ := r.lst_at
    refine ⟨ad, xs, rfl, SqL.of hx, fun D nD => k _ _ (Stt.newL (s1.part s1.lenT fun B O r => ?_) s1.lenT nD)⟩
    obtain ⟨Oa, Oa', p1, q1⟩ := r.one'.lstI hx
    obtain ⟨O', p2, q2⟩ := q1.rev
    exact ⟨Oa, O', p1.trans (p2.append_left Oa), q2⟩
  · exact k.elim)
/-! ### enumerate, zip of lists -/
def pairs (ps qs : List PV) : List PV := (ps.zip qs).map fun q => .tup [q.1, q.2]
/-- a new tuple of two things -/
theorem Stt.pair {σ : L2.St} {τ : En} {hv : List V} {hp : List PV} {x y : V} {p q : PV} {T : Addr} {H : Hp} (s : Stt c σ τ (hv ++ [x] ++ [y]) (hp ++ [p] ++ [q]) H) (l : hv.length = hp.length) (n : H T = none) : Stt c σ τ (hv ++ [.ref T]) (hp ++ [.tup [p, q]]) (upd H T (.tup [x, y])) := by
  have : Stt c σ τ (hv ++ [x, y]) (hp ++ [p, q]) H := by simpa using s
  exact this.newT l n
def ienum (f : En → Rs (List PV × En)) (τ : En) : Rs (List PV × En) := bnd (f τ) fun a => match a.1 with
  | [.lst _ ps] => .ok (pairs (rng 0 ps.length) (fzs ps), a.2)
  | _ => .no
theorem walkE {K : PySem.W.Frag} {a : Addr} {n : Nat} : L2.Walk (Ite K a) n (fun H => ∃ xs, SqL K H a xs ∧ xs.length = n) (fun i H v H' => ∃ T x, v = .ref T ∧ H T = none ∧ H' = upd H T (.tup [.int (i : Nat), x]) ∧ ∀ xs, SqL K H a xs → xs[i]? = some x) :=
  ⟨fun i H hi ⟨xs, q, l⟩ => ⟨xs, xs[i], q, List.getElem?_eq_getElem (by omega)⟩, fun H ⟨xs, q, l⟩ => ⟨xs, q, by omega⟩, fun i H v H' hi _ y => by
    obtain ⟨T, x, h1, h2, h3, h4⟩ := y
    exact ⟨T, x, h1, h2, h3, h4⟩⟩
theorem wlk_enum {ad : Addr} {o : Bool} {ps : List PV} : Wlk c (Ite c.K ad) (pairs (rng 0 ps.length) (fzs ps)) [.ref ad] [fz (.lst o ps)] := by
  have lf : (fzs ps).length = ps.length := by rw [fzs_map, List.length_map]
  have e : (pairs (rng 0 ps.length) (fzs ps)).length = ps.length := by simp [pairs, rng, lf]
  refine ⟨_, _, by rw [e]; exact walkE, fun σ τ hv hp H _ s => ?_, fun i H v H' σ τ hv hp q _ hq s y => ?_⟩
  · obtain ⟨B, O, r⟩ := s.top
    obtain ⟨_, xs, e, hx, hl⟩ := r.lst_at
    cases e
    exact ⟨xs, SqL.of hx, by rw [hl]; exact lf⟩
  · obtain ⟨T, x, rfl, nT, rfl, y⟩ := y
    obtain ⟨B, O, r⟩ := s.top
    obtain ⟨_, xs, e, hx, hl⟩ := r.lst_at
    cases e
    unfold pairs at hq
    rw [List.getElem?_map] at hq
    obtain ⟨z, hz, rfl⟩ := Option.map_eq_some_iff.mp hq
    obtain ⟨h1, h2⟩ := List.getElem?_zip_eq_some.mp hz
    unfold rng at h1
    rw [List.getElem?_map] at h1
    obtain ⟨j, hj, e1⟩ := Option.map_eq_some_iff.mp h1
    obtain ⟨_, rfl⟩ := List.getElem?_eq_some_iff.mp hj
    rw [List.getElem_range] at e1
    have s1 : Stt c σ τ (hv ++ [.ref ad] ++ [x]) (hp ++ [fz (.lst o ps)] ++ [z.2]) H := s.item (xs := xs) (ps := fzs ps) (fz_fz _) (fun B O r _ => by
      cases r with
      | lstF n h r => rw [hx] at h; cases h; exact r) h2 (y xs (SqL.of hx))
    have s2 := s1.add (z := z.1) (u := .int (i : Nat)) (by rw [← e1]; simp [sv])
    exact s2.pair (by have := s.len; simpa using this) nT
theorem mi_enum {t : TA} {f : En → Rs (List PV × En)} (h : MA c t f) : MI c (iEnum c.K t) (ienum f) := fun σ τ hv hp H R s k => h σ τ hv hp H _ s (aft_mono (aft_bnd k) fun a k vs H1 s1 => by
  split at k
  · rename_i o ps e
    rw [e] at s1
    have l2 := Stt.lenL s.len s1 (H' := H1)
    match vs, l2 with
    | [x], _ =>
      obtain ⟨B, O, r⟩ := s1.top
      obtain ⟨ad, xs, rfl, hx, hl⟩ := r.lst_at
      exact ⟨ad, xs, rfl, SqL.of hx, k _ _ _ _ s1.froze wlk_enum⟩
  · exact k.elim)
def izip (f : En → Rs (List PV × En)) (τ : En) : Rs (List PV × En) := bnd (f τ) fun a => match a.1 with
  | [.lst _ ps, .lst _ qs] => .ok (pairs (fzs ps) (fzs qs), a.2)
  | _ => .no
theorem walkZ {K : PySem.W.Frag} {a b : Addr} {n m : Nat} : L2.Walk (Itz K a b) (min n m) (fun H => ∃ xs ys, SqL K H a xs ∧ SqL K H b ys ∧ xs.length = n ∧ ys.length = m) (fun i H v H' => ∃ T x z, v = .ref T ∧ H T = none ∧ H' = upd H T (.tup [x, z]) ∧ (∀ xs, SqL K H a xs → xs[i]? = some x) ∧ ∀ ys, SqL K H b ys → ys[i]? = some z) :=
  ⟨fun i H hi ⟨xs, ys, q, q', l, l'⟩ => ⟨xs, ys, xs[i]'(by omega), ys[i]'(by omega), q, q', List.getElem?_eq_getElem (by omega), List.getElem?_eq_getElem (by omega)⟩, fun H ⟨xs, ys, q, q', l, l'⟩ => ⟨xs, ys, q, q', by omega⟩, fun i H v H' hi _ y => by
    obtain ⟨T, x, z, h1, h2, h3, h4, h5⟩ := y
    exact ⟨T, x, z, h1, h2, h3, h4, h5⟩⟩
theorem wlk_zip {a b : Addr} {o o' : Bool} {ps qs : List PV} : Wlk c (Itz c.K a b) (pairs (fzs ps) (fzs qs)) [.ref a, .ref b] [fz (.lst o ps), fz (.lst o' qs)] := by
  have e : (pairs (fzs ps) (fzs qs)).length = min (fzs ps).length (fzs qs).length := by simp [pairs]
  have rel : ∀ {σ τ hv hp H}, hv.length = hp.length → Stt c σ τ (hv ++ [V.ref a, .ref b]) (hp ++ [fz (.lst o ps), fz (.lst o' qs)]) H → ∃ xs ys, H a = some (.lst xs) ∧ H b = some (.lst ys) ∧ xs.length = (fzs ps).length ∧ ys.length = (fzs qs).length := fun {σ τ hv hp H} l s => by
    have s1 : Stt c σ τ (hv ++ [.ref a] ++ [.ref b]) (hp ++ [fz (.lst o ps)] ++ [fz (.lst o' qs)]) H := by simpa using s
    obtain ⟨B, O, r⟩ := s1.top
    obtain ⟨_, ys, e1, hy, ly⟩ := r.lst_at
    cases e1
    obtain ⟨B, O, r⟩ := s1.pop.top
    obtain ⟨_, xs, e1, hx, lx⟩ := r.lst_at
    cases e1
    exact ⟨xs, ys, hx, hy, lx, ly⟩
  refine ⟨_, _, by rw [e]; exact walkZ, fun σ τ hv hp H l s => ?_, fun i H v H' σ τ hv hp q l hq s y => ?_⟩
  · obtain ⟨xs, ys, hx, hy, lx, ly⟩ := rel l s
    exact ⟨xs, ys, SqL.of hx, SqL.of hy, lx, ly⟩
  · obtain ⟨T, x, z, rfl, nT, rfl, y1, y2⟩ := y
    obtain ⟨xs, ys, hx, hy, lx, ly⟩ := rel l s
    unfold pairs at hq
    rw [List.getElem?_map] at hq
    obtain ⟨w, hw, rfl⟩ := Option.map_eq_some_iff.mp hq
    obtain ⟨h1, h2⟩ := List.getElem?_zip_eq_some.mp hw
    have s1 : Stt c σ τ (hv ++ ([.ref a, .ref b] ++ [x, z])) (hp ++ ([fz (.lst o ps), fz (.lst o' qs)] ++ [w.1, w.2])) H := by
      refine s.part l fun B O r => ?_
      cases r with
      | cons r1 r2 =>
        have r2 := r2.one'
        cases r1 with
        | lstF na ha ra =>
          cases r2 with
          | lstF nb hb rb =>
            rw [hx] at ha; cases ha
            rw [hy] at hb; cases hb
            obtain ⟨u1, hu1, q1⟩ := ra.get h1
            obtain ⟨u2, hu2, q2⟩ := rb.get h2
            rw [y1 xs (SqL.of hx)] at hu1
            cases hu1
            rw [y2 ys (SqL.of hy)] at hu2
            cases hu2
            exact ⟨[], _, .refl _, .cons (O := []) (O' := []) (.lstF na hx ra) (.cons (O := []) (O' := []) (.lstF nb hy rb) (.cons (O := []) (O' := []) q1 (.one q2)))⟩
    have s2 : Stt c σ τ (hv ++ [.ref a, .ref b] ++ [x] ++ [z]) (hp ++ [fz (.lst o ps), fz (.lst o' qs)] ++ [w.1] ++ [w.2]) H := by simpa using s1
    exact s2.pair (by simp [l]) nT
theorem mi_zip {t : TA} {f : En → Rs (List PV × En)} (h : MA c t f) : MI c (iZip c.K t) (izip f) := fun σ τ hv hp H R s k => h σ τ hv hp H _ s (aft_mono (aft_bnd k) fun a k vs H1 s1 => by
  split at k
  · rename_i o ps o' qs e
    rw [e] at s1
    have l2 := Stt.lenL s.len s1 (H' := H1)
    match vs, l2 with
    | [x, y], _ =>
      have s2 : Stt c σ a.2 (hv ++ [x] ++ [y]) (hp ++ [.lst o ps] ++ [.lst o' qs]) H1 := by simpa using s1
      obtain ⟨B, O, r⟩ := s2.top
      obtain ⟨b, ys, rfl, hy, _⟩ := r.lst_at
      obtain ⟨B, O, r⟩ := s2.pop.top
      obtain ⟨ad, xs, rfl, hx, _⟩ := r.lst_at
      refine ⟨ad, b, xs, ys, rfl, SqL.of hx, SqL.of hy, k _ [.ref ad, .ref b] [fz (.lst o ps), fz (.lst o' qs)] _ ?_ wlk_zip⟩
      simpa using s2.froze.swap.froze.swap
  · exact k.elim)
end
end FL

namespace FL
open PySem PySem.Spec PyProof.Rows L2
open HK (Keep Same.new)
theorem KA.same {H H' : Hp} {b : Addr} {k : NestedKey} (e : KA H b k) (s : Same H H') : KA H' b k := ⟨e.1.up (fun a xs h => s _ _ h), e.2⟩
def flat (kvs : KEs) : List (NestedKey × V) := kvs.map fun p => (p.1, p.2.2)
def putC (kvs : KEs) (c : NestedKey) (b : Addr) (y : V) : KEs := if (valV (flat kvs) c).isSome then kvs.map (fun p => if p.1 = c then (p.1, p.2.1, y) else p) else kvs ++ [(c, b, y)]
theorem flat_put (kvs : KEs) (c : NestedKey) (b : Addr) (y : V) : flat (putC kvs c b y) = putK (flat kvs) c y := by
  unfold putC putK
  rw [valV_any]
  by_cases e : (valV (flat kvs) c).isSome = true
  · rw [if_pos e, if_pos e]
    unfold flat
    rw [List.map_map, List.map_map]
    refine List.map_congr_left fun p _ => ?_
    show ((if p.1 = c then (p.1, p.2.1, y) else p).1, (if p.1 = c then (p.1, p.2.1, y) else p).2.2) = if p.1 = c then (p.1, y) else (p.1, p.2.2)
    split <;> rfl
  · rw [if_neg e, if_neg e]
    unfold flat
    rw [List.map_append]
    rfl
theorem KT.val {kvs : KEs} {xs : List (NestedKey × Addr × Value)} (r : KT kvs xs) (c : NestedKey) : RelO (valV (flat kvs) c) ((atKey xs c).map (·.2)) := by
  induction r with
  | nil => exact True.intro
  | @cons p q ps qs h t ih =>
    obtain ⟨h1, _, h2⟩ := h
    show RelO (valV ((p.1, p.2.2) :: flat ps) c) _
    by_cases e : p.1 = c
    · have e' : q.1 = c := by rw [h1, e]
      have b : atKey (q :: qs) c = some q.2 := by simp [atKey, List.find?_cons, e']
      rw [valV_pos (p := (p.1, p.2.2)) e, b]; exact h2
    · have e' : ¬ q.1 = c := fun z => e (h1.symm.trans z)
      have b : atKey (q :: qs) c = atKey qs c := by simp [atKey, List.find?_cons, e']
      rw [valV_neg (p := (p.1, p.2.2)) e, b]; exact ih
theorem KT.put {kvs : KEs} {xs : List (NestedKey × Addr × Value)} (r : KT kvs xs) (c : NestedKey) {b : Addr} {y : V} {u : Value} (ry : RelV y u) : KT (putC kvs c b y) (storedH xs c b u) := by
  have e : (valV (flat kvs) c).isSome = (atKey xs c).isSome := by rw [(r.val c).isSome_eq, Option.isSome_map]
  unfold putC storedH
  rw [e]
  by_cases q : (atKey xs c).isSome = true
  · rw [if_pos q, if_pos q]
    clear q e
    induction r with
    | nil => exact .nil
    | @cons p q ps qs h t ih =>
      rw [List.map_cons, List.map_cons]
      refine .cons ?_ ih
      obtain ⟨h1, h2, h3⟩ := h
      unfold putAt
      by_cases e : p.1 = c
      · rw [if_pos e, if_pos (show q.1 = c by rw [h1, e])]; exact ⟨h1, h2, ry⟩
      · rw [if_neg e, if_neg (fun z => e (h1.symm.trans z))]; exact ⟨h1, h2, h3⟩
  · rw [if_neg q, if_neg q]; exact Paired.snoc r ⟨rfl, rfl, ry⟩
theorem putC_len (kvs : KEs) (c : NestedKey) (b : Addr) (y : V) : (putC kvs c b y).length ≤ kvs.length + 1 := by
  unfold putC
  split
  · rw [List.length_map]; omega
  · rw [List.length_append]; exact Nat.le_refl _
theorem keyP_stay {P : Program} {w : World} {a : Addr} {kvs : KEs} (h1 h2 : Heap) (x : keyP P w a kvs h1) (k : ∀ o, h1.get? a = some o → h2.get? a = some o) : keyP P w a kvs h2 := by
  obtain ⟨z, y, xs, r, o, es, ep, e, c⟩ := x
  exact ⟨z, y, xs, r, o, es, ep, k _ e, c⟩
/-- the dict at a holds kvs, and its keys' tuples stand -/
structure KD (P : Program) (w : World) (H : Hp) (a : Addr) (kvs : KEs) : Prop where
  at' : Rd H a (keyD P w a kvs)
  keys : ∀ p ∈ kvs, KA H p.2.1 p.1
/-- .. and it may be changed -/
structure KW (P : Program) (w : World) (H : Hp) (a : Addr) (kvs : KEs) : Prop where
  at' : H a = some (keyD P w a kvs)
  keys : ∀ p ∈ kvs, KA H p.2.1 p.1
theorem KW.kd {P : Program} {w : World} {H : Hp} {a : Addr} {kvs : KEs} (d : KW P w H a kvs) : KD P w H a kvs := ⟨.inl d.at', d.keys⟩
theorem rd_same {H H' : Hp} {a : Addr} {u : HO} (h : Rd H a u) (s : Same H H') : Rd H' a u := h.imp (fun h => s _ _ h) fun ⟨o, h⟩ => ⟨o, s _ _ h⟩
theorem KD.same {P : Program} {w : World} {H H' : Hp} {a : Addr} {kvs : KEs} (d : KD P w H a kvs) (s : Same H H') : KD P w H' a kvs := ⟨rd_same d.at' s, fun p hp => (d.keys p hp).same s⟩
theorem cart_ne_tup {P : Program} {w : World} {a : Addr} {kvs : KEs} {xs : List V} : keyD P w a kvs ≠ .tup xs := fun z => by
  unfold keyD at z
  cases z
theorem cd_of {P : Program} {w : World} {H : Hp} {h : Heap} {a : Addr} {kvs : KEs} (ok : HOk P w H h) (d : KD P w H a kvs) : kvs.length ≤ sizeLine ∧ (a == sysModules) = false ∧ ∃ xs, KT kvs xs ∧ h.DictOfH (nestedKind P w) a xs := by
  obtain ⟨⟨z, y, xs, r, o, es, ep, h1, h2, h3, h4, h5⟩, _⟩ := (show ObjOk P w H h a (keyD P w a kvs) from d.at'.ok ok)
  refine ⟨z, y, xs, r, o, es, ep, h1, h2, h3, h4, ?_, h5⟩
  have all : ∀ {l : KEs} {m : List (NestedKey × Addr × Value)}, KT l m → (∀ p ∈ l, KA H p.2.1 p.1) → ∀ x ∈ m, (nestedKind P w).is h x.1 x.2.1 := by
    intro l m q
    induction q with
    | nil => intro _ x hx; exact nomatch hx
    | @cons p q ps qs hq t ih =>
      intro hk x hx
      rcases List.mem_cons.mp hx with e | hx
      · subst e
        rw [hq.1, hq.2.1]
        exact KA.is ok (hk p List.mem_cons_self)
      · exact ih (fun p hp => hk p (List.mem_cons_of_mem _ hp)) x hx
  exact all r d.keys
section
variable {X : Cx} {pins : List (Addr × Obj)} {σ : L2.St} {H : Hp} {s : Shared} {a b : Addr} {c : NestedKey} {kvs : KEs}
theorem cd_typeIs (I : Inv X pins σ H s) (d : KD X.prog X.w H a kvs) : s.TypeIs (.ref a) "dict" ∧ (∀ b, Value.ref a = .ref b → ∃ ob, s.heap.get? b = some ob ∧ ob.dict = none) ∧ (a == sysModules) = false := by
  obtain ⟨z, hd, xs, rel, dd⟩ := cd_of I.hok d
  refine ⟨dd.typeIs, fun b q => ?_, hd⟩
  cases q
  obtain ⟨ob, _, _, h1, h2, _⟩ := dd
  exact ⟨ob, h1, h2.2.1⟩
/-- d[cart] = v -/
theorem c_setItem {y : V} {u : Value} {Q : Unit → Shared → Prop} {E : Value → Shared → Prop} {A : Around} (hu : A.units + 64 < cLine) (I : Inv X pins σ H s) (d : KW X.prog X.w H a kvs) (eb : KA H b c) (hl : kvs.length < sizeLine) (ry : RelV y u)
    (h : ∀ s', Inv X pins σ (upd H a (keyD X.prog X.w a (putC kvs c b y))) s' → Q () s') : wpAny (model X.prog X.w) A (setItem (.ref a) (.ref b) u) Q E s := by
  obtain ⟨z, hd, xs, rel, dd⟩ := cd_of I.hok d.kd
  have hz : xs.length ≤ sizeLine := by rw [← Paired.length rel]; exact z
  refine wpAny_setItem_heap (hsz := hz) (knd := nestedKind X.prog X.w) (show A.in1.units + 8 < cLine by show A.units + 1 + 8 < cLine; omega) (KA.is I.hok eb) dd fun h' dd' hs => h _ ?_
  obtain ⟨q, es, ep, hq, h2, h3, h4, _, h5⟩ := dd'
  have hl' := putC_len kvs c b y
  refine d_write I (by rw [d.at']; exact True.intro) hs ⟨q, hq⟩ ⟨⟨by omega, hd, _, rel.put c ry, q, es, ep, hq, h2, h3, h4, h5⟩, ⟨q, hq⟩, keyP_stay⟩
theorem set_cart (hu : X.A.units + 64 < cLine) : PSet X (fun o i v H Q => ∃ (a b : Addr) (c : NestedKey) (kvs : KEs), o = .ref a ∧ i = .ref b ∧ KW X.prog X.w H a kvs ∧ KA H b c ∧ kvs.length < sizeLine ∧ Q (upd H a (keyD X.prog X.w a (putC kvs c b v)))) := by
  intro pins s σ H o i v ov iv u Q I ro ri rv h
  obtain ⟨a, b, c, kvs, rfl, rfl, d, eb, hl, q⟩ := h
  cases ro
  cases ri
  exact c_setItem hu I d eb hl rv fun s' I' => ⟨_, I', q⟩
/-- d[cart], there -/
def tCGet (P : Program) (w : World) (td ty : TE) : TE := fun σ H Q => td σ H fun x H1 => ty σ H1 fun y H2 => ∃ (a b : Addr) (c : NestedKey) (kvs : KEs) (v : V), x = .ref a ∧ y = .ref b ∧ KD P w H2 a kvs ∧ KA H2 b c ∧ valV (flat kvs) c = some v ∧ Q v H2
theorem pe_cget {o i : Expr} {td ty : TE} {pos : Pos} (hu : X.A.units + 64 < cLine) (ho : PE X o td) (hi : PE X i ty) (hs : NoSl i) : PE X (.Subscript o i pos) (tCGet X.prog X.w td ty) := by
  refine ⟨fun pins s σ H Q I h => ?_⟩
  refine subD_of PySem.F.slot_dict_getitem.lookup hs (thn (ho.run pins s σ H _ I h) fun u s1 ⟨x, H1, I1, rx, q1⟩ => thn (hi.run pins s1 σ H1 _ I1 q1) fun iv s2 ⟨y, H2, I2, ry, a, b, c, kvs, v, ex, ey, d, eb, l, q2⟩ => ?_)
  subst ex ey
  obtain rfl : u = Value.ref a := rx
  obtain rfl : iv = Value.ref b := ry
  obtain ⟨z, hd, xs, rel, dd⟩ := cd_of I2.hok d
  refine ⟨dd.typeIs, ?_⟩
  obtain ⟨w', hw, rw'⟩ := RelO.some_of (v := v) (o := (atKey xs c).map (·.2)) (by rw [← l]; exact rel.val c)
  obtain ⟨p, hp, hp2⟩ := Option.map_eq_some_iff.mp hw
  refine wpAny_getItem_heap (knd := nestedKind X.prog X.w) (show X.A.in1.units + 8 < cLine by show X.A.units + 1 + 8 < cLine; omega) (KA.is I2.hok eb) dd hp ?_
  rw [hp2]
  exact ⟨v, H2, I2.tok _, rw', q2⟩
/-- d.get(cart, x) -/
def tCGet2 (P : Program) (w : World) (td ty tx : TE) : TE := fun σ H Q => td σ H fun x H1 => ∃ (a : Addr) (kv0 : KEs), x = .ref a ∧ KD P w H1 a kv0 ∧ ty σ H1 fun y H2 => tx σ H2 fun z H3 => ∃ (b : Addr) (c : NestedKey) (kvs : KEs), y = .ref b ∧ KD P w H3 a kvs ∧ KA H3 b c ∧ Q ((valV (flat kvs) c).getD z) H3
theorem pe_cget2 {o e f : Expr} {apos cpos : Pos} {td ty tx : TE} (hu : X.A.units + 64 < cLine) (ho : PE X o td) (he : PE X e ty) (hf : PE X f tx) (m : M2 X o "get" apos e f cpos) : PE X (.Call (.Attribute o "get" apos) [e, f] [] cpos) (tCGet2 X.prog X.w td ty tx) := by
  refine ⟨fun pins s σ H Q I h => ?_⟩
  refine wpAny_Call_method m.base m.few m.line PySem.F.plainAttrs_dict PySem.F.slot_dict_get PySem.F.type_dict_get (thn (ho.run pins s σ H _ I h) fun u s1 ⟨x, H1, I1, rx, a, kv0, ex, d0, q1⟩ => ?_)
  subst ex
  obtain rfl : u = Value.ref a := rx
  obtain ⟨t1, t2, _⟩ := cd_typeIs I1 d0
  refine ⟨t1, t2, ?_⟩
  rw [m.trees]
  refine Calls.callWith_builtin rfl (Calls.evalArgs_plain (Calls.spliced_cons (thn (he.run pins s1 σ H1 _ I1 q1) fun iv s2 ⟨y, H2, I2, ry, q2⟩ =>
    Calls.spliced_cons (thn (hf.run pins s2 σ H2 _ I2 q2) fun fv s3 ⟨z, H3, I3, rz, b, c, kvs, ey, d, eb, q3⟩ => Calls.spliced_nil ?_))))
  subst ey
  obtain rfl : iv = Value.ref b := ry
  obtain ⟨zl, hd, xs, rel, dd⟩ := cd_of I3.hok d
  refine getOr_keyed (knd := nestedKind X.prog X.w) (kvs := pairsH xs) (show X.A.in1.units + 8 < cLine by show X.A.units + 1 + 8 < cLine; omega) (KA.is I3.hok eb) hd ⟨xs, dd, rfl⟩ ?_
  rw [valueAt_pairsH]
  exact ⟨_, H3, I3.tok _, (rel.val c).getD rz, q3⟩
/-- cart in d, cart not in d -/
theorem op_in_cart (hu : X.A.units + 64 < cLine) : OpR X (compareOp .In) (fun x y H Q => ∃ (a b : Addr) (c : NestedKey) (kvs : KEs), x = .ref b ∧ y = .ref a ∧ KD X.prog X.w H a kvs ∧ KA H b c ∧ Q (.bl (valV (flat kvs) c).isSome) H) := by
  intro pins s σ H x y v u Q I rx ry h
  obtain ⟨a, b, c, kvs, rfl, rfl, d, eb, q⟩ := h
  cases rx
  cases ry
  obtain ⟨zl, hd, xs, rel, dd⟩ := cd_of I.hok d
  refine in_keyed (knd := nestedKind X.prog X.w) (kvs := pairsH xs) (show X.A.in1.units + 8 < cLine by show X.A.units + 1 + 8 < cLine; omega) (KA.is I.hok eb) hd ⟨xs, dd, rfl⟩ ?_
  rw [valueAt_pairsH, ← (rel.val c).isSome_eq]
  exact ⟨.bl _, H, I.tok _, rfl, q⟩
theorem op_notIn_cart (hu : X.A.units + 64 < cLine) : OpR X (compareOp .NotIn) (fun x y H Q => ∃ (a b : Addr) (c : NestedKey) (kvs : KEs), x = .ref b ∧ y = .ref a ∧ KD X.prog X.w H a kvs ∧ KA H b c ∧ Q (.bl (!(valV (flat kvs) c).isSome)) H) := by
  intro pins s σ H x y v u Q I rx ry h
  obtain ⟨a, b, c, kvs, rfl, rfl, d, eb, q⟩ := h
  cases rx
  cases ry
  obtain ⟨zl, hd, xs, rel, dd⟩ := cd_of I.hok d
  refine notIn_keyed (knd := nestedKind X.prog X.w) (kvs := pairsH xs) (show X.A.in1.units + 8 < cLine by show X.A.units + 1 + 8 < cLine; omega) (KA.is I.hok eb) hd ⟨xs, dd, rfl⟩ ?_
  rw [valueAt_pairsH, ← (rel.val c).isSome_eq]
  exact ⟨.bl _, H, I.tok _, rfl, q⟩
/-- {} whose keys will be carts -/
def tCNew (P : Program) (w : World) : TE := fun _ H Q => ∀ p, H p = none → Q (.ref p) (upd H p (keyD P w p []))
theorem cart_empty {P : Program} {w : World} {H : Hp} (h : Heap) (hb : sysModules < h.objs.size) : ObjOk P w H (h.push { cls := .type "dict", data := .dict #[] }) h.objs.size (keyD P w h.objs.size []) :=
  ⟨⟨Nat.zero_le _, beq_eq_false_iff_ne.mpr (Ne.symm (Nat.ne_of_lt hb)), [], .nil, _, #[], 0, Heap.get?_push_size _ rfl, ⟨rfl, rfl, rfl⟩, rfl, rfl, List.nodup_nil⟩, ⟨_, Heap.get?_push_size _ rfl⟩, keyP_stay⟩
theorem pe_cnew {pos : Pos} : PE X (.Dict [] [] pos) (tCNew X.prog X.w) := ⟨fun pins s σ H Q I h =>
  wpAny_Dict_empty ⟨.ref s.heap.objs.size, _, I.laid (a := s.heap.objs.size) (o := keyD X.prog X.w s.heap.objs.size []) (t' := s.toks) (fun _ _ q => Heap.get?_push_of_some _ q) (Nat.le_refl _) (cart_empty s.heap I.big), rfl, h _ (I.hok.fresh (Nat.le_refl _))⟩⟩
/-- len(d) -/
theorem call_len_cart : CallR X (.builtin "len") (fun xs H Q => ∃ (a : Addr) (kvs : KEs), xs = [.ref a] ∧ KD X.prog X.w H a kvs ∧ Q (.int ((kvs.length : Nat) : Int)) H) := by
  intro pins s σ H xs us Q I r h
  obtain ⟨a, kvs, rfl, d, q⟩ := h
  obtain ⟨u, rfl, ru⟩ := vals1 r
  cases (show u = Value.ref a from ru)
  obtain ⟨z, hd, xs, rel, dd⟩ := cd_of I.hok d
  have e : kvs.length = xs.length := Paired.length rel
  have big := sizeLine_eq
  refine call_len_dictH hd dd (by omega) ?_
  exact ⟨.int _, H, I.tok _, ⟨s.toks + 1, by rw [e]⟩, q⟩
end
end FL

namespace FL
open PySem PySem.Spec PyProof.Rows L2
open HK (Keep Same.new)
/-! ### {cart: v for ..} -/
section
variable {X : Cx} {pins : List (Addr × Obj)} {σ : L2.St} {H : Hp} {s : Shared} {a b : Addr} {c : NestedKey} {kvs : KEs}
theorem c_dictSet {y : V} {u : Value} {Q : Unit → Shared → Prop} {E : Value → Shared → Prop} (hu : X.A.units + 64 < cLine) (I : Inv X pins σ H s) (d : KW X.prog X.w H a kvs) (eb : KA H b c) (hl : kvs.length < sizeLine) (ry : RelV y u)
    (h : ∀ s', Inv X pins σ (upd H a (keyD X.prog X.w a (putC kvs c b y))) s' → Q () s') : wpAny (model X.prog X.w) X.A (dictSet a (.ref b) u) Q E s := by
  obtain ⟨z, hd, xs, rel, dd⟩ := cd_of I.hok d.kd
  have hz : xs.length ≤ sizeLine := by rw [← Paired.length rel]; exact z
  refine wpAny_dictSet_heap (hsz := hz) (knd := nestedKind X.prog X.w) (show X.A.units + 8 < cLine by omega) (KA.is I.hok eb) dd fun h' dd' hs => h _ ?_
  obtain ⟨q, es, ep, hq, h2, h3, h4, _, h5⟩ := dd'
  have hl' := putC_len kvs c b y
  exact d_write I (by rw [d.at']; exact True.intro) hs ⟨q, hq⟩ ⟨⟨by omega, hd, _, rel.put c ry, q, es, ep, hq, h2, h3, h4, h5⟩, ⟨q, hq⟩, keyP_stay⟩
/-- {cart: v for target in iter if ..}: D the new dict -/
def tDcC (P : Program) (w : World) (wi : TI) (g : TG) (tt : TT) (tk tv : TE) (vs : List Nat) : TE := fun σ H Q => wi σ H fun J H1 => ∀ D, H1 D = none → ∃ W : Nat → Nat → Hp → Prop, (∃ m, W 0 m (upd H1 D (keyD P w D []))) ∧ ∀ i m H, W i m H →
  (J.stop i H ∧ Q (.ref D) H) ∨ (J.go i H ∧ ∃ Nx : Hp → Prop, (∀ H', Nx H' → ∃ m', m' < m ∧ W (i + 1) m' H') ∧ ∀ x H', J.yld i H x H' → g x (wipe σ vs) H' fun σ2 H2 => wipe σ2 vs = wipe σ vs ∧ tt σ2 H2 fun yes H3 =>
    if yes = true then tk σ2 H3 fun y H4 => tv σ2 H4 fun z H5 => ∃ (kvs : KEs) (c : NestedKey) (b : Addr), y = .ref b ∧ KW P w H5 D kvs ∧ KA H5 b c ∧ kvs.length < sizeLine ∧ Nx (upd H5 D (keyD P w D (putC kvs c b z))) else Nx H3)
theorem pe_dcC {kx vx tg iter : Expr} {ifs : List Expr} {scope : Scope} {own : List (Str × Nat)} {pos : Pos} {wi : TI} {g : TG} {tt : TT} {tk tv : TE} (hu : X.A.units + 64 < cLine) (hc : X.calm = true) (hN : X.N.Nodup) (hi : PI X tg iter wi) (ok : BlkOk X.N X.env.scope scope own)
    (hg : ∀ s H C cl fp, PG (X.blk s H scope (compEnvC scope cl C X.env) fp) tg g) (ht : ∀ s H C cl fp, PTs (X.blk s H scope (compEnvC scope cl C X.env) fp) ifs tt)
    (hk : ∀ s H C cl fp, PE (X.blk s H scope (compEnvC scope cl C X.env) fp) kx tk) (he : ∀ s H C cl fp, PE (X.blk s H scope (compEnvC scope cl C X.env) fp) vx tv) (hs : ∀ x, foldedSetIterable iter X.env x = pure x := by intro _; rfl) :
    PE X (.DictComp kx vx [⟨tg, iter, ifs, 0⟩] scope pos) (tDcC X.prog X.w wi g tt tk tv (own.map (·.2))) := by
  refine ⟨fun pins s σ H Q I h => ?_⟩
  rw [arm_eval_DictComp]
  have closed : ∀ y ∈ scope.names, y.2 = .free → ∃ c, X.env.cells.lookup y.1 = some c := fun y hy e => (ok.free y hy e).elim (fun k => I.ok.has _ (.inl k)) fun k => I.ok.has _ (.inr k)
  refine wpAny_comprehension_free (use := none) rfl hs (closure_ok closed) ok.kind (fun y hy e => by rw [ok.uniq y hy, e]) (thn (hi.run pins s σ H _ I h) fun _ sA hA => thn hA fun _ sB hB => ?_)
  obtain ⟨it, fp, tn, J, HB, rfl, IB, T, stB, frB, walk⟩ := hB
  refine wpAny_newObj_type (newEnv_comp ?_)
  generalize eD : sB.heap.objs.size = D
  obtain ⟨W, ⟨m0, w0⟩, turn⟩ := walk D (IB.hok.fresh (Nat.le_of_eq eD))
  generalize eC : ({ sB with heap := sB.heap.push { cls := .type "dict", data := .dict #[] } } : Shared) = sC
  have hC : sC.heap = sB.heap.push { cls := .type "dict", data := .dict #[] } := by rw [← eC]
  have IC : Inv X pins σ (upd HB D (keyD X.prog X.w D [])) sC := by
    subst eC eD
    exact IB.laid (t' := sB.toks) (fun _ _ e => Heap.get?_push_of_some _ e) (Nat.le_refl _) (cart_empty sB.heap IB.big)
  have below : ∀ p ∈ fp, p < sB.heap.objs.size := fun p hp => let ⟨_, e, _⟩ := T.obj _ _ stB p hp; Heap.lt_size e
  have frC : ∀ p ∈ fp, FpOk X pins (upd HB D (keyD X.prog X.w D [])) p ∧ p < sC.heap.objs.size := fun p hp =>
    ⟨⟨by rw [upd_ne (by rw [← eD]; exact Nat.ne_of_lt (below p hp))]; exact (frB p hp).1, (frB p hp).2⟩, by rw [hC, Heap.size_push]; exact Nat.lt_succ_of_lt (below p hp)⟩
  have stC : tn 0 sC.heap := T.keep _ _ _ stB fun p _ o e => by rw [hC]; exact Heap.get?_push_of_some _ e
  have I0 := block_start IC ok hN frC
  have nC : ∀ p ∈ fp, (upd HB D (keyD X.prog X.w D [])) p = none := fun p hp => (frC p hp).1.1
  generalize eH : upd HB D (keyD X.prog X.w D []) = HC at IC I0 frC nC w0
  obtain ⟨cl, ecl⟩ : ∃ cl, cellsFrom (sC.heap.objs.size + 1) scope.names (cloFrom X.env.cells scope.names []) = cl := ⟨_, rfl⟩
  rw [ecl] at I0 ⊢
  have pg := hg sC HC sC.heap.objs.size cl fp
  have pt := ht sC HC sC.heap.objs.size cl fp
  have pk := hk sC HC sC.heap.objs.size cl fp
  have pe := he sC HC sC.heap.objs.size cl fp
  obtain ⟨ce, ece⟩ : ∃ ce, compEnvC scope cl sC.heap.objs.size X.env = ce := ⟨_, rfl⟩
  have loc : ce.locals = sC.heap.objs.size := by rw [← ece]; rfl
  rw [ece] at I0 pg pt pk pe
  show codeAny _ _ (.compStart (.DictComp kx vx [⟨tg, iter, ifs, 0⟩] scope pos) 0 (.ref it) (.ref D) (compEnvC scope cl sC.heap.objs.size X.env)) (compPost (model X.prog X.w) X.A X.xe none (EP X pins σ Q) (.ref D) sC.heap.objs.size) { sC with heap := pushCells (sC.heap.push { cls := .type "dict", data := .dict #[] }) scope.names }
  rw [ece]
  generalize e4 : ({ sC with heap := pushCells (sC.heap.push { cls := .type "dict", data := .dict #[] }) scope.names } : Shared) = s4 at I0 ⊢
  have st4 : tn 0 s4.heap := T.keep _ _ _ stC fun p _ o e => by rw [← e4]; exact pushCells_keeps _ _ _ _ (Heap.get?_push_of_some _ e)
  -- what stays of the walk's own things through the block
  have stay : ∀ {τ : L2.St} {G : Hp} {r : Shared}, Inv (X.blk sC HC scope ce fp) [] τ G r → (∀ p ∈ fp, G p = none) → ∀ p ∈ fp, FpOk (X.blk sC HC scope ce fp) [] G p := fun J' hn p hp =>
    ⟨hn p hp, (J'.ok.exf p hp).1, J'.ok.exfs p hp, .inl hp, fun x c e => (J'.ok.exf p hp).2 x c e, fun q hq => absurd (show q ∈ ([] : List (Addr × Obj)) ++ [] from hq) (by simp)⟩
  have go : codeAny (model X.prog X.w) X.A (.compLoop (.DictComp kx vx [⟨tg, iter, ifs, 0⟩] scope pos) 0 (.ref it) (.ref D) ce) (compPost (model X.prog X.w) X.A X.xe none (EP X pins σ Q) (.ref D) sC.heap.objs.size) s4 := by
    refine compLoop_anyD (fun n r => ∃ i G, Inv (X.blk sC HC scope ce fp) [] (wipe σ (own.map (·.2))) G r ∧ tn i r.heap ∧ (∀ p ∈ fp, G p = none) ∧ W i n G) ?_ m0 ⟨0, HC, I0, st4, nC, w0⟩
    rintro n r5 ⟨i, G5, J5, t5, n5, w5⟩
    rcases turn i n G5 w5 with ⟨ends, done⟩ | ⟨more, Nx, less, step⟩
    · refine thnF (T.done (X.blk sC HC scope ce fp) rfl rfl rfl hc i [] r5 _ G5 (fun _ _ => False) J5 (stay J5 n5) t5 ends) fun r r6 ⟨er, J6⟩ => ?_
      subst er
      have back : Inv X pins σ G5 r6 := IC.call' (ch := fp) J6.os J6.base J6.hok J6.bare fun p hp => ⟨(frC p hp).1.2.2.2.1, (frC p hp).1.2.1, (frC p hp).1.2.2.2.2.1, (frC p hp).1.2.2.2.2.2⟩
      have freeC : G5 sC.heap.objs.size = none := by have z : G5 ce.locals = none := J6.free; rw [loc] at z; exact z
      obtain ⟨m, hm, _⟩ := J6.loc
      have hm' : r6.heap.Ns ce.locals m := hm
      rw [loc] at hm'
      obtain ⟨f0, f1, f2, f3, f4, f5⟩ := IC.fpOk (Nat.le_refl _) freeC
      exact ⟨m, hm', fun h'' sb => ⟨.ref D, G5, back.turned (t' := r6.toks) (fun p o hp e => (sb.2 p hp).trans e) f0 f1 f3 f4 f5, rfl, done⟩⟩
    · refine thnF (T.item (X.blk sC HC scope ce fp) rfl rfl rfl hc i [] r5 _ G5 (fun _ _ => False) J5 (stay J5 n5) t5 more) fun r r6 ⟨u, er, k6⟩ => ?_
      subst er
      refine thnF k6 fun _ r7 ⟨x, G7, J7, rx, y7, t7, n7⟩ => ?_
      refine thnF (pg.run _ r7 _ G7 x u _ (J7.pinned (stay J7 n7) (T.obj _ _ t7)) rx (step x G7 y7)) fun _ r8 ⟨τ, G8, J8, eτ, k8⟩ => thnF (pt.run _ r8 τ G8 _ J8 k8) fun yes r9 ⟨G9, J9, k9⟩ => ?_
      have next : ∀ {r' : Shared} {G' : Hp}, Inv (X.blk sC HC scope ce fp) ([] ++ pinsAt fp r7.heap) τ G' r' → Nx G' → ∃ m, m < n ∧ ∃ i G, Inv (X.blk sC HC scope ce fp) [] (wipe σ (own.map (·.2))) G r' ∧ tn i r'.heap ∧ (∀ p ∈ fp, G p = none) ∧ W i m G := fun {r' G'} J' nx => by
        obtain ⟨m', lt, w'⟩ := less G' nx
        have pinned : ∀ p ∈ fp, ∀ o, r7.heap.get? p = some o → r'.heap.get? p = some o ∧ G' p = none := fun p hp o e => let z := J'.pin (p, o) (List.mem_append_right _ (List.mem_append_right _ (mem_pinsAt hp e))); ⟨z.1, z.2.1⟩
        refine ⟨m', lt, i + 1, G', (J'.unpinned (pins := [])).weak (by rw [← eτ, wipe_length]) (fun j v e => by rw [← eτ] at e; exact (wipe_some e).1), T.keep _ _ _ t7 fun p hp o e => (pinned p hp o e).1, fun p hp => ?_, w'⟩
        obtain ⟨o, e, _⟩ := T.obj _ _ t7 p hp
        exact (pinned p hp o e).2
      cases yes with
      | false => simp only [Bool.false_eq_true, if_false] at k9 ⊢; exact next J9 k9
      | true =>
        simp only [if_true] at k9 ⊢
        refine thnF (pk.run _ r9 τ G9 _ J9 k9) fun _ rA ⟨_, GA, JA, rk, kA⟩ => thnF (pe.run _ rA τ GA _ JA kA) fun _ rB ⟨_, GB, JB, rv, kvs, c, b, ek, dB, eb, hl, nx⟩ => ?_
        subst ek
        cases rk
        exact c_dictSet (X := X.blk sC HC scope ce fp) hu JB dB eb hl rv fun rC JC => next JC nx
  exact codeAny_compStart_dict go (T.self X.A 0 _ _ _ st4 go)
end

theorem valV_mem {kvs : KEs} {p : NestedKey × Addr × V} (h : p ∈ kvs) : (valV (flat kvs) p.1).isSome = true := by
  rw [← valV_any]
  exact List.any_eq_true.mpr ⟨(p.1, p.2.2), List.mem_map.mpr ⟨p, h, rfl⟩, by simp⟩
theorem valV_none {l : List (NestedKey × V)} {c : NestedKey} (h : c ∉ l.map (·.1)) : valV l c = none := by
  cases e : valV l c with
  | none => rfl
  | some v =>
    have z : (valV l c).isSome = true := by rw [e]; rfl
    rw [← valV_any] at z
    obtain ⟨p, hp, hc⟩ := List.any_eq_true.mp z
    exact absurd (List.mem_map.mpr ⟨p, hp, of_decide_eq_true hc⟩) h
theorem flat_keys (kvs : KEs) : (flat kvs).map (·.1) = kvs.map (·.1) := by
  unfold flat
  rw [List.map_map]
  rfl
theorem putC_keys {kvs : KEs} {c : NestedKey} {b : Addr} {y : V} (nd : (kvs.map (·.1)).Nodup) : ((putC kvs c b y).map (·.1)).Nodup ∧ ∀ d, d ∈ (putC kvs c b y).map (·.1) ↔ d ∈ kvs.map (·.1) ∨ d = c := by
  unfold putC
  by_cases e : (valV (flat kvs) c).isSome = true
  · rw [if_pos e]
    have k : (kvs.map fun p => if p.1 = c then (p.1, p.2.1, y) else p).map (·.1) = kvs.map (·.1) := by
      rw [List.map_map]
      refine List.map_congr_left fun p _ => ?_
      show (if p.1 = c then (p.1, p.2.1, y) else p).1 = p.1
      split <;> rfl
    rw [k]
    refine ⟨nd, fun d => ⟨.inl, fun h => h.elim id fun h => ?_⟩⟩
    subst h
    rw [← valV_any] at e
    obtain ⟨p, hp, hc⟩ := List.any_eq_true.mp e
    have := List.mem_map.mpr ⟨p, hp, of_decide_eq_true hc⟩
    rwa [flat_keys] at this
  · rw [if_neg e, List.map_append]
    have n : c ∉ kvs.map (·.1) := fun h => by
      obtain ⟨p, hp, rfl⟩ := List.mem_map.mp h
      exact e (valV_mem hp)
    refine ⟨List.nodup_append.mpr ⟨nd, by simp, fun x hx z hz => ?_⟩, fun d => by simp⟩
    rw [show z = c by simpa using hz]
    exact fun q => n (q ▸ hx)
theorem putC_told {H : Hp} {kvs : KEs} {c : NestedKey} {b : Addr} {y : V} (h : ∀ p ∈ kvs, KA H p.2.1 p.1) (hb : KA H b c) : ∀ p ∈ putC kvs c b y, KA H p.2.1 p.1 := by
  unfold putC
  intro p hp
  split at hp
  · obtain ⟨q, hq, rfl⟩ := List.mem_map.mp hp
    by_cases e : q.1 = c
    · rw [if_pos e]; exact h q hq
    · rw [if_neg e]; exact h q hq
  · rcases List.mem_append.mp hp with hp | hp
    · exact h p hp
    · rw [List.mem_singleton.mp hp]; exact hb
/-- behind a store -/
theorem KW.put {P : Program} {w : World} {H : Hp} {a b : Addr} {c : NestedKey} {kvs : KEs} {y : V} (d : KW P w H a kvs) (hb : KA H b c) : KW P w (upd H a (keyD P w a (putC kvs c b y))) a (putC kvs c b y) :=
  ⟨upd_same, fun p hp => by
    have z := putC_told d.keys hb p hp
    exact ⟨z.1.up fun q xs h => (upd_ne (ne_of h d.at' fun e => cart_ne_tup e.symm)).trans h, z.2⟩⟩
end FL

namespace HK
open PySem PySem.Spec PyProof.Rows L2
/-! ### dicts whose keys are carts: (text, text, True or False) -/
abbrev CK := Str × Str × Bool
def cvs (c : CK) : List V := [.str c.1, .str c.2.1, .bl c.2.2]
def nk (c : CK) : NestedKey := .tup [.text c.1, .text c.2.1, .num (if c.2.2 = true then 1 else 0)]
theorem nk_inj {c d : CK} (h : nk c = nk d) : c = d := by
  obtain ⟨f, k, t⟩ := c
  obtain ⟨f', k', t'⟩ := d
  unfold nk at h
  injection h with h
  injection h with h1 h
  injection h with h2 h
  injection h with h3 _
  injection h1 with h1
  injection h2 with h2
  injection h3 with h3
  simp only at h1 h2 h3
  subst h1 h2
  cases t <;> cases t' <;> first | rfl | (simp at h3)
theorem nk_is {P : Program} {w : World} {H : Hp} {h : Heap} {b : Addr} {c : CK} (ok : HOk P w H h) (e : H b = some (.tup (cvs c))) : (nestedKind P w).is h (nk c) b := by
  obtain ⟨_, its, r, o, h1, h2, n, h3⟩ := (show ObjOk P w H h b (.tup (cvs c)) from ok b _ e)
  refine ⟨.tup h1 h2 h3 ?_, by simp [nk, NestedKey.depth, NestedKey.depthAll]⟩
  obtain ⟨f, k, t⟩ := c
  cases r with
  | cons r1 r =>
    cases r with
    | cons r2 r =>
      cases r with
      | cons r3 r =>
        cases r
        obtain ⟨t1, rfl⟩ := r1
        obtain ⟨t2, rfl⟩ := r2
        cases r3
        exact .cons (.text _ _) (.cons (.text _ _) (.cons (.bool rfl) .nil))
/-- entries: key, the tuple that stands in the table, value -/
abbrev CEs := List (CK × Addr × V)
def flat (kvs : CEs) : List (CK × V) := kvs.map fun p => (p.1, p.2.2)
abbrev CT : CEs → List (NestedKey × Addr × Value) → Prop := Paired fun p q => q.1 = nk p.1 ∧ q.2.1 = p.2.1 ∧ RelV p.2.2 q.2.2
def putC (kvs : CEs) (c : CK) (b : Addr) (y : V) : CEs := if (valV (flat kvs) c).isSome then kvs.map (fun p => if p.1 = c then (p.1, p.2.1, y) else p) else kvs ++ [(c, b, y)]
theorem flat_put (kvs : CEs) (c : CK) (b : Addr) (y : V) : flat (putC kvs c b y) = putK (flat kvs) c y := by
  unfold putC putK
  rw [valV_any]
  by_cases e : (valV (flat kvs) c).isSome = true
  · rw [if_pos e, if_pos e]
    unfold flat
    rw [List.map_map, List.map_map]
    refine List.map_congr_left fun p _ => ?_
    show ((if p.1 = c then (p.1, p.2.1, y) else p).1, (if p.1 = c then (p.1, p.2.1, y) else p).2.2) = if p.1 = c then (p.1, y) else (p.1, p.2.2)
    split <;> rfl
  · rw [if_neg e, if_neg e]
    unfold flat
    rw [List.map_append]
    rfl
theorem CT.val {kvs : CEs} {xs : List (NestedKey × Addr × Value)} (r : CT kvs xs) (c : CK) : RelO (valV (flat kvs) c) ((atKey xs (nk c)).map (·.2)) := by
  induction r with
  | nil => exact True.intro
  | @cons p q ps qs h t ih =>
    obtain ⟨h1, _, h2⟩ := h
    show RelO (valV ((p.1, p.2.2) :: flat ps) c) _
    by_cases e : p.1 = c
    · have e' : q.1 = nk c := by rw [h1, e]
      have b : atKey (q :: qs) (nk c) = some q.2 := by simp [atKey, List.find?_cons, e']
      rw [valV_pos (p := (p.1, p.2.2)) e, b]; exact h2
    · have e' : ¬ q.1 = nk c := fun z => e (nk_inj (h1.symm.trans z))
      have b : atKey (q :: qs) (nk c) = atKey qs (nk c) := by simp [atKey, List.find?_cons, e']
      rw [valV_neg (p := (p.1, p.2.2)) e, b]; exact ih
theorem CT.put {kvs : CEs} {xs : List (NestedKey × Addr × Value)} (r : CT kvs xs) (c : CK) {b : Addr} {y : V} {u : Value} (ry : RelV y u) : CT (putC kvs c b y) (storedH xs (nk c) b u) := by
  have e : (valV (flat kvs) c).isSome = (atKey xs (nk c)).isSome := by rw [(r.val c).isSome_eq, Option.isSome_map]
  unfold putC storedH
  rw [e]
  by_cases q : (atKey xs (nk c)).isSome = true
  · rw [if_pos q, if_pos q]
    clear q e
    induction r with
    | nil => exact .nil
    | @cons p q ps qs h t ih =>
      rw [List.map_cons, List.map_cons]
      refine .cons ?_ ih
      obtain ⟨h1, h2, h3⟩ := h
      unfold putAt
      by_cases e : p.1 = c
      · rw [if_pos e, if_pos (show q.1 = nk c by rw [h1, e])]; exact ⟨h1, h2, ry⟩
      · rw [if_neg e, if_neg (fun z => e (nk_inj (h1.symm.trans z)))]; exact ⟨h1, h2, h3⟩
  · rw [if_neg q, if_neg q]; exact Paired.snoc r ⟨rfl, rfl, ry⟩
theorem putC_len (kvs : CEs) (c : CK) (b : Addr) (y : V) : (putC kvs c b y).length ≤ kvs.length + 1 := by
  unfold putC
  split
  · rw [List.length_map]; omega
  · rw [List.length_append]; exact Nat.le_refl _
/-- what is true of the dict's one object -/
def cartP (P : Program) (w : World) (a : Addr) (kvs : CEs) (h : Heap) : Prop := kvs.length ≤ sizeLine ∧ (a == sysModules) = false ∧ ∃ xs, CT kvs xs ∧ ∃ o es ep, h.get? a = some o ∧ o.ExactDict ∧ o.data = .dict es ep ∧ es.toList = xs.map (entryOfKey (nestedKind P w)) ∧ (xs.map (·.1)).Nodup
def cartD (P : Program) (w : World) (a : Addr) (kvs : CEs) : HO := .ext (cartP P w a kvs)
theorem cartP_stay {P : Program} {w : World} {a : Addr} {kvs : CEs} (h1 h2 : Heap) (x : cartP P w a kvs h1) (k : ∀ o, h1.get? a = some o → h2.get? a = some o) : cartP P w a kvs h2 := by
  obtain ⟨z, y, xs, r, o, es, ep, e, c⟩ := x
  exact ⟨z, y, xs, r, o, es, ep, k _ e, c⟩
/-- the dict at a holds kvs, and its keys' tuples stand -/
structure CD (P : Program) (w : World) (H : Hp) (a : Addr) (kvs : CEs) : Prop where
  at' : H a = some (cartD P w a kvs)
  keys : ∀ p ∈ kvs, H p.2.1 = some (.tup (cvs p.1))
theorem CD.same {P : Program} {w : World} {H H' : Hp} {a : Addr} {kvs : CEs} (d : CD P w H a kvs) (s : Same H H') : CD P w H' a kvs := ⟨s _ _ d.at', fun p hp => s _ _ (d.keys p hp)⟩
theorem cart_ne_tup {P : Program} {w : World} {a : Addr} {kvs : CEs} {xs : List V} : cartD P w a kvs ≠ .tup xs := fun z => by
  unfold cartD at z
  cases z
theorem CD.kept {P : Program} {w : World} {H H' : Hp} {a b : Addr} {kvs : CEs} (d : CD P w H a kvs) (n : a ≠ b) (hb : ∀ xs, H b ≠ some (.tup xs)) (k : Keep b H H') : CD P w H' a kvs :=
  ⟨k _ _ n d.at', fun p hp => k _ _ (fun e => hb _ (e ▸ d.keys p hp)) (d.keys p hp)⟩
theorem cd_of {P : Program} {w : World} {H : Hp} {h : Heap} {a : Addr} {kvs : CEs} (ok : HOk P w H h) (d : CD P w H a kvs) : kvs.length ≤ sizeLine ∧ (a == sysModules) = false ∧ ∃ xs, CT kvs xs ∧ h.DictOfH (nestedKind P w) a xs := by
  obtain ⟨⟨z, y, xs, r, o, es, ep, h1, h2, h3, h4, h5⟩, _⟩ := (show ObjOk P w H h a (cartD P w a kvs) from ok a _ d.at')
  refine ⟨z, y, xs, r, o, es, ep, h1, h2, h3, h4, ?_, h5⟩
  have all : ∀ {l : CEs} {m : List (NestedKey × Addr × Value)}, CT l m → (∀ p ∈ l, H p.2.1 = some (.tup (cvs p.1))) → ∀ x ∈ m, (nestedKind P w).is h x.1 x.2.1 := by
    intro l m q
    induction q with
    | nil => intro _ x hx; exact nomatch hx
    | @cons p q ps qs hq t ih =>
      intro hk x hx
      rcases List.mem_cons.mp hx with e | hx
      · subst e
        rw [hq.1, hq.2.1]
        exact nk_is ok (hk p List.mem_cons_self)
      · exact ih (fun p hp => hk p (List.mem_cons_of_mem _ hp)) x hx
  exact all r d.keys
section
variable {X : Cx} {pins : List (Addr × Obj)} {σ : L2.St} {H : Hp} {s : Shared} {a b : Addr} {c : CK} {kvs : CEs}
theorem cd_typeIs (I : Inv X pins σ H s) (d : CD X.prog X.w H a kvs) : s.TypeIs (.ref a) "dict" ∧ (∀ b, Value.ref a = .ref b → ∃ ob, s.heap.get? b = some ob ∧ ob.dict = none) ∧ (a == sysModules) = false := by
  obtain ⟨z, hd, xs, rel, dd⟩ := cd_of I.hok d
  refine ⟨dd.typeIs, fun b q => ?_, hd⟩
  cases q
  obtain ⟨ob, _, _, h1, h2, _⟩ := dd
  exact ⟨ob, h1, h2.2.1⟩
/-- d[cart] = v -/
theorem c_setItem {y : V} {u : Value} {Q : Unit → Shared → Prop} {E : Value → Shared → Prop} {A : Around} (hu : A.units + 64 < cLine) (I : Inv X pins σ H s) (d : CD X.prog X.w H a kvs) (eb : H b = some (.tup (cvs c))) (hl : kvs.length < sizeLine) (ry : RelV y u)
    (h : ∀ s', Inv X pins σ (upd H a (cartD X.prog X.w a (putC kvs c b y))) s' → Q () s') : wpAny (model X.prog X.w) A (setItem (.ref a) (.ref b) u) Q E s := by
  obtain ⟨z, hd, xs, rel, dd⟩ := cd_of I.hok d
  have hz : xs.length ≤ sizeLine := by rw [← Paired.length rel]; exact z
  refine wpAny_setItem_heap (hsz := hz) (knd := nestedKind X.prog X.w) (show A.in1.units + 8 < cLine by show A.units + 1 + 8 < cLine; omega) (nk_is I.hok eb) dd fun h' dd' hs => h _ ?_
  obtain ⟨q, es, ep, hq, h2, h3, h4, _, h5⟩ := dd'
  have hl' := putC_len kvs c b y
  refine d_write I (by rw [d.at']; exact True.intro) hs ⟨q, hq⟩ ⟨⟨by omega, hd, _, rel.put c ry, q, es, ep, hq, h2, h3, h4, h5⟩, ⟨q, hq⟩, cartP_stay⟩
theorem set_cart (hu : X.A.units + 64 < cLine) : PSet X (fun o i v H Q => ∃ (a b : Addr) (c : CK) (kvs : CEs), o = .ref a ∧ i = .ref b ∧ CD X.prog X.w H a kvs ∧ H b = some (.tup (cvs c)) ∧ kvs.length < sizeLine ∧ Q (upd H a (cartD X.prog X.w a (putC kvs c b v)))) := by
  intro pins s σ H o i v ov iv u Q I ro ri rv h
  obtain ⟨a, b, c, kvs, rfl, rfl, d, eb, hl, q⟩ := h
  cases ro
  cases ri
  exact c_setItem hu I d eb hl rv fun s' I' => ⟨_, I', q⟩
/-- d[cart], there -/
def tCGet (P : Program) (w : World) (td ty : TE) : TE := fun σ H Q => td σ H fun x H1 => ty σ H1 fun y H2 => ∃ (a b : Addr) (c : CK) (kvs : CEs) (v : V), x = .ref a ∧ y = .ref b ∧ CD P w H2 a kvs ∧ H2 b = some (.tup (cvs c)) ∧ valV (flat kvs) c = some v ∧ Q v H2
theorem pe_cget {o i : Expr} {td ty : TE} {pos : Pos} (hu : X.A.units + 64 < cLine) (ho : PE X o td) (hi : PE X i ty) (hs : NoSl i) : PE X (.Subscript o i pos) (tCGet X.prog X.w td ty) := by
  refine ⟨fun pins s σ H Q I h => ?_⟩
  refine subD_of PySem.F.slot_dict_getitem.lookup hs (thn (ho.run pins s σ H _ I h) fun u s1 ⟨x, H1, I1, rx, q1⟩ => thn (hi.run pins s1 σ H1 _ I1 q1) fun iv s2 ⟨y, H2, I2, ry, a, b, c, kvs, v, ex, ey, d, eb, l, q2⟩ => ?_)
  subst ex ey
  obtain rfl : u = Value.ref a := rx
  obtain rfl : iv = Value.ref b := ry
  obtain ⟨z, hd, xs, rel, dd⟩ := cd_of I2.hok d
  refine ⟨dd.typeIs, ?_⟩
  obtain ⟨w', hw, rw'⟩ := RelO.some_of (v := v) (o := (atKey xs (nk c)).map (·.2)) (by rw [← l]; exact rel.val c)
  obtain ⟨p, hp, hp2⟩ := Option.map_eq_some_iff.mp hw
  refine wpAny_getItem_heap (knd := nestedKind X.prog X.w) (show X.A.in1.units + 8 < cLine by show X.A.units + 1 + 8 < cLine; omega) (nk_is I2.hok eb) dd hp ?_
  rw [hp2]
  exact ⟨v, H2, I2.tok _, rw', q2⟩
/-- d.get(cart, x) -/
def tCGet2 (P : Program) (w : World) (td ty tx : TE) : TE := fun σ H Q => td σ H fun x H1 => ∃ (a : Addr) (kv0 : CEs), x = .ref a ∧ CD P w H1 a kv0 ∧ ty σ H1 fun y H2 => tx σ H2 fun z H3 => ∃ (b : Addr) (c : CK) (kvs : CEs), y = .ref b ∧ CD P w H3 a kvs ∧ H3 b = some (.tup (cvs c)) ∧ Q ((valV (flat kvs) c).getD z) H3
theorem pe_cget2 {o e f : Expr} {apos cpos : Pos} {td ty tx : TE} (hu : X.A.units + 64 < cLine) (ho : PE X o td) (he : PE X e ty) (hf : PE X f tx) (m : M2 X o "get" apos e f cpos) : PE X (.Call (.Attribute o "get" apos) [e, f] [] cpos) (tCGet2 X.prog X.w td ty tx) := by
  refine ⟨fun pins s σ H Q I h => ?_⟩
  refine wpAny_Call_method m.base m.few m.line PySem.F.plainAttrs_dict PySem.F.slot_dict_get PySem.F.type_dict_get (thn (ho.run pins s σ H _ I h) fun u s1 ⟨x, H1, I1, rx, a, kv0, ex, d0, q1⟩ => ?_)
  subst ex
  obtain rfl : u = Value.ref a := rx
  obtain ⟨t1, t2, _⟩ := cd_typeIs I1 d0
  refine ⟨t1, t2, ?_⟩
  rw [m.trees]
  refine Calls.callWith_builtin rfl (Calls.evalArgs_plain (Calls.spliced_cons (thn (he.run pins s1 σ H1 _ I1 q1) fun iv s2 ⟨y, H2, I2, ry, q2⟩ =>
    Calls.spliced_cons (thn (hf.run pins s2 σ H2 _ I2 q2) fun fv s3 ⟨z, H3, I3, rz, b, c, kvs, ey, d, eb, q3⟩ => Calls.spliced_nil ?_))))
  subst ey
  obtain rfl : iv = Value.ref b := ry
  obtain ⟨zl, hd, xs, rel, dd⟩ := cd_of I3.hok d
  refine getOr_keyed (knd := nestedKind X.prog X.w) (kvs := pairsH xs) (show X.A.in1.units + 8 < cLine by show X.A.units + 1 + 8 < cLine; omega) (nk_is I3.hok eb) hd ⟨xs, dd, rfl⟩ ?_
  rw [valueAt_pairsH]
  exact ⟨_, H3, I3.tok _, (rel.val c).getD rz, q3⟩
/-- cart in d, cart not in d -/
theorem op_in_cart (hu : X.A.units + 64 < cLine) : OpR X (compareOp .In) (fun x y H Q => ∃ (a b : Addr) (c : CK) (kvs : CEs), x = .ref b ∧ y = .ref a ∧ CD X.prog X.w H a kvs ∧ H b = some (.tup (cvs c)) ∧ Q (.bl (valV (flat kvs) c).isSome) H) := by
  intro pins s σ H x y v u Q I rx ry h
  obtain ⟨a, b, c, kvs, rfl, rfl, d, eb, q⟩ := h
  cases rx
  cases ry
  obtain ⟨zl, hd, xs, rel, dd⟩ := cd_of I.hok d
  refine in_keyed (knd := nestedKind X.prog X.w) (kvs := pairsH xs) (show X.A.in1.units + 8 < cLine by show X.A.units + 1 + 8 < cLine; omega) (nk_is I.hok eb) hd ⟨xs, dd, rfl⟩ ?_
  rw [valueAt_pairsH, ← (rel.val c).isSome_eq]
  exact ⟨.bl _, H, I.tok _, rfl, q⟩
theorem op_notIn_cart (hu : X.A.units + 64 < cLine) : OpR X (compareOp .NotIn) (fun x y H Q => ∃ (a b : Addr) (c : CK) (kvs : CEs), x = .ref b ∧ y = .ref a ∧ CD X.prog X.w H a kvs ∧ H b = some (.tup (cvs c)) ∧ Q (.bl (!(valV (flat kvs) c).isSome)) H) := by
  intro pins s σ H x y v u Q I rx ry h
  obtain ⟨a, b, c, kvs, rfl, rfl, d, eb, q⟩ := h
  cases rx
  cases ry
  obtain ⟨zl, hd, xs, rel, dd⟩ := cd_of I.hok d
  refine notIn_keyed (knd := nestedKind X.prog X.w) (kvs := pairsH xs) (show X.A.in1.units + 8 < cLine by show X.A.units + 1 + 8 < cLine; omega) (nk_is I.hok eb) hd ⟨xs, dd, rfl⟩ ?_
  rw [valueAt_pairsH, ← (rel.val c).isSome_eq]
  exact ⟨.bl _, H, I.tok _, rfl, q⟩
/-- {} whose keys will be carts -/
def tCNew (P : Program) (w : World) : TE := fun _ H Q => ∀ p, H p = none → Q (.ref p) (upd H p (cartD P w p []))
theorem cart_empty {P : Program} {w : World} {H : Hp} (h : Heap) (hb : sysModules < h.objs.size) : ObjOk P w H (h.push { cls := .type "dict", data := .dict #[] }) h.objs.size (cartD P w h.objs.size []) :=
  ⟨⟨Nat.zero_le _, beq_eq_false_iff_ne.mpr (Ne.symm (Nat.ne_of_lt hb)), [], .nil, _, #[], 0, Heap.get?_push_size _ rfl, ⟨rfl, rfl, rfl⟩, rfl, rfl, List.nodup_nil⟩, ⟨_, Heap.get?_push_size _ rfl⟩, cartP_stay⟩
theorem pe_cnew {pos : Pos} : PE X (.Dict [] [] pos) (tCNew X.prog X.w) := ⟨fun pins s σ H Q I h =>
  wpAny_Dict_empty ⟨.ref s.heap.objs.size, _, I.laid (a := s.heap.objs.size) (o := cartD X.prog X.w s.heap.objs.size []) (t' := s.toks) (fun _ _ q => Heap.get?_push_of_some _ q) (Nat.le_refl _) (cart_empty s.heap I.big), rfl, h _ (I.hok.fresh (Nat.le_refl _))⟩⟩
/-- len(d) -/
theorem call_len_cart : CallR X (.builtin "len") (fun xs H Q => ∃ (a : Addr) (kvs : CEs), xs = [.ref a] ∧ CD X.prog X.w H a kvs ∧ Q (.int ((kvs.length : Nat) : Int)) H) := by
  intro pins s σ H xs us Q I r h
  obtain ⟨a, kvs, rfl, d, q⟩ := h
  obtain ⟨u, rfl, ru⟩ := vals1 r
  cases (show u = Value.ref a from ru)
  obtain ⟨z, hd, xs, rel, dd⟩ := cd_of I.hok d
  have e : kvs.length = xs.length := Paired.length rel
  have big := sizeLine_eq
  refine call_len_dictH hd dd (by omega) ?_
  exact ⟨.int _, H, I.tok _, ⟨s.toks + 1, by rw [e]⟩, q⟩
end
end HK

namespace HK
open PySem PySem.Spec PyProof.Rows L2
open PySem.W (dataLe EachIs alike AllAlike Sortable)
/-! ### sorted(d), d's keys carts -/
def dC (c : CK) : PyData := .tuple [.str c.1, .str c.2.1, .bool c.2.2]
def sortC (bs : List (CK × Addr)) : List (CK × Addr) := bs.mergeSort (dataLe false fun b => dC b.1)
def keysC (kvs : CEs) : List (CK × Addr) := kvs.map fun q => (q.1, q.2.1)
theorem each_of_map {α β γ : Type} {R : β → γ → Prop} {f : α → β} {g : α → γ} : ∀ l : List α, (∀ q ∈ l, R (f q) (g q)) → EachIs R (l.map f) (l.map g)
  | [], _ => .nil
  | x :: r, h => .cons (h x List.mem_cons_self) (each_of_map r fun q hq => h q (List.mem_cons_of_mem _ hq))
theorem each_eq {α β : Type} {f : β → α} : ∀ {l : List α} {m : List β}, EachIs (fun v b => v = f b) l m → l = m.map f
  | _, _, .nil => rfl
  | _, _, .cons h r => by rw [List.map_cons, h, each_eq r]
theorem reads_dC {P : Program} {w : World} {H : Hp} {h h' : Heap} {b : Addr} {c : CK} (ok : HOk P w H h) (e : H b = some (.tup (cvs c))) (k : ∀ o, h.get? b = some o → h'.get? b = some o) : Reads h' (.ref b) (dC c) [] := by
  obtain ⟨_, its, r, o, h1, h2, n, h3⟩ := (show ObjOk P w H h b (.tup (cvs c)) from ok b _ e)
  obtain ⟨f, kk, t⟩ := c
  cases r with
  | cons r1 r =>
    cases r with
    | cons r2 r =>
      cases r with
      | cons r3 r =>
        cases r
        obtain ⟨t1, rfl⟩ := r1
        obtain ⟨t2, rfl⟩ := r2
        cases r3
        exact .tuple (k _ h1) h2 h3 (.cons (.str _ _) (.cons (.str _ _) (.cons (.bool _) .nil)))
theorem dC_alike {c d : CK} : alike (dC c) (dC d) = true := rfl
theorem objOk_there {P : Program} {w : World} {H : Hp} {h : Heap} {a : Addr} {o : HO} (x : ObjOk P w H h a o) : ∃ u, h.get? a = some u := by
  cases o with
  | lst xs => obtain ⟨_, _, _, _, e⟩ := x; exact ⟨_, e⟩
  | tup xs => obtain ⟨_, _, _, u, e, _⟩ := x; exact ⟨u, e⟩
  | dK kvs => obtain ⟨_, _, _, _, u, _, _, e, _⟩ := x; exact ⟨u, e⟩
  | dT kvs => obtain ⟨_, _, _, _, u, _, _, e, _⟩ := x; exact ⟨u, e⟩
  | set S n => obtain ⟨u, _, _, _, e, _⟩ := x; exact ⟨u, e⟩
  | ins C dx fs => obtain ⟨_, _, _, e, _⟩ := x; exact ⟨_, e⟩
  | own y => exact x
  | xd fs => obtain ⟨_, ⟨u, _, _, e, _⟩, _⟩ := x; exact ⟨u, e⟩
  | rng lo hi => obtain ⟨_, _, _, e⟩ := x; exact ⟨_, e⟩
  | frz ob u => obtain ⟨e, _⟩ := x; exact ⟨_, e⟩
  | tbl ps => exact ⟨_, (show h.get? a = some _ from x)⟩
  | met f y => exact ⟨_, (show h.get? a = some _ from x)⟩
  | ext φ => obtain ⟨_, e, _⟩ := x; exact e
theorem refs_vals : ∀ l : List (CK × Addr), Vals (l.map fun b => V.ref b.2) (l.map fun b => Value.ref b.2)
  | [] => .nil
  | _ :: r => .cons rfl (refs_vals r)
theorem Paired.get' {α β : Type} {F : α → β → Prop} : ∀ {l₁ : List α} {l₂ : List β} {j : Nat} {y : β}, Paired F l₁ l₂ → l₂[j]? = some y → ∃ x, l₁[j]? = some x ∧ F x y
  | _, _, j, y, .nil, h => by simp at h
  | _, _, 0, y, .cons r _, h => by
    simp only [List.getElem?_cons_zero, Option.some.injEq] at h
    subst h
    exact ⟨_, rfl, r⟩
  | _, _, j + 1, y, .cons _ t, h => by
    obtain ⟨x, hx, r⟩ := Paired.get' (j := j) t (by simpa using h)
    exact ⟨x, by simpa using hx, r⟩
section
variable {X : Cx}
theorem cr_sortedC (hc : X.calm = true) (hu : X.A.units + 64 < cLine) : CallR X (.builtin "sorted") (fun xs H Q => ∃ (a : Addr) (kvs : CEs), xs = [.ref a] ∧ CD X.prog X.w H a kvs ∧ ∀ p, H p = none → Q (.ref p) (upd H p (.lst ((sortC (keysC kvs)).map fun b => V.ref b.2)))) := by
  intro pins s σ H xs us Q I r h
  obtain ⟨a, kvs, rfl, d, q⟩ := h
  obtain ⟨u, rfl, ru⟩ := vals1 r
  cases (show u = Value.ref a from ru)
  obtain ⟨z, hd, ys, rel, o, es, ep, h1, h2, h3, h4, h5, h6⟩ := cd_of I.hok d
  have e1 : kvs.length = ys.length := Paired.length rel
  have e2 : es.size = ys.length := by rw [← Array.length_toList, h4, List.length_map]
  refine (PySem.Calls.call_function_entry PyProof.Rows.kind_sorted PyProof.Rows.plain_sorted PyProof.Rows.entry_sorted (PyProof.Rows.args_sorted1 _)) ?_
  unfold Builtin.«sorted»
  refine wpAny_bind (m := checkCount "sorted" 1 1 1) (wpAny_pure (wpAny_bind (PySem.W.kdu_collect (A := X.A.in1) (KdlSrc.rawDict (es := es) (ep := ep) hd) (I.ok.hd hc) ⟨o, h1, h2, h3⟩ (by omega) fun h' tk acc hk hacc => ?_)))
  have ea : acc.toList = kvs.map fun q => Value.ref q.2.1 := by
    have es_at : ∀ j (hj : j < es.size), ∃ p, kvs[j]? = some p ∧ es[j].key = Value.ref p.2.1 := fun j hj => by
      have hy : ys[j]? = some (ys[j]'(by omega)) := List.getElem?_eq_getElem (by omega)
      have he : es.toList[j]? = some (entryOfKey (nestedKind X.prog X.w) (ys[j]'(by omega))) := by rw [h4, List.getElem?_map, hy]; rfl
      rw [Array.getElem?_toList, Array.getElem?_eq_getElem hj] at he
      obtain ⟨p, hp, r1⟩ := Paired.get' rel hy
      refine ⟨p, hp, ?_⟩
      rw [Option.some.inj he]
      show Value.ref _ = _
      rw [r1.2.1]
    refine List.ext_getElem? fun j => ?_
    rw [Array.getElem?_toList, List.getElem?_map]
    by_cases hj : j < es.size
    · obtain ⟨p, hp, he⟩ := es_at j hj
      have hja : j < acc.size := by rw [hacc.1]; exact hj
      obtain ⟨_, hv⟩ := hacc.2 j acc[j] (Array.getElem?_eq_getElem hja)
      rw [hp, Array.getElem?_eq_getElem hja, hv, he]
      rfl
    · rw [Array.getElem?_eq_none (by rw [hacc.1]; omega), List.getElem?_eq_none (by omega)]
      rfl
  have hl : acc.toList.length = kvs.length := by rw [ea, List.length_map]
  refine wpAny_bind (wpAny_newList ?_ (by omega))
  have hlist : (h'.push { cls := .type "list", data := .seq acc.toList.toArray }).get? h'.objs.size = some (seqObj "list" acc.toList.toArray 0) := Heap.get?_push_size _ rfl
  have old : ∀ b u, s.heap.get? b = some u → (h'.push { cls := .type "list", data := .seq acc.toList.toArray }).get? b = some u := fun b u e => Heap.get?_push_of_some _ (hk b u e)
  have hnone : s.heap.get? h'.objs.size = none := by
    cases e : s.heap.get? h'.objs.size with
    | none => rfl
    | some o => exact absurd (Heap.lt_size (hk _ _ e)) (Nat.lt_irrefl _)
  have er : EachIs (fun v b => ∃ as, Reads (h'.push { cls := .type "list", data := .seq acc.toList.toArray }) v (dC b.1) as ∧ h'.objs.size ∉ as) acc.toList (keysC kvs) := by
    have z1 : ∀ p ∈ kvs, ∃ as, Reads (h'.push { cls := .type "list", data := .seq acc.toList.toArray }) (.ref p.2.1) (dC p.1) as ∧ h'.objs.size ∉ as := fun p hp => ⟨[], reads_dC I.hok (d.keys p hp) (old _), by simp⟩
    generalize (h'.push { cls := .type "list", data := .seq acc.toList.toArray }) = hh at z1 ⊢
    rw [ea]
    exact each_of_map kvs z1
  have e0 : EachIs (fun v (b : CK × Addr) => v = Value.ref b.2) acc.toList (keysC kvs) := by
    rw [ea]
    exact each_of_map kvs fun p hp => rfl
  have hL : (keysC kvs).length ≤ sizeLine := by unfold keysC; rw [List.length_map]; exact z
  refine wpAny_bind (wpAny_holding (PySem.W.list_sort_data (enc := fun b : CK × Addr => dC b.1) (A := X.A.in1) hlist e0 er (PySem.W.AllAlike.of fun _ _ => dC_alike) (PySem.W.Sortable.tuples fun b => ⟨_, _, rfl⟩) hL (fun b _ => ?_) fun out ol oe => ?_))
  · show X.A.units + 1 + 1 + _ < cLine
    have : (dC b.1).depth = 1 := by simp [dC, PyData.depth, PyData.depthAll]
    omega
  · have eo : out = (sortC (keysC kvs)).map fun b => Value.ref b.2 := each_eq oe
    obtain ⟨ep', he'⟩ := PyProof.Rows.sortedHeap_at (vs := acc.toList) (out := List.toArray out) hlist
    have hn : H h'.objs.size = none := by
      cases e : H h'.objs.size with
      | none => rfl
      | some o =>
        obtain ⟨u, hu⟩ := objOk_there (I.hok _ _ e)
        rw [hnone] at hu
        cases hu
    refine wpAny_pure ⟨_, rfl, .ref _, upd H h'.objs.size (.lst ((sortC (keysC kvs)).map fun b => V.ref b.2)), ?_, rfl, q _ hn⟩
    refine I.laidN (t' := tk) (fun b u e => ?_) hnone hn ⟨?_, out, ep', ?_, he'⟩
    · have lt : b < h'.objs.size := Heap.lt_size (hk b u e)
      rw [PyProof.Rows.sortedHeap_old (b := b) (Nat.ne_of_lt lt) (by rw [size_push']; exact Nat.lt_succ_of_lt lt)]
      exact old b u e
    · rw [List.length_map]
      unfold sortC
      rw [List.length_mergeSort]
      exact hL
    · rw [eo]
      exact refs_vals _
end
end HK

namespace FL
open PySem PySem.Spec PyProof.Rows L2
open HK (Keep Same.new)
open L2.DX (itemsO itemsO_ok takeT)
open HK (objOk_there)
/-! ### list(d.items()), d's keys carts -/
theorem cd_raw {P : Program} {w : World} {H : Hp} {h : Heap} {a : Addr} {kvs : KEs} (ok : HOk P w H h) (d : KD P w H a kvs) : kvs.length ≤ sizeLine ∧ (a == sysModules) = false ∧ ∃ (es : Array DictEntry) (ep : Nat), h.DictRaw a es ep ∧ es.size = kvs.length ∧
    ∀ j (hj : j < es.size), ∃ q, kvs[j]? = some q ∧ es[j].key = Value.ref q.2.1 ∧ RelV q.2.2 es[j].val := by
  obtain ⟨z, hd, ys, rel, o, es, ep, h1, h2, h3, h4, h5, h6⟩ := cd_of ok d
  have e1 : kvs.length = ys.length := Paired.length rel
  have e2 : es.size = ys.length := by rw [← Array.length_toList, h4, List.length_map]
  refine ⟨z, hd, es, ep, ⟨o, h1, h2, h3⟩, by omega, fun j hj => ?_⟩
  have hy : ys[j]? = some (ys[j]'(by omega)) := List.getElem?_eq_getElem (by omega)
  have he : es.toList[j]? = some (entryOfKey (nestedKind P w) (ys[j]'(by omega))) := by rw [h4, List.getElem?_map, hy]; rfl
  rw [Array.getElem?_toList, Array.getElem?_eq_getElem hj] at he
  obtain ⟨p, hp, r1⟩ := HK.Paired.get' rel hy
  refine ⟨p, hp, ?_, ?_⟩
  · rw [Option.some.inj he]
    show Value.ref _ = _
    rw [r1.2.1]
  · rw [Option.some.inj he]
    exact r1.2.2
theorem refs_same : ∀ l : List Addr, Vals (l.map V.ref) (l.map Value.ref)
  | [] => .nil
  | _ :: r => .cons rfl (refs_same r)
section
variable {X : Cx}
theorem mt_itemsC : MtR X "dict.items" (fun x xs H Q => ∃ (a : Addr) (kvs : KEs), x = .ref a ∧ xs = [] ∧ KD X.prog X.w H a kvs ∧ ∀ p, H p = none → Q (.ref p) (upd H p (itemsO p a))) := by
  intro pins s σ H x xs v us Q I rx rxs h
  obtain ⟨a, kvs, rfl, rfl, d, q⟩ := h
  cases rx
  cases rxs
  obtain ⟨z, hd, es, ep, ⟨o, h1, h2, h3⟩, _⟩ := cd_raw I.hok d
  refine DT.callItems (es := es) (ep := ep) hd ⟨o, h1, h2, h3⟩ ⟨.ref s.heap.objs.size, upd H s.heap.objs.size (itemsO s.heap.objs.size a), ?_, rfl, q _ (I.hok.fresh (Nat.le_refl _))⟩
  exact I.laid (t' := s.toks) (fun b u e => Heap.get?_push_of_some _ e) (Nat.le_refl _) (itemsO_ok (Heap.get?_push_size _ rfl))
theorem call_list_itemsC (hc : X.calm = true) : CallR X (.type "list") (fun xs H Q => ∃ (p a : Addr) (kvs : KEs), xs = [.ref p] ∧ H p = some (itemsO p a) ∧ KD X.prog X.w H a kvs ∧
    ∀ (H' : Hp) (l : Addr) (as : List Addr), Same H H' → H l = none → H' l = some (.lst (as.map V.ref)) → as.length = kvs.length → (∀ (j : Nat) (t : Addr) (q : NestedKey × Addr × V), as[j]? = some t → kvs[j]? = some q → H t = none ∧ H' t = some (.tup [.ref q.2.1, q.2.2])) → Q (.ref l) H') := by
  intro pins s σ H xs us Q I r h
  obtain ⟨p, a, kvs, rfl, hp, d, q⟩ := h
  obtain ⟨u, rfl, ru⟩ := vals1 r
  cases (show u = Value.ref p from ru)
  have view : s.heap.IsItemsView p a := (show ObjOk X.prog X.w H s.heap p (itemsO p a) from I.hok p _ hp).1
  obtain ⟨z, hd, es, ep, raw, esz, ent⟩ := cd_raw I.hok d
  refine PySem.W.dil_call (es := es) (ep := ep) (I.ok.hd hc) view raw (by omega) fun h' tk acc c as hk hl la G ea => ?_
  have hn : H s.heap.objs.size = none := I.hok.fresh (Nat.le_refl _)
  have nd : as.Nodup := List.Pairwise.imp (fun h => Nat.ne_of_lt h) G.rise
  have I1 : Inv X pins σ (upd H s.heap.objs.size (.lst (as.map V.ref))) { s with heap := h', toks := tk } :=
    I.laid (t' := tk) hk (Nat.le_refl _) ⟨by rw [List.length_map]; omega, acc.toList, c, by rw [ea]; exact refs_same as, by rw [Array.toArray_toList]; exact hl⟩
  obtain ⟨H2, I2, k2, tups⟩ := takeT (P := fun t vs => ∃ (j : Nat) (q : NestedKey × Addr × V), as[j]? = some t ∧ kvs[j]? = some q ∧ vs = [.ref q.2.1, q.2.2]) I as _ I1 nd fun t ht => by
    obtain ⟨j, hj⟩ := List.mem_iff_getElem?.mp ht
    obtain ⟨hje, ht'⟩ := G.pairs j t hj
    obtain ⟨q0, hq, k1, k2⟩ := ent j hje
    have above := G.above t ht
    refine ⟨Nat.le_of_lt above, ?_, _, ⟨j, q0, hj, hq, rfl⟩, fun H2 => ⟨(show 2 ≤ sizeLine by decide), [es[j].key, es[j].val], .cons (by rw [k1]; rfl) (.cons k2 .nil), _, ht', rfl, 0, rfl⟩⟩
    rw [upd_ne (Nat.ne_of_gt above)]
    exact I.hok.fresh (Nat.le_of_lt above)
  refine ⟨.ref _, H2, I2, rfl, q H2 _ as (fun b o e => k2 b o (by rw [upd_ne (ne_of_none e hn)]; exact e)) hn (k2 _ _ upd_same) (by omega) fun j t q1 hj hq => ?_⟩
  have ht := List.mem_of_getElem? hj
  obtain ⟨vs, ⟨j', q', hj', hq', ev⟩, hH⟩ := tups t ht
  have inj : ∀ i k, as[i]? = some t → as[k]? = some t → ¬ i < k := fun i k h1 h2 lt => by
    obtain ⟨l1, e1⟩ := List.getElem?_eq_some_iff.mp h1
    obtain ⟨l2, e2⟩ := List.getElem?_eq_some_iff.mp h2
    have := List.pairwise_iff_getElem.mp G.rise i k l1 l2 lt
    rw [e1, e2] at this
    exact Nat.lt_irrefl _ this
  have ej : j' = j := Nat.le_antisymm (Nat.not_lt.mp (inj j j' hj hj')) (Nat.not_lt.mp (inj j' j hj' hj))
  subst ej
  rw [hq] at hq'
  cases hq'
  subst ev
  exact ⟨I.hok.fresh (Nat.le_of_lt (G.above t ht)), hH⟩
end
end FL

namespace FL
open PySem PySem.Spec PyProof.Rows L2
section
variable {c : Bd} {σ : L2.St} {τ : List PV} {hv : List V} {hp : List PV} {H H' : Hp}
/-- the last things at hand as they are, and what may be put in their place -/
theorem Stt.open {vs : List V} {ps : List PV} (s : Stt c σ τ (hv ++ vs) (hp ++ ps) H) (l : hv.length = hp.length) : ∃ B O, Rels c.P c.w B H vs ps O ∧ ∀ ws qs Od O', O.Perm (Od ++ O') → Rels c.P c.w B H ws qs O' → Stt c σ τ (hv ++ ws) (hp ++ qs) H := by
  obtain ⟨⟨B, O1, O2, r1, r2, nd, hb, ho, wf, fr⟩, pm⟩ := s
  obtain ⟨Oa, Ob, e2, ra, rb⟩ := r2.split l
  subst e2
  refine ⟨B, Ob, rb, fun ws qs Od O' p r => ⟨.mk' (Od := Od) nd hb ho wf fr r1 (ra.append r) ?_, pm⟩⟩
  exact List.perm_iff_count.mpr fun a => by
    have := p.count_eq a
    simp only [List.count_append] at this ⊢
    omega
/-- an owned object changed -/
theorem Stt.openW {a : Addr} {p : PV} {ys : List V} {qs : List PV} (s : Stt c σ τ (hv ++ (.ref a :: ys)) (hp ++ (p :: qs)) H) (l : hv.length = hp.length) (opn : ∀ B O, Rel c.P c.w B H (.ref a) p O → ∃ Oi, O = a :: Oi) :
    ∃ B Oi O2, Rel c.P c.w B H (.ref a) p (a :: Oi) ∧ Rels c.P c.w B H ys qs O2 ∧ B a ∧ a ∉ Oi ++ O2 ∧
      ∀ o p' Od O', (Oi ++ O2).Perm (Od ++ O') → Rel c.P c.w B (upd H a o) (.ref a) p' (a :: O') → Stt c σ τ (hv ++ [.ref a]) (hp ++ [p']) (upd H a o) := by
  obtain ⟨⟨B, O1, O2, r1, r2, nd, hb, ho, wf, fr⟩, pn, mk⟩ := s
  obtain ⟨Oa, Ob, e2, ra, rb⟩ := r2.split l
  subst e2
  cases rb with
  | @cons _ _ _ _ O O' x y =>
  obtain ⟨Oi, e⟩ := opn B O x
  subst e
  have pm : (O1 ++ (Oa ++ (a :: Oi ++ O'))).Perm (a :: (O1 ++ (Oa ++ (Oi ++ O')))) := by
    rw [List.cons_append, ← List.append_assoc, ← List.append_assoc]
    exact List.perm_middle
  have nd' := pm.nodup_iff.mp nd
  obtain ⟨na, nd2⟩ := List.nodup_cons.mp nd'
  have ma : a ∈ O1 ++ (Oa ++ (a :: Oi ++ O')) := pm.mem_iff.mpr List.mem_cons_self
  have hBa : B a := (hb a).mpr (.inr ma)
  have n1 : a ∉ O1 := fun m => na (List.mem_append_left _ m)
  have n2 : a ∉ Oa := fun m => na (List.mem_append_right _ (List.mem_append_left _ m))
  have n3 : a ∉ Oi ++ O' := fun m => na (List.mem_append_right _ (List.mem_append_right _ m))
  refine ⟨B, Oi, O', x, y, hBa, n3, fun o p' Od On p r => ?_⟩
  have hn : ∀ b u, H b = some u → ¬ B b → upd H a o b = some u ∧ ¬ B b := fun b u h n => ⟨(upd_ne (fun e : b = a => n (e ▸ hBa))).trans h, n⟩
  have kk : ∀ {O : List Addr}, a ∉ O → ∀ (b : Addr) (u : HO), b ∈ O → H b = some u → upd H a o b = some u := fun n b u m h => (upd_ne (fun e : b = a => n (e ▸ m))).trans h
  refine ⟨.mk' (B := B) (O1 := O1) (O2 := Oa ++ (a :: Oi ++ O')) (Od := Od) nd hb ho (fun b h => ?_) (fun b u h n => ?_) (r1.go hn (kk n1)) ((ra.go hn (kk n2)).append (.one r)) ?_, pn, ?_⟩
  · obtain ⟨u, q⟩ := wf b h
    exact ⟨u, (upd_ne (fun e : b = a => (ho a ma).1 (e ▸ h))).trans q⟩
  · have q := fr b u h n
    refine Eq.trans (upd_ne fun e => ?_) q
    rcases (ho a ma).2 with z | z
    · exact n (e ▸ z)
    · rw [e, z] at h; cases h
  · exact List.perm_iff_count.mpr fun b => by
      have := p.count_eq b
      simp only [List.count_append, List.count_cons] at this ⊢
      omega
  · obtain ⟨ob, u, hm⟩ := mk
    refine ⟨ob, u, (upd_ne fun q => ?_).trans hm⟩
    exact x.nfz a List.mem_cons_self ob u (q ▸ hm)
end
end FL

namespace FL
open PySem PySem.Spec PyProof.Rows L2
section
variable {P : Program} {w : World} {B : Addr → Prop} {H : Hp}
mutual
theorem Rel.kv : ∀ {v : V} {p : PV} {O : List Addr} {k : NestedKey}, Rel P w B H v p O → key? p = some k → KV H v k
  | _, _, _, _, .un, e => by simp [key?] at e
  | _, _, _, _, .non, e => by cases e; exact .non
  | _, _, _, _, .bl b, e => by cases e; exact .bl b
  | _, _, _, _, .int i, e => by cases e; exact .int i
  | _, _, _, _, .str x, e => by cases e; exact .str x
  | _, _, _, _, .tup n h r, e => by
    obtain ⟨ks, e1, rfl⟩ := Option.map_eq_some_iff.mp e
    exact .tup h (Rels.kv r e1)
  | _, _, _, _, .lstF n h r, e => by simp [key?] at e
  | _, _, _, _, .lstO h r, e => by simp [key?] at e
  | _, _, _, _, .dctF n h r, e => by simp [key?] at e
  | _, _, _, _, .dctO h r, e => by simp [key?] at e
  | _, _, _, _, .dcuF n h r, e => by simp [key?] at e
  | _, _, _, _, .dcuO h r, e => by simp [key?] at e
  | _, _, _, _, .ins n h e1 e2 r, e => by simp [key?] at e
  | _, _, _, _, .exc n h e1 e2 r, e => by simp [key?] at e
theorem Rels.kv : ∀ {vs : List V} {ps : List PV} {O : List Addr} {ks : List NestedKey}, Rels P w B H vs ps O → keys? ps = some ks → KVs H vs ks
  | _, _, _, _, .nil, e => by cases e; exact .nil
  | _, _, _, _, .cons x r, e => by
    obtain ⟨k, e1, e2⟩ := Option.bind_eq_some_iff.mp e
    obtain ⟨ks, e3, rfl⟩ := Option.map_eq_some_iff.mp e2
    exact .cons (Rel.kv x e1) (Rels.kv r e3)
end
theorem KV.ref {v : V} {ks : List NestedKey} (h : KV H v (.tup ks)) : ∃ b, v = .ref b := by
  cases h with
  | tup => exact ⟨_, rfl⟩
def eKey : PV → Option NestedKey
  | .tup [k, _] => key? k
  | _ => none
def eVal : PV → PV
  | .tup [_, v] => v
  | _ => .un
def ePut (q : PV) : PV → PV
  | .tup [k, _] => .tup [k, q]
  | p => p
def dget (es : List PV) (k : NestedKey) : Option PV := (es.find? fun e => decide (eKey e = some k)).map eVal
def dput (es : List PV) (k : NestedKey) (kp q : PV) : List PV := if (dget es k).isSome = true then es.map fun e => if eKey e = some k then ePut q e else e else es ++ [.tup [kp, q]]
theorem RelK.len : ∀ {kvs : KEs} {es : List PV} {O : List Addr}, RelK P w B H kvs es O → kvs.length = es.length
  | _, _, _, .nil => rfl
  | _, _, _, .cons _ _ _ _ r => congrArg Nat.succ (RelK.len r)
theorem RelK.keys : ∀ {kvs : KEs} {es : List PV} {O : List Addr}, RelK P w B H kvs es O → ∀ q ∈ kvs, KA H q.2.1 q.1
  | _, _, _, .nil, q, m => (List.not_mem_nil m).elim
  | _, _, _, .cons x e d _ r, q, m => by
    rcases List.mem_cons.mp m with z | z
    · subst z; exact ⟨x.kv e, d⟩
    · exact RelK.keys r q z
theorem RelK.get (k : NestedKey) : ∀ {kvs : KEs} {es : List PV} {O : List Addr}, RelK P w B H kvs es O → (valV (flat kvs) k = none ∧ dget es k = none) ∨ ∃ v p Oi O', valV (flat kvs) k = some v ∧ dget es k = some p ∧ Rel P w B H v p Oi ∧ O.Perm (Oi ++ O')
  | _, _, _, .nil => .inl ⟨rfl, rfl⟩
  | _, _, _, .cons (k := k') (v := v) (kp := kp) (p := p) (kvs := kvs) (es := es) (O := O) (O' := O') x e d y r => by
    show (valV ((k', v) :: flat kvs) k = none ∧ _) ∨ _
    by_cases z : k' = k
    · subst z
      refine .inr ⟨v, p, O, O', valV_pos (p := (k', v)) rfl, ?_, y, .refl _⟩
      unfold dget
      rw [List.find?_cons_of_pos (by simp [eKey, e])]
      rfl
    · have e1 : valV ((k', v) :: flat kvs) k = valV (flat kvs) k := valV_neg (p := (k', v)) z
      have e2 : dget (.tup [kp, p] :: es) k = dget es k := by
        unfold dget
        rw [List.find?_cons_of_neg (by simp [eKey, e, z])]
      rcases RelK.get k r with ⟨h1, h2⟩ | ⟨u, q, Oi, Or, h1, h2, h3, h4⟩
      · exact .inl ⟨e1.trans h1, e2.trans h2⟩
      · exact .inr ⟨u, q, Oi, O ++ Or, e1.trans h1, e2.trans h2, h3, perm_rot h4⟩
theorem RelK.put {k : NestedKey} {b : Addr} {kp q : PV} {y : V} {kvs : KEs} {es : List PV} {O : List Addr} (r : RelK P w B H kvs es O) (hk : Rel P w B H (.ref b) kp []) (ek : key? kp = some k) (dk : k.depth ≤ 8) (hy : Rel P w B H y q []) : ∃ Od O', O.Perm (Od ++ O') ∧ RelK P w B H (putC kvs k b y) (dput es k kp q) O' := by
  have iff : (valV (flat kvs) k).isSome = (dget es k).isSome := by
    rcases r.get k with ⟨h1, h2⟩ | ⟨u, q, Oi, Or, h1, h2, _⟩ <;> rw [h1, h2] <;> rfl
  unfold putC dput
  rw [iff]
  split
  · clear iff
    rename_i hh
    clear hh
    have go : ∀ {kvs : KEs} {es : List PV} {O : List Addr}, RelK P w B H kvs es O → ∃ Od O', O.Perm (Od ++ O') ∧ RelK P w B H (kvs.map fun p => if p.1 = k then (p.1, p.2.1, y) else p) (es.map fun e => if eKey e = some k then ePut q e else e) O' := by
      intro kvs es O r
      have : ∀ (n : Nat) {kvs : KEs} {es : List PV} {O : List Addr}, kvs.length = n → RelK P w B H kvs es O → ∃ Od O', O.Perm (Od ++ O') ∧ RelK P w B H (kvs.map fun p => if p.1 = k then (p.1, p.2.1, y) else p) (es.map fun e => if eKey e = some k then ePut q e else e) O' := by
        intro n
        induction n with
        | zero =>
          intro kvs es O l r
          cases r with
          | nil => exact ⟨[], [], .refl _, .nil⟩
          | cons => cases l
        | succ n ih =>
          intro kvs es O l r
          cases r with
          | nil => cases l
          | @cons k' _ _ v p kvs es O1 O2 x e d z r =>
            obtain ⟨Od, O', p1, q1⟩ := ih (Nat.succ.inj l) r
            rw [List.map_cons, List.map_cons]
            by_cases hz : k' = k
            · subst hz
              rw [if_pos rfl, if_pos (show eKey (.tup [_, p]) = some k' from e)]
              refine ⟨O1 ++ Od, O', ?_, .cons (O := []) x e d hy q1⟩
              rw [List.append_assoc]
              exact p1.append_left O1
            · rw [if_neg hz, if_neg (show ¬ eKey (.tup [_, p]) = some k from fun h => hz (Option.some.inj (e.symm.trans h)))]
              exact ⟨Od, O1 ++ O', perm_rot p1, .cons x e d z q1⟩
      exact this _ rfl r
    exact go r
  · refine ⟨[], O ++ ([] ++ []), by simp, ?_⟩
    have app : ∀ (n : Nat) {kvs : KEs} {es : List PV} {O : List Addr}, kvs.length = n → RelK P w B H kvs es O → RelK P w B H (kvs ++ [(k, b, y)]) (es ++ [.tup [kp, q]]) (O ++ ([] ++ [])) := by
      intro n
      induction n with
      | zero =>
        intro kvs es O l r
        cases r with
        | nil => exact .cons hk ek dk hy .nil
        | cons => cases l
      | succ n ih =>
        intro kvs es O l r
        cases r with
        | nil => cases l
        | cons x e d z r =>
          have := ih (Nat.succ.inj l) r
          rw [List.append_assoc]
          exact .cons x e d z this
    exact app _ rfl r
end
theorem Rel.dcu_at {P : Program} {w : World} {B : Addr → Prop} {H : Hp} {v : V} {o : Bool} {es : List PV} {O : List Addr} (r : Rel P w B H v (.dct o true es) O) : ∃ a kvs, v = .ref a ∧ KD P w H a kvs ∧ kvs.length = es.length ∧ ∃ O', RelK P w B H kvs es O' := by
  cases r with
  | dcuF n h r => exact ⟨_, _, rfl, ⟨h, r.keys⟩, r.len, _, r⟩
  | dcuO h r => exact ⟨_, _, rfl, ⟨.inl h, r.keys⟩, r.len, _, r⟩
section
variable {c : Bd}
/-! ### {} and {k: v}, tuples for keys -/
def dnew (τ : En) : Rs (PV × En) := .ok (.dct true true [], τ)
theorem te_dnew : ME c (tCNew c.P c.w) dnew := fun σ τ hv hp H Q s k p np => k _ _ (Stt.made (xs := []) (ps := []) true _ _ (by simpa using s) s.len np fun B' Ob _ r => by
  cases r
  exact .dcuO upd_same .nil)
/-- a key's own number -/
def kOf (p : PV) : Option NestedKey := match p with
  | .tup _ => match key? p with
    | some k => if k.depth ≤ 8 then some k else none
    | none => none
  | _ => none
theorem kOf_eq {p : PV} {k : NestedKey} (h : kOf p = some k) : key? p = some k ∧ k.depth ≤ 8 ∧ ∃ ps, p = .tup ps := by
  unfold kOf at h
  split at h
  · split at h
    · rename_i e
      split at h
      · rename_i d
        cases h
        exact ⟨e, d, _, rfl⟩
      · cases h
    · cases h
  · cases h
theorem Rel.key {P : Program} {w : World} {B : Addr → Prop} {H : Hp} {v : V} {p : PV} {O : List Addr} {k : NestedKey} (r : Rel P w B H v p O) (h : kOf p = some k) : ∃ b, v = .ref b ∧ KA H b k ∧ O = [] := by
  obtain ⟨e, d, ps, rfl⟩ := kOf_eq h
  obtain ⟨a, xs, rfl, _, _⟩ := r.tup_at
  exact ⟨a, rfl, ⟨r.kv e, d⟩, r.nil_of (fz_key e)⟩
def dget2 (d y x : PV) : Option PV := match d with
  | .dct _ true es => match kOf y with
    | some k => match dget es k with
      | some p => if isFz p = true then some p else none
      | none => some x
    | none => none
  | _ => none
/-- d.get(k, x), d a slot -/
def dg2 (i : Nat) (fy fx : En → Rs (PV × En)) (τ : En) : Rs (PV × En) := match τ[i]? with
  | some (.dct _ true _) => bnd (fy τ) fun y => bnd (fx y.2) fun x => match x.2[i]? with
    | some d => opt (dget2 d y.1 x.1) x.2
    | none => .no
  | _ => .no
theorem te_dg2 {ty tx : TE} {fy fx : En → Rs (PV × En)} (i : Nat) (hy : ME c ty fy) (hx : ME c tx fx) : ME c (tCGet2 c.P c.w (tVar i) ty tx) (dg2 i fy fx) := fun σ τ hv hp H Q s k => by
  unfold dg2 at k
  split at k
  · rename_i o es e0
    obtain ⟨v, hs, s0⟩ := s.move e0 (fun z => nomatch z)
    obtain ⟨B, O, r0⟩ := s0.top
    obtain ⟨a, kv0, rfl, d0, _⟩ := r0.dcu_at
    refine ⟨_, hs, a, kv0, rfl, d0, hy σ τ _ _ H _ s (aft_mono (aft_bnd k) fun y k yv H1 s1 => hx σ y.2 _ _ H1 _ s1 (aft_mono (aft_bnd k) fun x k xv H2 s2 => ?_))⟩
    cases e2 : x.2[i]? with
    | none => rw [e2] at k; exact k.elim
    | some d =>
      rw [e2] at k
      simp only at k
      cases eg : dget2 d y.1 x.1 with
      | none => rw [eg] at k; exact k.elim
      | some z =>
        rw [eg] at k
        unfold dget2 at eg
        split at eg
        · rename_i o' es'
          split at eg
          · rename_i kk ek
            obtain ⟨v', hs', s3⟩ := s2.move e2 (fun z => nomatch z)
            rw [hs] at hs'
            cases hs'
            have l := s.len
            have s4 : Stt c σ (x.2.set i .un) (hv ++ [yv, xv, .ref a]) (hp ++ [y.1, x.1, .dct o' true es']) H2 := by simpa using s3
            obtain ⟨B, O, r, back⟩ := s4.open l
            cases r with
            | @cons _ _ _ _ Oy _ ry r =>
              cases r with
              | @cons _ _ _ _ Ox _ rx r =>
                have rd := r.one'
                rename_i Od
                obtain ⟨b, rfl, ka, eo⟩ := ry.key ek
                subst eo
                obtain ⟨_, kvs, e1, kd, _, O', rk⟩ := rd.dcu_at
                cases e1
                have fin : ∀ {u : V}, Stt c σ (x.2.set i .un) (hv ++ [u, .ref a]) (hp ++ [z, .dct o' true es']) H2 → Stt c σ x.2 (hv ++ [u]) (hp ++ [z]) H2 := fun {u} s5 => by
                  have s5 : Stt c σ (x.2.set i .un) (hv ++ [u] ++ [.ref a]) (hp ++ [z] ++ [.dct o' true es']) H2 := by simpa using s5
                  have li := (List.getElem?_eq_some_iff.mp e2).1
                  have := s5.back (by rw [List.getElem?_set_self li]) hs
                  rwa [set_back e2] at this
                refine ⟨b, kk, kvs, rfl, kd, ka, ?_⟩
                rcases rk.get kk with ⟨h1, h2⟩ | ⟨u, q, Oi, Or, h1, h2, h3, h4⟩
                · rw [h2] at eg
                  cases eg
                  rw [h1]
                  refine k _ _ (fin (back [xv, .ref a] [x.1, .dct o' true es'] [] (Ox ++ Od) (by simp) (.cons rx r)))
                · rw [h2] at eg
                  simp only at eg
                  split at eg
                  · rename_i f
                    cases eg
                    rw [h1]
                    have eo := h3.nil_of (fz_of f)
                    subst eo
                    refine k _ _ (fin (back [u, .ref a] [_, .dct o' true es'] Ox ([] ++ Od) (by simp) (.cons h3 r)))
                  · cases eg
          · cases eg
        · cases eg
  · exact k.elim
def dget1 : Bop := fun d y => match d with
  | .dct _ true es => match kOf y with
    | some k => match dget es k with
      | some p => if isFz p = true then some p else none
      | none => none
    | none => none
  | _ => none
theorem dget1_eq {d y z : PV} (h : dget1 d y = some z) : ∃ o es k, d = .dct o true es ∧ kOf y = some k ∧ dget es k = some z ∧ isFz z = true := by
  unfold dget1 at h
  split at h
  · split at h
    · rename_i e
      split at h
      · rename_i e2
        split at h
        · rename_i f; cases h; exact ⟨_, _, _, rfl, e, e2, f⟩
        · cases h
      · cases h
    · cases h
  · cases h
/-- what d[k] asks, of two values -/
def rCGet (P : Program) (w : World) : R2 := fun x y H2 Q => ∃ (a b : Addr) (c : NestedKey) (kvs : KEs) (v : V), x = .ref a ∧ y = .ref b ∧ KD P w H2 a kvs ∧ KA H2 b c ∧ valV (flat kvs) c = some v ∧ Q v H2
theorem cget_eq (P : Program) (w : World) (td ty : TE) : tCGet P w td ty = tOp (rCGet P w) td ty := rfl
theorem l_dgetB : L2b c (rCGet c.P c.w) dget1 := fun σ τ hv hp H x y p q z Q s e k => by
  obtain ⟨o, es, kk, rfl, ek, eg, f⟩ := dget1_eq e
  have l : hv.length = hp.length := by have := s.len; simpa using this
  have s1 : Stt c σ τ (hv ++ [y, x]) (hp ++ [q, .dct o true es]) H := by simpa using s
  obtain ⟨B, O, r, back⟩ := s1.open l
  cases r with
  | @cons _ _ _ _ Oy _ ry r =>
    have rd := r.one'
    rename_i Od
    obtain ⟨b, rfl, ka, eo⟩ := ry.key ek
    subst eo
    obtain ⟨a, kvs, rfl, kd, _, O', rk⟩ := rd.dcu_at
    rcases rk.get kk with ⟨h1, h2⟩ | ⟨u, q', Oi, Or, h1, h2, h3, h4⟩
    · rw [h2] at eg; cases eg
    · rw [h2] at eg
      cases eg
      have eo := h3.nil_of (fz_of f)
      subst eo
      refine ⟨a, b, kk, kvs, u, rfl, rfl, kd, ka, h1, k u H ?_⟩
      have := back [u, .ref a] [_, .dct o true es] [] ([] ++ Od) (by simp) (.cons h3 r)
      simpa using this
theorem l_dget : L2op c (rCGet c.P c.w) dget1 := fun σ τ hv hp H x y p q z Q s e k => l_dgetB σ τ hv hp H x y p q z Q s.swap e fun v H' s' => k v H' s'.pop
/-- k in d -/
def dinP (neg : Bool) : Bop := fun y d => match d with
  | .dct _ true es => match kOf y with
    | some k => some (.bl (neg != (dget es k).isSome))
    | none => none
  | _ => none
def rCIn (P : Program) (w : World) (neg : Bool) : R2 := fun x y H Q => ∃ (a b : Addr) (c : NestedKey) (kvs : KEs), x = .ref b ∧ y = .ref a ∧ KD P w H a kvs ∧ KA H b c ∧ Q (.bl (neg != (valV (flat kvs) c).isSome)) H
/-- the second thing of two stays at hand -/
def L2c (c : Bd) (r : R2) (g : Bop) : Prop := ∀ σ τ hv hp H x y p q z Q, Stt c σ τ (hv ++ [x] ++ [y]) (hp ++ [p] ++ [q]) H → g p q = some z → (∀ v H', Stt c σ τ (hv ++ [v] ++ [y]) (hp ++ [z] ++ [q]) H' → Q v H') → r x y H Q
theorem l_din {neg : Bool} : L2c c (rCIn c.P c.w neg) (dinP neg) := fun σ τ hv hp H x y p q z Q s e k => by
  unfold dinP at e
  split at e
  · rename_i o es
    split at e
    · rename_i kk ek
      cases e
      have l : hv.length = hp.length := by have := s.len; simpa using this
      have s1 : Stt c σ τ (hv ++ [x, y]) (hp ++ [p, .dct o true es]) H := by simpa using s
      obtain ⟨B, O, r, back⟩ := s1.open l
      cases r with
      | @cons _ _ _ _ Oy _ ry r =>
        have rd := r.one'
        rename_i Od
        obtain ⟨b, rfl, ka, eo⟩ := ry.key ek
        subst eo
        obtain ⟨a, kvs, rfl, kd, _, O', rk⟩ := rd.dcu_at
        have iff : (valV (flat kvs) kk).isSome = (dget es kk).isSome := by
          rcases rk.get kk with ⟨h1, h2⟩ | ⟨u, q, Oi, Or, h1, h2, _⟩ <;> rw [h1, h2] <;> rfl
        refine ⟨a, b, kk, kvs, rfl, rfl, kd, ka, k _ H ?_⟩
        rw [iff]
        have := back [.bl (neg != (dget es kk).isSome), .ref a] [.bl (neg != (dget es kk).isSome), .dct o true es] [] ([] ++ Od) (by simp) (.cons (.bl _) r)
        simpa using this
    · cases e
  · cases e
theorem L2c.l2 {r : R2} {g : Bop} (h : L2c c r g) : L2op c r g := fun σ τ hv hp H x y p q z Q s e k => h σ τ hv hp H x y p q z Q s e fun v H' s' => k v H' s'.pop
/-- .. the second one a slot -/
def opC (g : Bop) (j : Nat) (fa : En → Rs (PV × En)) (τ : En) : Rs (PV × En) := bnd (fa τ) fun a => match a.2[j]? with
  | none => .no
  | some .un => .no
  | some q => opt (g a.1 q) a.2
theorem te_opC {r : R2} {g : Bop} {ta : TE} {fa : En → Rs (PV × En)} (hr : L2c c r g) (j : Nat) (ha : ME c ta fa) : ME c (tOp r ta (tVar j)) (opC g j fa) := fun σ τ hv hp H Q s k => ha σ τ hv hp H _ s (aft_mono (aft_bnd k) fun a k x H1 s1 => by
  split at k
  · exact k.elim
  · exact k.elim
  · rename_i q n e
    obtain ⟨v, hs, s2⟩ := s1.move e (fun z => n z)
    cases eg : g a.1 q with
    | none => rw [eg] at k; exact k.elim
    | some z =>
      rw [eg] at k
      refine ⟨v, hs, hr σ _ hv hp H1 x v a.1 q z Q s2 eg fun u H' s' => k u H' ?_⟩
      have li := (List.getElem?_eq_some_iff.mp e).1
      have := s'.back (by rw [List.getElem?_set_self li]) hs
      rwa [set_back e] at this)
/-- len(d) -/
def gLenD : Uop
  | .dct _ true es => some (.int es.length)
  | _ => none
theorem l_lenD : L1b c (fun x H Q => ∃ (a : Addr) (kvs : KEs), [x] = [V.ref a] ∧ KD c.P c.w H a kvs ∧ Q (.int ((kvs.length : Nat) : Int)) H) gLenD := fun σ τ hv hp H x p z Q s e k => by
  unfold gLenD at e
  split at e
  · cases e
    obtain ⟨B, O, r⟩ := s.top
    obtain ⟨a, kvs, rfl, kd, l, _⟩ := r.dcu_at
    exact ⟨a, kvs, rfl, kd, k _ H (by rw [l]; exact s.add rfl)⟩
  · cases e
/-- d[k] = v (v given up) -/
def dset : Sop := fun d y u => match d with
  | .dct true true es => match kOf y with
    | some k => if fits (es.length + 1) = true then some (.dct true true (dput es k y (fz u))) else none
    | none => none
  | _ => none
theorem ls_dict : LS c (fun o i v H Q => ∃ (a b : Addr) (cc : NestedKey) (kvs : KEs), o = .ref a ∧ i = .ref b ∧ KW c.P c.w H a kvs ∧ KA H b cc ∧ kvs.length < sizeLine ∧ Q (upd H a (keyD c.P c.w a (putC kvs cc b v)))) dset := fun σ τ hv hp H o i v p q u p' Q l s e k => by
  unfold dset at e
  split at e
  · rename_i es
    split at e
    · rename_i kk ek
      split at e
      · rename_i f
        cases e
        have s : Stt c σ τ (hv ++ [o, i, v]) (hp ++ [.dct true true es, q, fz u]) H := by
          have : Stt c σ τ (hv ++ [o, i] ++ [v]) (hp ++ [.dct true true es, q] ++ [u]) H := by simpa using s
          simpa using this.froze
        have top : ∃ B O, Rel c.P c.w B H o (.dct true true es) O := by
          obtain ⟨B, O, r, _⟩ := s.open l
          cases r with
          | cons x r => exact ⟨B, _, x⟩
        obtain ⟨_, _, r0⟩ := top
        obtain ⟨a, _, rfl, _, _⟩ := r0.dcu_at
        obtain ⟨B, Oi, O2, rd, rr, hBa, na, back⟩ := s.openW l fun B O r => by
          cases r with
          | dcuO h r => exact ⟨_, rfl⟩
        cases rr with
        | @cons _ _ _ _ Oy _ ry r =>
          have ru := r.one'
          rename_i Ou
          obtain ⟨b, rfl, ka, eo⟩ := ry.key ek
          subst eo
          have eu := ru.nil_of (fz_fz u)
          subst eu
          cases rd with
          | @dcuO _ kvs _ _ h rk =>
            refine ⟨a, b, kk, kvs, rfl, rfl, ⟨h, rk.keys⟩, ka, by rw [rk.len]; exact fits_lt f, k _ ?_⟩
            have hn : ∀ b' u', H b' = some u' → ¬ B b' → upd H a (keyD c.P c.w a (putC kvs kk b v)) b' = some u' ∧ ¬ B b' := fun b' u' h' n => ⟨(upd_ne (fun e : b' = a => n (e ▸ hBa))).trans h', n⟩
            have kk' : ∀ {O : List Addr}, a ∉ O → ∀ (b' : Addr) (u' : HO), b' ∈ O → H b' = some u' → upd H a (keyD c.P c.w a (putC kvs kk b v)) b' = some u' := fun n b' u' m h' => (upd_ne (fun e : b' = a => n (e ▸ m))).trans h'
            have rk' := rk.go hn (kk' fun m => na (List.mem_append_left _ m))
            have ry' := ry.go hn (kk' (O := []) (by simp))
            have ru' := ru.go hn (kk' (O := []) (by simp))
            obtain ⟨k1, k2, _⟩ := kOf_eq ek
            obtain ⟨Od, O', p1, q1⟩ := rk'.put ry' k1 k2 ru'
            exact back _ _ Od O' (by simpa using p1) (.dcuO upd_same q1)
      · cases e
    · cases e
  · cases e
end
end FL

namespace FL
open PySem PySem.Spec PyProof.Rows L2
/-- a dict comprehension over a walk -/
theorem dc_it {P : Program} {w : World} {J : It} {n : Nat} {G : Hp → Prop} {Y : Nat → Hp → V → Hp → Prop} (wk : L2.Walk J n G Y) {g : TG} {tt : TT} {tk tv : TE} {vs : List Nat} {σ : L2.St} {H1 : Hp} {D : Addr} {Qd : Hp → Prop} (Pv : Nat → Hp → Prop) (h0 : Pv 0 (upd H1 D (keyD P w D []))) (hG : ∀ i H, i ≤ n → Pv i H → G H)
    (hs : ∀ i x H H', i < n → Pv i H → Y i H x H' → g x (wipe σ vs) H' fun σ2 H2 => wipe σ2 vs = wipe σ vs ∧ tt σ2 H2 fun yes H3 =>
      if yes = true then tk σ2 H3 fun y H4 => tv σ2 H4 fun z H5 => ∃ (kvs : KEs) (c : NestedKey) (b : Addr), y = .ref b ∧ KW P w H5 D kvs ∧ KA H5 b c ∧ kvs.length < sizeLine ∧ Pv (i + 1) (upd H5 D (keyD P w D (putC kvs c b z))) else Pv (i + 1) H3) (hd : ∀ H, Pv n H → Qd H) :
    ∃ W : Nat → Nat → Hp → Prop, (∃ m, W 0 m (upd H1 D (keyD P w D []))) ∧ ∀ i m H, W i m H →
      (J.stop i H ∧ Qd H) ∨ (J.go i H ∧ ∃ Nx : Hp → Prop, (∀ H', Nx H' → ∃ m', m' < m ∧ W (i + 1) m' H') ∧ ∀ x H', J.yld i H x H' → g x (wipe σ vs) H' fun σ2 H2 => wipe σ2 vs = wipe σ vs ∧ tt σ2 H2 fun yes H3 =>
        if yes = true then tk σ2 H3 fun y H4 => tv σ2 H4 fun z H5 => ∃ (kvs : KEs) (c : NestedKey) (b : Addr), y = .ref b ∧ KW P w H5 D kvs ∧ KA H5 b c ∧ kvs.length < sizeLine ∧ Nx (upd H5 D (keyD P w D (putC kvs c b z))) else Nx H3) := by
  refine ⟨fun i m H => m = n - i ∧ i ≤ n ∧ Pv i H, ⟨n, by simp, Nat.zero_le _, h0⟩, ?_⟩
  rintro i m H ⟨rfl, hi, p⟩
  have q := hG i H hi p
  by_cases lt : i < n
  · exact .inr ⟨wk.goes i H lt q, Pv (i + 1), fun H' p' => ⟨n - (i + 1), by omega, rfl, lt, p'⟩, fun x H' y => hs i x H H' lt p (wk.yields i H x H' lt q y)⟩
  · have e : i = n := by omega
    subst e
    exact .inl ⟨wk.stops H q, hd H p⟩
section
variable {c : Bd} {σ : L2.St} {τ : En} {hv : List V} {hp : List PV} {H : Hp}
/-- an entry stored in the dict at hand -/
theorem Stt.dput {D : Addr} {es : List PV} {y z : V} {p q : PV} {k : NestedKey} (s : Stt c σ τ (hv ++ [.ref D, y, z]) (hp ++ [.dct true true es, p, fz q]) H) (l : hv.length = hp.length) (ek : kOf p = some k) :
    ∃ kvs b, y = .ref b ∧ KW c.P c.w H D kvs ∧ KA H b k ∧ kvs.length = es.length ∧ Stt c σ τ (hv ++ [.ref D]) (hp ++ [.dct true true (FL.dput es k p (fz q))]) (upd H D (keyD c.P c.w D (putC kvs k b z))) := by
  obtain ⟨B, Oi, O2, rd, rr, hBa, na, back⟩ := s.openW l fun B O r => by
    cases r with
    | dcuO h r => exact ⟨_, rfl⟩
  cases rr with
  | @cons _ _ _ _ Oy _ ry r =>
    have ru := r.one'
    rename_i Ou
    obtain ⟨b, rfl, ka, eo⟩ := ry.key ek
    subst eo
    have eu := ru.nil_of (fz_fz q)
    subst eu
    cases rd with
    | @dcuO _ kvs _ _ h rk =>
      refine ⟨kvs, b, rfl, ⟨h, rk.keys⟩, ka, rk.len, ?_⟩
      have hn : ∀ b' u', H b' = some u' → ¬ B b' → upd H D (keyD c.P c.w D (putC kvs k b z)) b' = some u' ∧ ¬ B b' := fun b' u' h' n => ⟨(upd_ne (fun e : b' = D => n (e ▸ hBa))).trans h', n⟩
      have kk' : ∀ {O : List Addr}, D ∉ O → ∀ (b' : Addr) (u' : HO), b' ∈ O → H b' = some u' → upd H D (keyD c.P c.w D (putC kvs k b z)) b' = some u' := fun n b' u' m h' => (upd_ne (fun e : b' = D => n (e ▸ m))).trans h'
      have rk' := rk.go hn (kk' fun m => na (List.mem_append_left _ m))
      have ry' := ry.go hn (kk' (O := []) (by simp))
      have ru' := ru.go hn (kk' (O := []) (by simp))
      obtain ⟨k1, k2, _⟩ := kOf_eq ek
      obtain ⟨Od, O', p1, q1⟩ := rk'.put ry' k1 k2 ru'
      exact back _ _ Od O' (by simpa using p1) (.dcuO upd_same q1)
def dcF (g : PV → En → Option En) (t : En → Rs (Bool × En)) (fk fv : En → Rs (PV × En)) (vs : List Nat) : List PV → En → List PV → Rs (List PV × En)
  | [], τ, es => .ok (es, wip τ vs)
  | x :: xs, τ, es => match g x (wip τ vs) with
    | none => .no
    | some τ1 => match t τ1 with
      | .ok (false, τ2) => dcF g t fk fv vs xs τ2 es
      | .ok (true, τ2) => match fk τ2 with
        | .ok (p, τ3) => match fv τ3 with
          | .ok (q, τ4) => match kOf p with
            | some k => if fits (es.length + 1) = true then dcF g t fk fv vs xs τ4 (dput es k p (fz q)) else .no
            | none => .no
          | _ => .no
        | _ => .no
      | _ => .no
def vdc (f : En → Rs (List PV × En)) (g : PV → En → Option En) (t : En → Rs (Bool × En)) (fk fv : En → Rs (PV × En)) (vs : List Nat) (τ : En) : Rs (PV × En) := bnd (f τ) fun a => bnd (dcF g t fk fv vs a.1 a.2 []) fun b => .ok (.dct true true b.1, b.2)
theorem wipe_idem : ∀ vs : List Nat, L2.wipe (L2.wipe σ vs) vs = L2.wipe σ vs := fun vs => by
  have wm : ∀ us : List Nat, (∀ i ∈ us, i ∈ vs) → L2.wipe (L2.wipe σ us) vs = L2.wipe σ vs := by
    intro us
    induction us with
    | nil => intro _; rfl
    | cons u us ih => intro h; rw [show L2.wipe σ (u :: us) = (L2.wipe σ us).set u none from rfl, wipe_set (h u List.mem_cons_self), ih fun i m => h i (List.mem_cons_of_mem _ m)]
  exact wm vs fun _ m => m
theorem te_dc {wi : TI} {gg : TG} {tt : TT} {tk tv : TE} {vs : List Nat} {f : En → Rs (List PV × En)} {g : PV → En → Option En} {t : En → Rs (Bool × En)} {fk fv : En → Rs (PV × En)} (hi : MI c wi f) (hg : MG c gg g) (hw : GW gg vs) (gm : GMono gg) (ht : MT c tt t) (hk : ME c tk fk) (hv' : ME c tv fv) (n : ∀ i ∈ vs, c.np i = false) :
    ME c (tDcC c.P c.w wi gg tt tk tv vs) (vdc f g t fk fv vs) := fun σ τ hv hp H Q s k => hi σ τ hv hp H _ s (aft_mono (aft_bnd k) fun r k J ws ps H' s' wl => by
  have k := aft_bnd k
  have l := s.len
  have lw := Stt.lenL l s' (H' := H')
  obtain ⟨G, Y, W, hG, hY⟩ := wl.ex
  intro D nD
  have s0 : Stt c σ r.2 (hv ++ ws ++ [.ref D]) (hp ++ ps ++ [.dct true true []]) (upd H' D (keyD c.P c.w D [])) := Stt.made (xs := []) (ps := []) true _ _ (by simpa using s') s'.len nD fun B' Ob _ r => by
    cases r
    exact .dcuO upd_same .nil
  have s0 := Stt.rotR (vs := []) (ps := []) l lw (by simpa using s0)
  rw [List.append_nil, List.append_nil] at s0
  refine dc_it (n := r.1.length) W (Qd := fun H => Q (.ref D) H) (fun i H => ∃ τ es, Stt c σ (wip τ vs) (hv ++ ([.ref D] ++ ws)) (hp ++ ([.dct true true es] ++ ps)) H ∧ Aft c (· = σ) (dcF g t fk fv vs (r.1.drop i) τ es) (fun b : List PV × En => ∀ v H', Stt c σ b.2 (hv ++ [v]) (hp ++ [PV.dct true true b.1]) H' → Q v H')) ⟨r.2, [], s0.wip1 vs, k⟩ (fun i H _ ⟨τ, es, s, _⟩ => hG σ (wip τ vs) (hv ++ [.ref D]) (hp ++ [.dct true true es]) H (by simp [l]) (by simpa using s)) (fun i x H H' hi ⟨τ, es, s, k⟩ y => ?_) (fun H ⟨τ, es, s, k⟩ => ?_)
  · have hq : r.1[i]? = some r.1[i] := List.getElem?_eq_getElem hi
    have ed : r.1.drop i = r.1[i] :: r.1.drop (i + 1) := List.drop_eq_getElem_cons hi
    rw [ed] at k
    have s1 := hY i H x H' (L2.wipe σ vs) (wip τ vs) (hv ++ [.ref D]) (hp ++ [.dct true true es]) _ (by simp [l]) hq (by simpa using s.wiped n) y
    unfold dcF at k
    cases eg : g r.1[i] (wip τ vs) with
    | none => rw [eg] at k; exact k.elim
    | some τ1 =>
      rw [eg] at k
      simp only at k
      refine gm _ _ _ _ _ (fun σ2 H2 h2 => ?_) (hw x (L2.wipe σ vs) H' _ (hg (L2.wipe σ vs) (wip τ vs) τ1 _ _ x r.1[i] H' (fun σ2 H2 => Stt c σ2 τ1 (hv ++ [.ref D] ++ ws) (hp ++ [.dct true true es] ++ ps) H2) s1 eg fun σ2 H2 s2 => s2))
      obtain ⟨w2, s2⟩ := h2
      have w2' : L2.wipe σ2 vs = L2.wipe σ vs := by rw [w2, wipe_idem]
      refine ⟨w2', ht σ2 τ1 _ _ H2 _ s2 ?_⟩
      cases et : t τ1 with
      | no => rw [et] at k; exact k.elim
      | err x y => rw [et] at k; exact k.elim
      | ok b =>
        obtain ⟨b, τ2⟩ := b
        rw [et] at k
        intro H3 s3
        cases b with
        | false =>
          simp only [Bool.false_eq_true, if_false]
          exact ⟨τ2, es, by simpa using s3.unwipe w2' n, k⟩
        | true =>
          simp only [if_true]
          simp only at k
          refine hk σ2 τ2 _ _ H3 _ s3 ?_
          cases ek : fk τ2 with
          | no => rw [ek] at k; exact k.elim
          | err x y => rw [ek] at k; exact k.elim
          | ok pp =>
            obtain ⟨pp, τ3⟩ := pp
            rw [ek] at k
            intro yv H4 s4
            refine hv' σ2 τ3 _ _ H4 _ s4 ?_
            simp only at k
            cases ev : fv τ3 with
            | no => rw [ev] at k; exact k.elim
            | err x y => rw [ev] at k; exact k.elim
            | ok qq =>
              obtain ⟨qq, τ4⟩ := qq
              rw [ev] at k
              simp only at k
              intro zv H5 s5
              cases eo : kOf pp with
              | none => rw [eo] at k; exact k.elim
              | some kk =>
                rw [eo] at k
                simp only at k
                by_cases ef : fits (es.length + 1) = true
                · rw [if_pos ef] at k
                  have s6 : Stt c σ2 τ4 (hv ++ (ws ++ [.ref D]) ++ [yv, zv]) (hp ++ (ps ++ [.dct true true es]) ++ [pp, fz qq]) H5 := Stt.rotL l lw (by simpa using s5.froze)
                  have s7 : Stt c σ2 τ4 (hv ++ ws ++ [.ref D, yv, zv]) (hp ++ ps ++ [.dct true true es, pp, fz qq]) H5 := by simpa using s6
                  obtain ⟨kvs, b, rfl, kd, ka, lk, s8⟩ := s7.dput (by rw [List.length_append, List.length_append, l, lw]) eo
                  refine ⟨kvs, kk, b, rfl, kd, ka, by rw [lk]; exact fits_lt ef, τ4, dput es kk pp (fz qq), ?_, k⟩
                  have s9 := (Stt.rotR (vs := []) (ps := []) l lw (by simpa using s8)).unwipe w2' n
                  simpa using s9
                · rw [if_neg ef] at k; exact k.elim
  · rw [List.drop_length] at k
    refine k _ H (Stt.drop (ws := ws) (qs := ps) ?_ (by simp [l]))
    simpa using s)
end
end FL

namespace FL
open PySem PySem.Spec PyProof.Rows L2
open PySem.W (dataLe EachIs alike AllAlike Sortable)
open HK (objOk_there each_of_map)
/-! ### what keys are, as data -/
mutual
inductive DT (H : Hp) : V → PyData → Prop
  | non : DT H .non .none
  | bl (b : Bool) : DT H (.bl b) (.bool b)
  | int (i : Int) : DT H (.int i) (.int i)
  | str (x : Str) : DT H (.str x) (.str x)
  | tup {a xs ds} : H a = some (.tup xs) → DTs H xs ds → DT H (.ref a) (.tuple ds)
inductive DTs (H : Hp) : List V → List PyData → Prop
  | nil : DTs H [] []
  | cons {v d vs ds} : DT H v d → DTs H vs ds → DTs H (v :: vs) (d :: ds)
end
section
variable {P : Program} {w : World} {B : Addr → Prop} {H : Hp}
mutual
theorem Rel.dt : ∀ {v : V} {p : PV} {O : List Addr} {k : NestedKey} {d : PyData}, Rel P w B H v p O → key? p = some k → toD p = some d → DT H v d
  | _, _, _, _, _, .un, e, _ => by simp [key?] at e
  | _, _, _, _, _, .non, _, e => by cases e; exact .non
  | _, _, _, _, _, .bl b, _, e => by cases e; exact .bl b
  | _, _, _, _, _, .int i, _, e => by cases e; exact .int i
  | _, _, _, _, _, .str x, _, e => by cases e; exact .str x
  | _, _, _, _, _, .tup n h r, e, e' => by
    obtain ⟨ks, e1, rfl⟩ := Option.map_eq_some_iff.mp e
    obtain ⟨ds, e2, rfl⟩ := Option.map_eq_some_iff.mp e'
    exact .tup h (Rels.dt r e1 e2)
  | _, _, _, _, _, .lstF n h r, e, _ => by simp [key?] at e
  | _, _, _, _, _, .lstO h r, e, _ => by simp [key?] at e
  | _, _, _, _, _, .dctF n h r, e, _ => by simp [key?] at e
  | _, _, _, _, _, .dctO h r, e, _ => by simp [key?] at e
  | _, _, _, _, _, .dcuF n h r, e, _ => by simp [key?] at e
  | _, _, _, _, _, .dcuO h r, e, _ => by simp [key?] at e
  | _, _, _, _, _, .ins n h e1 e2 r, e, _ => by simp [key?] at e
  | _, _, _, _, _, .exc n h e1 e2 r, e, _ => by simp [key?] at e
theorem Rels.dt : ∀ {vs : List V} {ps : List PV} {O : List Addr} {ks : List NestedKey} {ds : List PyData}, Rels P w B H vs ps O → keys? ps = some ks → toDs ps = some ds → DTs H vs ds
  | _, _, _, _, _, .nil, _, e => by cases e; exact .nil
  | _, _, _, _, _, .cons x r, e, e' => by
    obtain ⟨k, e1, e2⟩ := Option.bind_eq_some_iff.mp e
    obtain ⟨ks, e3, rfl⟩ := Option.map_eq_some_iff.mp e2
    obtain ⟨d, f1, f2⟩ := Option.bind_eq_some_iff.mp e'
    obtain ⟨ds, f3, rfl⟩ := Option.map_eq_some_iff.mp f2
    exact .cons (Rel.dt x e1 f1) (Rels.dt r e3 f3)
end
mutual
theorem toD_key : ∀ {p : PV} {k : NestedKey}, key? p = some k → ∃ d, toD p = some d
  | .non, _, _ => ⟨_, rfl⟩
  | .bl _, _, _ => ⟨_, rfl⟩
  | .int _, _, _ => ⟨_, rfl⟩
  | .str _, _, _ => ⟨_, rfl⟩
  | .tup ps, _, h => by
    obtain ⟨ks, e, _⟩ := Option.map_eq_some_iff.mp h
    obtain ⟨ds, e2⟩ := toDs_key e
    exact ⟨.tuple ds, by rw [toD, e2]; rfl⟩
  | .un, _, h => by simp [key?] at h
  | .lst _ _, _, h => by simp [key?] at h
  | .dct _ _ _, _, h => by simp [key?] at h
  | .ins _ _ _, _, h => by simp [key?] at h
  | .exc _ _ _ _, _, h => by simp [key?] at h
theorem toDs_key : ∀ {ps : List PV} {ks : List NestedKey}, keys? ps = some ks → ∃ ds, toDs ps = some ds
  | [], _, _ => ⟨[], rfl⟩
  | p :: ps, _, h => by
    obtain ⟨k, e1, e2⟩ := Option.bind_eq_some_iff.mp h
    obtain ⟨ks, e3, rfl⟩ := Option.map_eq_some_iff.mp e2
    obtain ⟨d, f1⟩ := toD_key e1
    obtain ⟨ds, f2⟩ := toDs_key e3
    exact ⟨d :: ds, by rw [toDs, f1, f2]; rfl⟩
end
end
section
variable {P : Program} {w : World} {H : Hp} {h h' : Heap}
mutual
theorem DT.reads (ok : HOk P w H h) (k : ∀ a o, h.get? a = some o → h'.get? a = some o) : ∀ {v : V} {u : Value} (d : PyData), DT H v d → RelV v u → Reads h' u d []
  | _, _, _, .non, r => by cases r; exact .none
  | _, _, _, .bl b, r => by cases r; exact .bool b
  | _, _, _, .int i, r => by obtain ⟨t, rfl⟩ := r; exact .int _ _
  | _, _, _, .str x, r => by obtain ⟨t, rfl⟩ := r; exact .str _ _
  | _, _, .tuple ds, .tup (a := a) e c, r => by
    cases r
    obtain ⟨_, its, rv, o, h1, h2, n, h3⟩ := (show ObjOk P w H h a (.tup _) from ok a _ e)
    exact .tuple (k _ _ h1) h2 h3 (by simpa using DTs.reads ok k ds c rv)
theorem DTs.reads (ok : HOk P w H h) (k : ∀ a o, h.get? a = some o → h'.get? a = some o) : ∀ {vs : List V} {us : List Value} (ds : List PyData), DTs H vs ds → Vals vs us → ReadsAll h' us ds []
  | _, _, [], .nil, r => by cases r; exact .nil
  | _, _, d :: ds, .cons x y, r => by
    cases r with
    | cons r1 r2 => exact ReadsAll.cons (as := []) (bs := []) (DT.reads ok k d x r1) (DTs.reads ok k ds y r2)
end
end
/-! ### sorted(d) -/
section
variable {X : Cx}
/-- the keys and what they are -/
abbrev KDs := List (Addr × PyData)
def sortA (bs : KDs) : KDs := bs.mergeSort (dataLe false fun b => b.2)
theorem refsA_vals : ∀ l : KDs, Vals (l.map fun b => V.ref b.1) (l.map fun b => Value.ref b.1)
  | [] => .nil
  | _ :: r => .cons rfl (refsA_vals r)
theorem cr_sortedK (hc : X.calm = true) (hu : X.A.units + 64 < cLine) : CallR X (.builtin "sorted") (fun xs H Q => ∃ (a : Addr) (kvs : KEs) (bs : KDs), xs = [.ref a] ∧ KD X.prog X.w H a kvs ∧ bs.map (·.1) = kvs.map (·.2.1) ∧ (∀ b ∈ bs, DT H (.ref b.1) b.2) ∧ AllAlike (bs.map (·.2)) ∧ Sortable (bs.map (·.2)) ∧ (∀ b ∈ bs, b.2.depth ≤ 60) ∧
    ∀ p, H p = none → Q (.ref p) (upd H p (.lst ((sortA bs).map fun b => V.ref b.1)))) := by
  intro pins s σ H xs us Q I r h
  obtain ⟨a, kvs, bs, rfl, d, eb, dt, al, so, dp, q⟩ := h
  obtain ⟨u, rfl, ru⟩ := vals1 r
  cases (show u = Value.ref a from ru)
  obtain ⟨z, hd, ys, rel, o, es, ep, h1, h2, h3, h4, h5, h6⟩ := cd_of I.hok d
  have e1 : kvs.length = ys.length := Paired.length rel
  have e2 : es.size = ys.length := by rw [← Array.length_toList, h4, List.length_map]
  have lb : bs.length = kvs.length := by have := congrArg List.length eb; simpa using this
  refine (PySem.Calls.call_function_entry PyProof.Rows.kind_sorted PyProof.Rows.plain_sorted PyProof.Rows.entry_sorted (PyProof.Rows.args_sorted1 _)) ?_
  unfold Builtin.«sorted»
  refine wpAny_bind (m := checkCount "sorted" 1 1 1) (wpAny_pure (wpAny_bind (PySem.W.kdu_collect (A := X.A.in1) (KdlSrc.rawDict (es := es) (ep := ep) hd) (I.ok.hd hc) ⟨o, h1, h2, h3⟩ (by omega) fun h' tk acc hk hacc => ?_)))
  have ea : acc.toList = bs.map fun b => Value.ref b.1 := by
    have eb' : (bs.map fun b => Value.ref b.1) = kvs.map fun q => Value.ref q.2.1 := by
      have := congrArg (List.map Value.ref) eb
      rw [List.map_map, List.map_map] at this
      exact this
    rw [eb']
    have es_at : ∀ j (hj : j < es.size), ∃ p, kvs[j]? = some p ∧ es[j].key = Value.ref p.2.1 := fun j hj => by
      have hy : ys[j]? = some (ys[j]'(by omega)) := List.getElem?_eq_getElem (by omega)
      have he : es.toList[j]? = some (entryOfKey (nestedKind X.prog X.w) (ys[j]'(by omega))) := by rw [h4, List.getElem?_map, hy]; rfl
      rw [Array.getElem?_toList, Array.getElem?_eq_getElem hj] at he
      obtain ⟨p, hp, r1⟩ := HK.Paired.get' rel hy
      refine ⟨p, hp, ?_⟩
      rw [Option.some.inj he]
      show Value.ref _ = _
      rw [r1.2.1]
    refine List.ext_getElem? fun j => ?_
    rw [Array.getElem?_toList, List.getElem?_map]
    by_cases hj : j < es.size
    · obtain ⟨p, hp, he⟩ := es_at j hj
      have hja : j < acc.size := by rw [hacc.1]; exact hj
      obtain ⟨_, hv⟩ := hacc.2 j acc[j] (Array.getElem?_eq_getElem hja)
      rw [hp, Array.getElem?_eq_getElem hja, hv, he]
      rfl
    · rw [Array.getElem?_eq_none (by rw [hacc.1]; omega), List.getElem?_eq_none (by omega)]
      rfl
  have hl : acc.toList.length = bs.length := by rw [ea, List.length_map]
  refine wpAny_bind (wpAny_newList ?_ (by omega))
  have hlist : (h'.push { cls := .type "list", data := .seq acc.toList.toArray }).get? h'.objs.size = some (seqObj "list" acc.toList.toArray 0) := Heap.get?_push_size _ rfl
  have old : ∀ b u, s.heap.get? b = some u → (h'.push { cls := .type "list", data := .seq acc.toList.toArray }).get? b = some u := fun b u e => Heap.get?_push_of_some _ (hk b u e)
  have hnone : s.heap.get? h'.objs.size = none := by
    cases e : s.heap.get? h'.objs.size with
    | none => rfl
    | some o => exact absurd (Heap.lt_size (hk _ _ e)) (Nat.lt_irrefl _)
  have er : EachIs (fun v b => ∃ as, Reads (h'.push { cls := .type "list", data := .seq acc.toList.toArray }) v b.2 as ∧ h'.objs.size ∉ as) acc.toList bs := by
    have z1 : ∀ b ∈ bs, ∃ as, Reads (h'.push { cls := .type "list", data := .seq acc.toList.toArray }) (.ref b.1) b.2 as ∧ h'.objs.size ∉ as := fun b hb => ⟨[], (dt b hb).reads I.hok old b.2 rfl, by simp⟩
    generalize (h'.push { cls := .type "list", data := .seq acc.toList.toArray }) = hh at z1 ⊢
    rw [ea]
    have := each_of_map (R := fun v b => ∃ as, Reads hh v b.2 as ∧ h'.objs.size ∉ as) (f := fun b : Addr × PyData => Value.ref b.1) (g := fun b => b) bs z1
    rwa [List.map_id'] at this
  have e0 : EachIs (fun v (b : Addr × PyData) => v = Value.ref b.1) acc.toList bs := by
    rw [ea]
    have := each_of_map (R := fun v b => v = Value.ref b.1) (f := fun b : Addr × PyData => Value.ref b.1) (g := fun b => b) bs fun b hb => rfl
    rwa [List.map_id'] at this
  have hL : bs.length ≤ sizeLine := by omega
  refine wpAny_bind (wpAny_holding (PySem.W.list_sort_data (enc := fun b : Addr × PyData => b.2) (A := X.A.in1) hlist e0 er al so hL (fun b hb => ?_) fun out ol oe => ?_))
  · show X.A.units + 1 + 1 + _ < cLine
    have := dp b hb
    omega
  · have eo : out = (sortA bs).map fun b => Value.ref b.1 := HK.each_eq oe
    obtain ⟨ep', he'⟩ := PyProof.Rows.sortedHeap_at (vs := acc.toList) (out := List.toArray out) hlist
    have hn : H h'.objs.size = none := by
      cases e : H h'.objs.size with
      | none => rfl
      | some o =>
        obtain ⟨u, hu⟩ := objOk_there (I.hok _ _ e)
        rw [hnone] at hu
        cases hu
    refine wpAny_pure ⟨_, rfl, .ref _, upd H h'.objs.size (.lst ((sortA bs).map fun b => V.ref b.1)), ?_, rfl, q _ hn⟩
    refine I.laidN (t' := tk) (fun b u e => ?_) hnone hn ⟨?_, out, ep', ?_, he'⟩
    · have lt : b < h'.objs.size := Heap.lt_size (hk b u e)
      rw [PyProof.Rows.sortedHeap_old (b := b) (Nat.ne_of_lt lt) (by rw [size_push']; exact Nat.lt_succ_of_lt lt)]
      exact old b u e
    · rw [List.length_map]
      unfold sortA
      rw [List.length_mergeSort]
      exact hL
    · rw [eo]
      exact refsA_vals _
end
/-! lifted -/
def eK : PV → PV
  | .tup [k, _] => k
  | _ => .un
section
variable {c : Bd}
theorem RelK.ks {P : Program} {w : World} {B : Addr → Prop} {H : Hp} : ∀ {kvs : KEs} {es : List PV} {O : List Addr}, RelK P w B H kvs es O → Rels P w B H (kvs.map fun q => V.ref q.2.1) (es.map eK) [] ∧ (∀ p ∈ es.map eK, ∃ k, key? p = some k)
  | _, _, _, .nil => ⟨.nil, fun p hp => (List.not_mem_nil hp).elim⟩
  | _, _, _, .cons x e d _ r => by
    obtain ⟨a, b⟩ := RelK.ks r
    refine ⟨.cons (O := []) (O' := []) x a, fun p hp => ?_⟩
    rcases List.mem_cons.mp hp with z | z
    · subst z; exact ⟨_, e⟩
    · exact b p z
theorem ksize {es : List PV} (h : ∀ p ∈ es, ∃ k, key? p = some k) : fzs es = es := by
  induction es with
  | nil => rfl
  | cons p es ih =>
    obtain ⟨k, e⟩ := h p List.mem_cons_self
    rw [fzs, fz_key e, ih fun q hq => h q (List.mem_cons_of_mem _ hq)]
def gSortedD : Uop
  | .dct _ true es => match toDs (es.map eK) with
    | some ds => if (alikeB ds && sortB ds && ds.all (fun d => decide (d.depth ≤ 60))) = true then some (.lst true (sortP (es.map eK))) else none
    | none => none
  | _ => none
theorem l_sortedD : L1b c (fun x H Q => ∃ (a : Addr) (kvs : KEs) (bs : KDs), [x] = [V.ref a] ∧ KD c.P c.w H a kvs ∧ bs.map (·.1) = kvs.map (·.2.1) ∧ (∀ b ∈ bs, DT H (.ref b.1) b.2) ∧ AllAlike (bs.map (·.2)) ∧ Sortable (bs.map (·.2)) ∧ (∀ b ∈ bs, b.2.depth ≤ 60) ∧
    ∀ p, H p = none → Q (.ref p) (upd H p (.lst ((sortA bs).map fun b => V.ref b.1)))) gSortedD := fun σ τ hv hp H x p z Q s e k => by
  unfold gSortedD at e
  split at e
  · rename_i o es
    split at e
    · rename_i ds ed
      split at e
      · rename_i f
        cases e
        simp only [Bool.and_eq_true] at f
        obtain ⟨⟨f1, f2⟩, f3⟩ := f
        have l := s.lenT
        obtain ⟨B, O, r, back⟩ := s.open l
        have rd := r.one'
        obtain ⟨a, kvs, rfl, kd, lk, O', rk⟩ := rd.dcu_at
        obtain ⟨ks, kk⟩ := rk.ks
        have em : (es.map eK).map dOf = ds := toDs_map ed
        have lds : ds.length = kvs.length := by rw [← em, List.length_map, List.length_map, lk]
        have m1 : ((kvs.map (·.2.1)).zip ds).map (·.1) = kvs.map (·.2.1) := List.map_fst_zip (by rw [List.length_map, lds]; exact Nat.le_refl _)
        have m2 : ((kvs.map (·.2.1)).zip ds).map (·.2) = ds := HK.zip_snd (by rw [List.length_map, lds])
        refine ⟨a, kvs, (kvs.map (·.2.1)).zip ds, rfl, kd, m1, fun b hb => ?_, by rw [m2]; exact alikeB_ok f1, by rw [m2]; exact sortB_ok f2, fun b hb => ?_, fun D nD => k _ _ ?_⟩
        · obtain ⟨i, hi⟩ := List.mem_iff_getElem?.mp hb
          obtain ⟨h1, h2⟩ := List.getElem?_zip_eq_some.mp hi
          rw [← em, List.getElem?_map] at h2
          obtain ⟨q, hq, e2⟩ := Option.map_eq_some_iff.mp h2
          obtain ⟨v, hv, rv⟩ := ks.get hq
          rw [List.getElem?_map] at h1 hv
          obtain ⟨q1, hq1, e3⟩ := Option.map_eq_some_iff.mp h1
          rw [hq1] at hv
          cases hv
          obtain ⟨k', ek⟩ := kk q (List.mem_of_getElem? hq)
          obtain ⟨d, ed'⟩ := toD_key ek
          have : dOf q = d := by unfold dOf; rw [ed']; rfl
          rw [← e3, ← e2, this]
          exact rv.dt ek ed'
        · have : b.2 ∈ ds := by rw [← m2]; exact List.mem_map.mpr ⟨b, hb, rfl⟩
          exact of_decide_eq_true (List.all_eq_true.mp f3 _ this)
        · have srt := ks.sort
          rw [em] at srt
          have e5 : (((kvs.map fun q => V.ref q.2.1).zip ds).mergeSort (dataLe false fun b => b.2)).map (·.1) = (sortA ((kvs.map (·.2.1)).zip ds)).map fun b => V.ref b.1 := by
            have z1 : (kvs.map fun q => V.ref q.2.1).zip ds = ((kvs.map (·.2.1)).zip ds).map fun q => (V.ref q.1, q.2) := by
              rw [show (kvs.map fun q => V.ref q.2.1) = (kvs.map (·.2.1)).map V.ref by rw [List.map_map]; rfl, List.zip_map_left]
              rfl
            rw [z1]
            have z2 : (((kvs.map (·.2.1)).zip ds).map fun q => (V.ref q.1, q.2)).mergeSort (dataLe false fun b => b.2) = (((kvs.map (·.2.1)).zip ds).mergeSort (dataLe false fun b => b.2)).map fun q => (V.ref q.1, q.2) := by
              exact (List.map_mergeSort (r := dataLe false fun b : Addr × PyData => b.2) (s := dataLe false fun b : V × PyData => b.2) (f := fun q : Addr × PyData => (V.ref q.1, q.2)) (l := (kvs.map (·.2.1)).zip ds) (fun a _ b _ => rfl)).symm
            rw [z2, List.map_map]
            rfl
          rw [e5] at srt
          have s2 : Stt c σ τ (hv ++ ([.ref a] ++ (sortA ((kvs.map (·.2.1)).zip ds)).map fun b => V.ref b.1)) (hp ++ ([.dct o true es] ++ sortP (es.map eK))) H := back _ _ [] (O ++ []) (by simp) ((Rels.one rd).append srt)
          have s3 : Stt c σ τ (hv ++ [.ref a] ++ (sortA ((kvs.map (·.2.1)).zip ds)).map fun b => V.ref b.1) (hp ++ [.dct o true es] ++ sortP (es.map eK)) H := by simpa using s2
          exact (s3.newL (by simp [l]) nD).swap
      · cases e
    · cases e
  · cases e
end
end FL

namespace FL
open PySem PySem.Spec PyProof.Rows L2
/-! ### either of two rules -/
section
variable {X : Cx}
theorem opR_or {f : Value → Value → Sem Value} {r r' : R2} (h : OpR X f r) (h' : OpR X f r') : OpR X f (fun x y H Q => r x y H Q ∨ r' x y H Q) := by
  intro pins s σ H x y v u Q I rx ry q
  rcases q with q | q
  · exact h pins s σ H x y v u Q I rx ry q
  · exact h' pins s σ H x y v u Q I rx ry q
theorem callR_or {f : Value} {r r' : List V → Hp → VK → Prop} (h : CallR X f r) (h' : CallR X f r') : CallR X f (fun xs H Q => r xs H Q ∨ r' xs H Q) := by
  intro pins s σ H xs us Q I rx q
  rcases q with q | q
  · exact h pins s σ H xs us Q I rx q
  · exact h' pins s σ H xs us Q I rx q
theorem mtR_or {id : String} {r r' : V → List V → Hp → VK → Prop} (h : MtR X id r) (h' : MtR X id r') : MtR X id (fun x xs H Q => r x xs H Q ∨ r' x xs H Q) := by
  intro pins s σ H x xs v us Q I rx rs q
  rcases q with q | q
  · exact h pins s σ H x xs v us Q I rx rs q
  · exact h' pins s σ H x xs v us Q I rx rs q
theorem pi_or {tg iter : Expr} {wi wi' : TI} (h : PI X tg iter wi) (h' : PI X tg iter wi') : PI X tg iter (fun σ H R => wi σ H R ∨ wi' σ H R) := ⟨fun pins s σ H R I q => by
  rcases q with q | q
  · exact h.run pins s σ H R I q
  · exact h'.run pins s σ H R I q⟩
theorem pset_or {t t' : TSet} (h : PSet X t) (h' : PSet X t') : PSet X (fun o i v H Q => t o i v H Q ∨ t' o i v H Q) := by
  intro pins s σ H o i v ov iv u Q I r1 r2 r3 q
  rcases q with q | q
  · exact h pins s σ H o i v ov iv u Q I r1 r2 r3 q
  · exact h' pins s σ H o i v ov iv u Q I r1 r2 r3 q
theorem pe_or {e : Expr} {t t' : TE} (h : PE X e t) (h' : PE X e t') : PE X e (fun σ H Q => t σ H Q ∨ t' σ H Q) := ⟨fun pins s σ H Q I q => by
  rcases q with q | q
  · exact h.run pins s σ H Q I q
  · exact h'.run pins s σ H Q I q⟩
end
def orB (g g' : Bop) : Bop := fun p q => match g p q with
  | some z => some z
  | none => g' p q
theorem orB_eq {g g' : Bop} {p q z : PV} (h : orB g g' p q = some z) : g p q = some z ∨ g' p q = some z := by
  unfold orB at h
  split at h
  · rename_i e; cases h; exact .inl e
  · exact .inr h
def orU (g g' : Uop) : Uop := fun p => match g p with
  | some z => some z
  | none => g' p
theorem orU_eq {g g' : Uop} {p z : PV} (h : orU g g' p = some z) : g p = some z ∨ g' p = some z := by
  unfold orU at h
  split at h
  · rename_i e; cases h; exact .inl e
  · exact .inr h
def orL (g g' : Lop) : Lop := fun p => match g p with
  | some z => some z
  | none => g' p
theorem orL_eq {g g' : Lop} {p : List PV} {z : PV} (h : orL g g' p = some z) : g p = some z ∨ g' p = some z := by
  unfold orL at h
  split at h
  · rename_i e; cases h; exact .inl e
  · exact .inr h
def orM (g g' : Mop) : Mop := fun p ps => match g p ps with
  | some z => some z
  | none => g' p ps
theorem orM_eq {g g' : Mop} {p : PV} {ps : List PV} {z : PV × PV} (h : orM g g' p ps = some z) : g p ps = some z ∨ g' p ps = some z := by
  unfold orM at h
  split at h
  · rename_i e; cases h; exact .inl e
  · exact .inr h
section
variable {c : Bd}
theorem l2_or {r r' : R2} {g g' : Bop} (h : L2op c r g) (h' : L2op c r' g') : L2op c (fun x y H Q => r x y H Q ∨ r' x y H Q) (orB g g') := fun σ τ hv hp H x y p q z Q s e k =>
  (orB_eq e).elim (fun e => .inl (h σ τ hv hp H x y p q z Q s e k)) fun e => .inr (h' σ τ hv hp H x y p q z Q s e k)
theorem l2b_or {r r' : R2} {g g' : Bop} (h : L2b c r g) (h' : L2b c r' g') : L2b c (fun x y H Q => r x y H Q ∨ r' x y H Q) (orB g g') := fun σ τ hv hp H x y p q z Q s e k =>
  (orB_eq e).elim (fun e => .inl (h σ τ hv hp H x y p q z Q s e k)) fun e => .inr (h' σ τ hv hp H x y p q z Q s e k)
theorem l1b_or {r r' : V → Hp → VK → Prop} {g g' : Uop} (h : L1b c r g) (h' : L1b c r' g') : L1b c (fun x H Q => r x H Q ∨ r' x H Q) (orU g g') := fun σ τ hv hp H x p z Q s e k =>
  (orU_eq e).elim (fun e => .inl (h σ τ hv hp H x p z Q s e k)) fun e => .inr (h' σ τ hv hp H x p z Q s e k)
theorem lc_or {r r' : List V → Hp → VK → Prop} {g g' : Lop} (h : LC c r g) (h' : LC c r' g') : LC c (fun x H Q => r x H Q ∨ r' x H Q) (orL g g') := fun σ τ hv hp H vs ps z Q l s e k =>
  (orL_eq e).elim (fun e => .inl (h σ τ hv hp H vs ps z Q l s e k)) fun e => .inr (h' σ τ hv hp H vs ps z Q l s e k)
theorem lm_or {r r' : V → List V → Hp → VK → Prop} {g g' : Mop} (h : LM c r g) (h' : LM c r' g') : LM c (fun x xs H Q => r x xs H Q ∨ r' x xs H Q) (orM g g') := fun σ τ hv hp H x vs p ps p' z Q l s e k =>
  (orM_eq e).elim (fun e => .inl (h σ τ hv hp H x vs p ps p' z Q l s e k)) fun e => .inr (h' σ τ hv hp H x vs p ps p' z Q l s e k)
/-! ### what is at hand given up -/
def fzE (f : En → Rs (PV × En)) (τ : En) : Rs (PV × En) := bnd (f τ) fun a => .ok (fz a.1, a.2)
theorem te_fz {t : TE} {f : En → Rs (PV × En)} (h : ME c t f) : ME c t (fzE f) := fun σ τ hv hp H Q s k => h σ τ hv hp H _ s (aft_mono (aft_bnd k) fun a k v H' s' => k v H' s'.froze)
/-! ### strings' items, in the place -/
theorem lix_strB : L2b c rIxS (fzd ixS) := fun σ τ hv hp H x y p q z Q s e k => by
  obtain ⟨e, f⟩ := fzd_eq e
  unfold ixS at e
  split at e
  · rename_i x' i
    split at e
    · rename_i ft
      obtain ⟨ch, h, rfl⟩ := Option.map_eq_some_iff.mp e
      cases s.swap.top_sv rfl
      have s := s.mid
      cases s.top_sv rfl
      exact ⟨_, _, ch, rfl, rfl, fits_ok ft, h, k _ H (s.add rfl)⟩
    · cases e
  · cases e
def ixA : Bop := orB ixL (orB ixT ixS)
def ixAb : Bop := orB (fzd ixL) (orB (fzd ixT) (fzd ixS))
theorem l_ix : L2op c (rIx c.K) ixA := l2_or lix_list (l2_or lix_tup lix_str)
theorem l_ixb : L2b c (rIx c.K) ixAb := l2b_or lix_listB (l2b_or lix_tupB lix_strB)
/-! ### + - * -/
def gAddA : Bop := orB gAdd (orB gAddS gCat)
theorem l_addA : L2op c (fun x y H Q => rI0 (fun i j => .int (i + j)) x y H Q ∨ ((∃ i j, x = .str i ∧ y = .str j ∧ i.length + j.length ≤ sizeLine ∧ Q (.str (i ++ j)) H) ∨ rCat x y H Q)) gAddA := l2_or l_add (l2_or l_addS l_cat)
def gMulA : Bop := orB gMul gRep
theorem l_mulA : L2op c (fun x y H Q => rI CMul (fun i j => .int (i * j)) x y H Q ∨ rRep x y H Q) gMulA := l2_or l_mul l_rep
def gLtA : Bop := orB gLt gLtS
def gLeA : Bop := orB gLe gLeS
def gGtA : Bop := orB gGt gGtS
theorem l_ltA : L2op c (fun x y H Q => rI0 (fun i j => .bl (decide (i < j))) x y H Q ∨ (∃ i j, x = .str i ∧ y = .str j ∧ Q (.bl (decide (i.cps.toList < j.cps.toList))) H)) gLtA := l2_or l_lt l_ltS
theorem l_leA : L2op c (fun x y H Q => rI0 (fun i j => .bl (decide (i ≤ j))) x y H Q ∨ (∃ i j, x = .str i ∧ y = .str j ∧ Q (.bl (!decide (j.cps.toList < i.cps.toList))) H)) gLeA := l2_or l_le l_leS
theorem l_gtA : L2op c (fun x y H Q => rI0 (fun i j => .bl (decide (j < i))) x y H Q ∨ (∃ i j, x = .str i ∧ y = .str j ∧ Q (.bl (decide (j.cps.toList < i.cps.toList))) H)) gGtA := l2_or l_gt l_gtS
def gEqA (ne : Bool) : Bop := orB (gEqS ne) (gEqD ne)
theorem l_eqA : L2op c (fun x y H Q => rEq x y H Q ∨ rEqD c.K x y H Q) (gEqA false) := l2_or l_eq l_eqD
theorem l_neA : L2op c (fun x y H Q => rNe x y H Q ∨ rNeD c.K x y H Q) (gEqA true) := l2_or l_ne l_neD
def gNeg : Uop
  | .int i => some (.int (-i))
  | _ => none
theorem l_neg : L1op c (rU fun i => .int (-i)) gNeg := l1_sc fun p z e => by
  cases p <;> simp only [gNeg, Option.some.injEq, reduceCtorEq] at e <;> subst e
  exact ⟨_, _, rfl, rfl, fun H Q q => ⟨_, rfl, q⟩⟩
/-! ### len, max, min -/
def gLenA : Uop := orU gLen (orU gLenS gLenD)
theorem l_lenA : L1b c (fun x H Q => (∃ p ys, [x] = [V.ref p] ∧ (SqL c.K H p ys ∨ SqT c.K H p ys) ∧ Q (.int ys.length) H) ∨ ((∃ z, [x] = [V.str z] ∧ z.length ≤ sizeLine ∧ Q (.int z.length) H) ∨ (∃ (a : Addr) (kvs : KEs), [x] = [V.ref a] ∧ KD c.P c.w H a kvs ∧ Q (.int ((kvs.length : Nat) : Int)) H))) gLenA := l1b_or l_len (l1b_or l_lenS l_lenD)
def gMaxI : Bop := iop fun i j => .int (if j > i then j else i)
def gMinI : Bop := iop fun i j => .int (if j < i then j else i)
theorem l_maxI : LC c (fun xs H Q => ∃ i j, xs = [.int i, .int j] ∧ Q (.int (if j > i then j else i)) H) (on2 gMaxI) := lc2_sc fun p q z e => by
  obtain ⟨i, j, rfl, rfl, rfl⟩ := iop_eq e
  exact ⟨_, _, _, rfl, rfl, rfl, fun H Q q => ⟨_, _, rfl, q⟩⟩
theorem l_minI : LC c (fun xs H Q => ∃ i j, xs = [.int i, .int j] ∧ Q (.int (if j < i then j else i)) H) (on2 gMinI) := lc2_sc fun p q z e => by
  obtain ⟨i, j, rfl, rfl, rfl⟩ := iop_eq e
  exact ⟨_, _, _, rfl, rfl, rfl, fun H Q q => ⟨_, _, rfl, q⟩⟩
def gMaxA : Lop := orL (on2 gMaxI) (on2 gMaxS)
def gMinA : Lop := orL (on2 gMinI) (on2 gMinS)
theorem l_maxA : LC c (fun xs H Q => (∃ i j, xs = [.int i, .int j] ∧ Q (.int (if j > i then j else i)) H) ∨ (∃ a b, xs = [.str a, .str b] ∧ Q (.str (HK.maxS a b)) H)) gMaxA := lc_or l_maxI l_maxS
theorem l_minA : LC c (fun xs H Q => (∃ i j, xs = [.int i, .int j] ∧ Q (.int (if j < i then j else i)) H) ∨ (∃ a b, xs = [.str a, .str b] ∧ Q (.str (HK.minS a b)) H)) gMinA := lc_or l_minI l_minS
/-! ### sums written out: 10 ** 31 -/
def gPowK : Bop := fun p q => match p, q with
  | .int i, .int j => if (decide (i = 10) && decide (0 ≤ j) && decide (j ≤ 40)) = true then some (.int (i ^ j.toNat)) else none
  | _, _ => none
/-! ### what is walked: a list, a tuple, a text -/
def orI (f f' : En → Rs (List PV × En)) (τ : En) : Rs (List PV × En) := match f τ with
  | .no => f' τ
  | r => r
theorem mi_or {wi wi' : TI} {f f' : En → Rs (List PV × En)} (h : MI c wi f) (h' : MI c wi' f') : MI c (fun σ H R => wi σ H R ∨ wi' σ H R) (orI f f') := fun σ τ hv hp H R s k => by
  unfold orI at k
  cases e : f τ with
  | no => rw [e] at k; exact .inr (h' σ τ hv hp H R s k)
  | err x y => rw [e] at k; exact .inl (h σ τ hv hp H R s (by rw [e]; exact k))
  | ok a => rw [e] at k; exact .inl (h σ τ hv hp H R s (by rw [e]; exact k))
def iseq (f : En → Rs (PV × En)) : En → Rs (List PV × En) := orI (ilst f) (itup f)
theorem mi_seq {t : TE} {f : En → Rs (PV × En)} (h : ME c t f) : MI c (fun σ H R => iList c.K t σ H R ∨ iTup c.K t σ H R) (iseq f) := mi_or (mi_list h) (mi_tup h)
/-! ### a[lo:hi] of a list or a text -/
def orE (f f' : En → Rs (PV × En)) (τ : En) : Rs (PV × En) := match f τ with
  | .no => f' τ
  | r => r
theorem te_orE {t t' : TE} {f f' : En → Rs (PV × En)} (h : ME c t f) (h' : ME c t' f') : ME c (fun σ H R => t σ H R ∨ t' σ H R) (orE f f') := fun σ τ hv hp H R s k => by
  unfold orE at k
  cases e : f τ with
  | no => rw [e] at k; exact .inr (h' σ τ hv hp H R s k)
  | err x y => rw [e] at k; exact .inl (h σ τ hv hp H R s (by rw [e]; exact k))
  | ok a => rw [e] at k; exact .inl (h σ τ hv hp H R s (by rw [e]; exact k))
end
/-! ### tests at the end of a name: what a judge says of data -/
end FL

namespace FL
open PySem PySem.Spec PyProof.Rows L2
/-! ### the rules by name -/
def rLenA (K : PySem.W.Frag) (P : Program) (w : World) : List V → Hp → VK → Prop := fun xs H Q => (∃ p ys, xs = [V.ref p] ∧ (SqL K H p ys ∨ SqT K H p ys) ∧ Q (.int ys.length) H) ∨ ((∃ z, xs = [V.str z] ∧ z.length ≤ sizeLine ∧ Q (.int z.length) H) ∨ (∃ (a : Addr) (kvs : KEs), xs = [V.ref a] ∧ KD P w H a kvs ∧ Q (.int ((kvs.length : Nat) : Int)) H))
theorem cr_lenA {X : Cx} : CallR X (.builtin "len") (rLenA X.K X.prog X.w) := callR_or call_len_seq (callR_or call_len_str FL.call_len_cart)
theorem l_lenR {c : Bd} : L1b c (fun x => rLenA c.K c.P c.w [x]) gLenA := l_lenA
def rEqA (K : PySem.W.Frag) : R2 := fun x y H Q => rEq x y H Q ∨ rEqD K x y H Q
def rNeA (K : PySem.W.Frag) : R2 := fun x y H Q => rNe x y H Q ∨ rNeD K x y H Q
theorem op_eqA {X : Cx} (hu : X.A.units + 64 < cLine) : OpR X (compareOp .Eq) (rEqA X.K) := opR_or op_eq (op_eqD hu)
theorem op_neA {X : Cx} (hu : X.A.units + 64 < cLine) : OpR X (compareOp .NotEq) (rNeA X.K) := opR_or op_ne (op_neD hu)
theorem l_eqR {c : Bd} : L2op c (rEqA c.K) (gEqA false) := l_eqA
theorem l_neR {c : Bd} : L2op c (rNeA c.K) (gEqA true) := l_neA
def rListOf (K : PySem.W.Frag) : List V → Hp → VK → Prop := fun xs H Q => ∃ p ys, xs = [V.ref p] ∧ (SqL K H p ys ∨ SqT K H p ys) ∧ ∀ l, H l = none → Q (.ref l) (upd H l (.lst ys))
theorem cr_listOf {X : Cx} : CallR X (.type "list") (rListOf X.K) := call_list_of
theorem l_listR {c : Bd} : LC c (rListOf c.K) gList := l_list
def rTupOf (K : PySem.W.Frag) : List V → Hp → VK → Prop := fun xs H Q => ∃ p ys, xs = [V.ref p] ∧ ((SqL K H p ys ∧ ∀ l, H l = none → Q (.ref l) (upd H l (.tup ys))) ∨ (SqT K H p ys ∧ Q (.ref p) H))
theorem cr_tupOf {X : Cx} : CallR X (.type "tuple") (rTupOf X.K) := call_tuple_of
theorem l_tupR {c : Bd} : LC c (rTupOf c.K) gTuple := l_tuple
theorem op_inK {X : Cx} (hu : X.A.units + 64 < cLine) : OpR X (compareOp .In) (rCIn X.prog X.w false) := fun pins s σ H x y v u Q I r1 r2 ⟨a, b, c, kvs, e1, e2, d, k, q⟩ =>
  FL.op_in_cart hu pins s σ H x y v u Q I r1 r2 ⟨a, b, c, kvs, e1, e2, d, k, by simpa using q⟩
theorem op_notInK {X : Cx} (hu : X.A.units + 64 < cLine) : OpR X (compareOp .NotIn) (rCIn X.prog X.w true) := fun pins s σ H x y v u Q I r1 r2 ⟨a, b, c, kvs, e1, e2, d, k, q⟩ =>
  FL.op_notIn_cart hu pins s σ H x y v u Q I r1 r2 ⟨a, b, c, kvs, e1, e2, d, k, by simpa using q⟩
/-- a def of the text that stands in the module -/
structure D1 (K : PySem.W.Frag) (mg : Str → Option Value) (x : Str) (st : Stmt) (ps : List Str) (f : Addr) (fd : FuncData) : Prop where
  g : mg x = some (.ref f)
  F : Fun K x x st f fd
  b : Binds K fd ps []
theorem mt_never {X : Cx} {id : String} : MtR X id fun _ _ _ _ => False := fun _ _ _ _ _ _ _ _ _ _ _ _ h => h.elim
section
variable {c : Bd}
theorem np1 {i : Nat} (h : c.np i = false) : ∀ j ∈ [i], c.np j = false := fun j m => by
  cases List.mem_singleton.mp m; exact h
theorem np2 {i i2 : Nat} (h : c.np i = false) (h2 : c.np i2 = false) : ∀ j ∈ [i, i2], c.np j = false := fun j m => by
  rcases List.mem_cons.mp m with m | m
  · cases m; exact h
  · exact np1 h2 j m
theorem np3 {i i2 i3 : Nat} (h : c.np i = false) (h2 : c.np i2 = false) (h3 : c.np i3 = false) : ∀ j ∈ [i, i2, i3], c.np j = false := fun j m => by
  rcases List.mem_cons.mp m with m | m
  · cases m; exact h
  · exact np2 h2 h3 j m
def gNever : Mop := fun _ _ => none
theorem lm_never : LM c (fun _ _ _ _ => False) gNever := fun σ τ hv hp H x vs p ps p' z Q l s e k => nomatch e
/-! ### 10 ** 31 -/
def cPow (i j : Int) : Bool := decide (0 ≤ j ∧ j ≤ 1000 ∧ i.natAbs < 2 ^ 64)
def gPow : Bop := iopC cPow fun i j => .int (i ^ j.toNat)
theorem l_pow : L2op c (rI CPow fun i j => .int (i ^ j.toNat)) gPow := l_intC fun i j h => by
  have z : 0 ≤ j ∧ j ≤ 1000 ∧ i.natAbs < 2 ^ 64 := of_decide_eq_true h
  exact ⟨z.1, by omega, z.2.2⟩
/-! ### isinstance(x, (T, T')) -/
theorem kitAny2 {K : PySem.W.Frag} {t u u' : Value} {b b' : Bool} (h : PySem.W.kitOne K t u = some b) (h' : PySem.W.kitOne K t u' = some b') : PySem.W.kitAny K t [u, u'] = some (b || b') := by
  subst_vars
  refine kitAny_cons h (fun z => kitAny_cons h' (fun z' => ?_) fun z' => ?_) fun z => ?_
  · rw [z, z']; rfl
  · rw [z, z']; rfl
  · rw [z]; rfl
def isi2 (T T' : String) (f : En → Rs (PV × En)) (τ : En) : Rs (PV × En) := bnd (f τ) fun a => match tyP a.1 with
  | some n => .ok (.bl (kb n T || kb n T'), a.2)
  | none => .no
theorem te_isi2 {T T' : String} {t : TE} {f : En → Rs (PV × En)} (h : ME c t f) (hT : kbT T = true := by decide) (hT' : kbT T' = true := by decide) : ME c (tCB (rIsiT c.K) (tCons t (tCons (tTup (tCons (tC (.ty T)) (tCons (tC (.ty T')) tNil))) tNil))) (isi2 T T' f) := fun σ τ hv hp H Q s k => h σ τ hv hp H _ s (aft_mono (aft_bnd k) fun a k v H1 s1 => by
  cases e : tyP a.1 with
  | none => rw [e] at k; exact k.elim
  | some n =>
    rw [e] at k
    obtain ⟨B, O, r⟩ := s1.top
    have ty := r.ty (K := c.K) e
    refine ⟨(by decide : (2 : Nat) ≤ sizeLine), fun q nq => ?_⟩
    have sm : Same H1 (upd H1 q (.tup [.ty T, .ty T'])) := HK.Same.new nq
    have s2 := s1.same sm
    obtain ⟨B2, O2, r2⟩ := s2.top
    refine ⟨v, q, _, _, _, kb n T || kb n T', rfl, upd_same, .cons (.ty T) (.cons (.ty T') .nil), r2.ty e, ?_, k _ _ (s2.pop.sc rfl)⟩
    exact kitAny2 (kit_ty (kb_ok e hT)) (kit_ty (kb_ok e hT')))
/-! ### x.pop(i), x.extend(y) -/
def gPop : Mop := fun p ps => match p, ps with
  | .lst true xs, [.int i] => if (decide (0 ≤ i) && decide (i < 2 ^ 63)) = true then (xs[i.toNat]?).bind fun y => if isFz y = true then some (.lst true (xs.eraseIdx i.toNat), y) else none else none
  | _, _ => none
theorem Rels.popAt {P : Program} {w : World} {B : Addr → Prop} {H : Hp} : ∀ {vs : List V} {ps : List PV} {O : List Addr} {i : Nat} {p : PV}, Rels P w B H vs ps O → ps[i]? = some p → ∃ v Oi O', vs[i]? = some v ∧ Rel P w B H v p Oi ∧ O.Perm (Oi ++ O') ∧ Rels P w B H (vs.eraseIdx i) (ps.eraseIdx i) O'
  | _, _, _, i, p, .nil, h => by simp at h
  | _, _, _, 0, p, .cons (v := v) (O := O) (O' := O') x r, h => by
    simp only [List.getElem?_cons_zero, Option.some.injEq] at h
    subst h
    exact ⟨v, O, O', rfl, x, .refl _, r⟩
  | _, _, _, i + 1, p, .cons (v := v) (O := O) (O' := O') x r, h => by
    obtain ⟨u, Oi, Or, h1, h2, h3, h4⟩ := Rels.popAt (i := i) r (by simpa using h)
    exact ⟨u, Oi, O ++ Or, by simpa using h1, h2, perm_rot h3, .cons x h4⟩
theorem lm_pop : LM c rPopAt gPop := fun σ τ hv hp H x vs p ps p' z Q l s e k => by
  unfold gPop at e
  split at e
  · rename_i xs i
    split at e
    · rename_i f
      obtain ⟨y, hy, e⟩ := Option.bind_eq_some_iff.mp e
      split at e
      · rename_i fy
        cases e
        rw [Bool.and_eq_true, decide_eq_true_eq, decide_eq_true_eq] at f
        have l2 := Stt.lenL l s (H' := H)
        match vs, l2 with
        | [u], _ =>
          have s0 : Stt c σ τ (hv ++ [x] ++ [u]) (hp ++ [.lst true xs] ++ [.int i]) H := by simpa using s
          cases s0.top_sv rfl
          obtain ⟨B, O, r⟩ := s0.pop.top
          obtain ⟨a, ys, rfl, h, lx⟩ := r.lst_at
          have r0 : ∃ Oi, Rels c.P c.w B H ys xs Oi := by
            cases r with
            | lstO h' r => rw [h] at h'; cases h'; exact ⟨_, r⟩
          obtain ⟨Oi, r0⟩ := r0
          obtain ⟨v, _, _, hv', _⟩ := r0.popAt hy
          have li := (List.getElem?_eq_some_iff.mp hy).1
          refine ⟨a, ys, i, i.toNat, v, rfl, rfl, h, by omega, f.2, by rw [lx]; exact PySem.StrLaws.seqIndex_nonneg f.1 (by omega), hv', k v _ ?_⟩

          have s1 : Stt c σ τ (hv ++ [v] ++ [.ref a]) (hp ++ [z] ++ [.lst true xs]) H := by
            rw [List.append_assoc, List.append_assoc]
            refine s0.pop.part l fun B O r => ?_
            cases r.one' with
            | @lstO _ _ _ O h' r =>
              rw [h] at h'
              cases h'
              obtain ⟨v', Oi, O', e1, e2, e3, _⟩ := r.popAt hy
              rw [hv'] at e1
              cases e1
              have eo := e2.nil_of (fz_of fy)
              subst eo
              exact ⟨[], _, .refl _, .cons (O := []) e2 (.one (.lstO h r))⟩
          exact (s1.writeL (ys := []) (qs := []) (by simp [l]) h fun B H' O r => by
            rw [List.append_nil, List.append_nil] at r
            obtain ⟨v', Oi, O', e1, e2, e3, e4⟩ := r.popAt hy
            exact ⟨Oi, O', e3, e4⟩)
      · cases e
    · cases e
  · cases e
end
end FL

namespace FL
open PySem PySem.Spec PyProof.Rows L2
open PySem.W (dataLe EachIs alike AllAlike Sortable)
open HK (objOk_there each_of_map Same.new)
open L2.DX (itemsO itemsO_ok takeT)
/-! ### sorted(d.items()) -/
abbrev EDs := List ((NestedKey × Addr × V) × PyData)
def sortE (bs : EDs) : EDs := bs.mergeSort (dataLe false fun b => b.2)
theorem refs_like {β : Type} : ∀ l : List (Addr × β), Vals (l.map (V.ref ∘ (·.1))) (l.map fun b => Value.ref b.1)
  | [] => .nil
  | _ :: r => .cons rfl (refs_like r)
section
variable {X : Cx}
theorem cr_sortedIt (hc : X.calm = true) (hu : X.A.units + 64 < cLine) : CallR X (.builtin "sorted") (fun xs H Q => ∃ (p a : Addr) (kvs : KEs) (bs : EDs), xs = [.ref p] ∧ H p = some (itemsO p a) ∧ KD X.prog X.w H a kvs ∧ bs.map (·.1) = kvs ∧
    (∀ b ∈ bs, ∃ dk dv, b.2 = .tuple [dk, dv] ∧ FL.DT H (.ref b.1.2.1) dk ∧ FL.DT H b.1.2.2 dv) ∧ AllAlike (bs.map (·.2)) ∧ Sortable (bs.map (·.2)) ∧ (∀ b ∈ bs, b.2.depth ≤ 60) ∧
    ∀ (H' : Hp) (l : Addr) (as : List Addr), Same H H' → H l = none → H' l = some (.lst (as.map V.ref)) → as.length = bs.length → (∀ (j : Nat) (t : Addr) (b : (NestedKey × Addr × V) × PyData), as[j]? = some t → (sortE bs)[j]? = some b → H t = none ∧ H' t = some (.tup [.ref b.1.2.1, b.1.2.2])) → Q (.ref l) H') := by
  intro pins s σ H xs us Q I r h
  obtain ⟨p, a, kvs, bs, rfl, hp, d, eb, dt, al, so, dp, q⟩ := h
  obtain rfl := Vals.ref1 r
  have view : s.heap.IsItemsView p a := (show ObjOk X.prog X.w H s.heap p (itemsO p a) from I.hok p _ hp).1
  obtain ⟨z, hd, es, ep, raw, esz, ent⟩ := cd_raw I.hok d
  have lb : bs.length = kvs.length := by have := congrArg List.length eb; simpa using this
  refine _root_.DT.sortedI (es := es) (ep := ep) (I.ok.hd hc) view raw (by omega) fun h' tk as hk hlt hl G => ?_
  have hL : bs.length ≤ sizeLine := by omega
  have lab : as.length = bs.length := by omega
  have hn : H h'.objs.size = none := I.hok.fresh (Nat.le_of_lt hlt)
  -- each pair
  have pr : ∀ (j : Nat) (t : Addr) (b), as[j]? = some t → bs[j]? = some b → ∃ u, RelV b.1.2.2 u ∧ h'.get? t = some { cls := .type "tuple", data := .seq #[Value.ref b.1.2.1, u] } := by
    intro j t b hj hb
    obtain ⟨e, he, hg⟩ := G.pairs j t hj
    obtain ⟨hje, ee⟩ := Array.getElem?_eq_some_iff.mp he
    obtain ⟨q0, hq, k1, k2⟩ := ent j hje
    have hkv : kvs[j]? = some b.1 := by rw [← eb, List.getElem?_map, hb]; rfl
    rw [hkv] at hq
    cases hq
    rw [ee] at k1 k2
    exact ⟨_, k2, by rw [hg, k1]⟩
  generalize ehp : h'.push { cls := .type "list", data := .seq (as.map Value.ref).toArray } = hP
  have hlist : hP.get? h'.objs.size = some (seqObj "list" (as.map Value.ref).toArray 0) := by rw [← ehp]; exact Heap.get?_push_size _ rfl
  have old' : ∀ b u, h'.get? b = some u → hP.get? b = some u := fun b u e => by rw [← ehp]; exact Heap.get?_push_of_some _ e
  have old : ∀ b u, s.heap.get? b = some u → hP.get? b = some u := fun b u e => old' b u (hk b u e)
  have mem : ∀ x ∈ as.zip bs, ∃ j : Nat, as[j]? = some x.1 ∧ bs[j]? = some x.2 := fun x hx => by
    obtain ⟨j, hj⟩ := List.mem_iff_getElem?.mp hx
    exact ⟨j, List.getElem?_zip_eq_some.mp hj⟩
  have em : as.map Value.ref = (as.zip bs).map fun x => Value.ref x.1 := by
    conv => lhs; rw [← List.map_fst_zip (l₁ := as) (l₂ := bs) (by omega)]
    rw [List.map_map]
    rfl
  have e2 : (as.zip bs).map (·.2) = bs := List.map_snd_zip (by omega)
  have er : EachIs (fun v (x : Addr × (NestedKey × Addr × V) × PyData) => ∃ as', Reads hP v x.2.2 as' ∧ h'.objs.size ∉ as') (as.map Value.ref) (as.zip bs) := by
    have z1 : ∀ x ∈ as.zip bs, ∃ as', Reads hP (.ref x.1) x.2.2 as' ∧ h'.objs.size ∉ as' := fun x hx => by
      obtain ⟨j, h1, h2⟩ := mem x hx
      obtain ⟨dk, dv, e, t1, t2⟩ := dt x.2 (List.mem_of_getElem? h2)
      obtain ⟨u, ru, hg⟩ := pr j x.1 x.2 h1 h2
      refine ⟨[], ?_, by simp⟩
      rw [e]
      exact .tuple (old' _ _ hg) rfl rfl (ReadsAll.cons (as := []) (bs := []) (t1.reads I.hok old dk rfl) (ReadsAll.cons (as := []) (bs := []) (t2.reads I.hok old dv ru) .nil))
    rw [em]
    have := each_of_map (R := fun v (x : Addr × (NestedKey × Addr × V) × PyData) => ∃ as', Reads hP v x.2.2 as' ∧ h'.objs.size ∉ as') (f := fun x : Addr × (NestedKey × Addr × V) × PyData => Value.ref x.1) (g := fun b => b) (as.zip bs) z1
    rwa [List.map_id'] at this
  have e0 : EachIs (fun v (x : Addr × (NestedKey × Addr × V) × PyData) => v = Value.ref x.1) (as.map Value.ref) (as.zip bs) := by
    rw [em]
    have := each_of_map (R := fun v (x : Addr × (NestedKey × Addr × V) × PyData) => v = Value.ref x.1) (f := fun x : Addr × (NestedKey × Addr × V) × PyData => Value.ref x.1) (g := fun b => b) (as.zip bs) fun b hb => rfl
    rwa [List.map_id'] at this
  have ec : (as.zip bs).map (fun x => x.2.2) = bs.map (·.2) := by
    conv => rhs; rw [← e2]
    rw [List.map_map]
    rfl
  have hz : (as.zip bs).length ≤ sizeLine := by rw [List.length_zip]; omega
  refine PySem.W.list_sort_data (s := { s with heap := hP, toks := tk }) (enc := fun x : Addr × (NestedKey × Addr × V) × PyData => x.2.2) (A := X.A.in1) hlist e0 er (by rw [ec]; exact al) (by rw [ec]; exact so) hz (fun x hx => ?_) fun out ol oe => ?_
  · obtain ⟨j, _, h2⟩ := mem x hx
    have := dp x.2 (List.mem_of_getElem? h2)
    show X.A.units + 1 + 1 + _ < cLine
    omega
  · generalize ezs : (as.zip bs).mergeSort (dataLe false fun x : Addr × (NestedKey × Addr × V) × PyData => x.2.2) = zs at oe
    have eo : out = zs.map fun x => Value.ref x.1 := HK.each_eq oe
    have pm : zs.Perm (as.zip bs) := by rw [← ezs]; exact List.mergeSort_perm _ _
    have es2 : sortE bs = zs.map (·.2) := by
      unfold sortE
      conv => lhs; rw [← e2]
      rw [← ezs]
      exact (List.map_mergeSort (r := dataLe false fun x : Addr × (NestedKey × Addr × V) × PyData => x.2.2) (s := dataLe false fun b : (NestedKey × Addr × V) × PyData => b.2) (f := fun x : Addr × (NestedKey × Addr × V) × PyData => x.2) (l := as.zip bs) (fun _ _ _ _ => rfl)).symm
    have lz : zs.length = bs.length := by have := pm.length_eq; rw [List.length_zip] at this; omega
    obtain ⟨ep', he'⟩ := PyProof.Rows.sortedHeap_at (vs := as.map Value.ref) (out := List.toArray out) hlist
    have hns : s.heap.get? h'.objs.size = none := Heap.get?_none_of_le (Nat.le_of_lt hlt)
    have sold : ∀ b u, h'.get? b = some u → (sortedHeap hP h'.objs.size (as.map Value.ref) (List.toArray out)).get? b = some u := fun b u e => by
      have lt : b < h'.objs.size := Heap.lt_size e
      rw [PyProof.Rows.sortedHeap_old (b := b) (Nat.ne_of_lt lt) (by rw [← ehp, size_push']; exact Nat.lt_succ_of_lt lt)]
      exact old' b u e
    have I1 : Inv X pins σ (upd H h'.objs.size (.lst ((zs.map (·.1)).map V.ref))) { s with heap := sortedHeap hP h'.objs.size (as.map Value.ref) (List.toArray out), toks := tk } :=
      I.laidN (t' := tk) (fun b u e => sold b u (hk b u e)) hns hn ⟨by simp only [List.length_map]; omega, out, ep', by rw [eo, List.map_map]; exact refs_like zs, he'⟩
    have nda : as.Nodup := List.Pairwise.imp (fun h => Nat.ne_of_lt h) G.rise
    have ndz : (zs.map (·.1)).Nodup := by
      have : (zs.map (·.1)).Perm as := by
        have := pm.map (·.1)
        rwa [List.map_fst_zip (by omega)] at this
      exact this.nodup_iff.mpr nda
    have ix : ∀ (j : Nat) (t : Addr) (b), (zs.map (·.1))[j]? = some t → (sortE bs)[j]? = some b → ∃ i : Nat, as[i]? = some t ∧ bs[i]? = some b := fun j t b h1 h2 => by
      rw [es2] at h2
      rw [List.getElem?_map] at h1 h2
      obtain ⟨x, hx, rfl⟩ := Option.map_eq_some_iff.mp h1
      rw [hx] at h2
      cases h2
      exact mem x (pm.mem_iff.mp (List.mem_of_getElem? hx))
    obtain ⟨H2, I2, k2, tups⟩ := takeT (P := fun t vs => ∃ (j : Nat) (b : (NestedKey × Addr × V) × PyData), (zs.map (·.1))[j]? = some t ∧ (sortE bs)[j]? = some b ∧ vs = [.ref b.1.2.1, b.1.2.2]) I (zs.map (·.1)) _ I1 ndz fun t ht => by
      obtain ⟨j, hj⟩ := List.mem_iff_getElem?.mp ht
      have lj : j < (sortE bs).length := by
        have := (List.getElem?_eq_some_iff.mp hj).1
        rw [es2]
        simpa using this
      obtain ⟨i, hi, hb⟩ := ix j t _ hj (List.getElem?_eq_getElem lj)
      obtain ⟨u, ru, hg⟩ := pr i t _ hi hb
      have above := G.above t (List.mem_of_getElem? hi)
      have ne : t ≠ h'.objs.size := Nat.ne_of_lt (Heap.lt_size hg)
      refine ⟨Nat.le_of_lt above, ?_, _, ⟨j, _, hj, List.getElem?_eq_getElem lj, rfl⟩, fun H2 => ⟨(show 2 ≤ sizeLine by decide), _, .cons rfl (.cons ru .nil), _, sold _ _ hg, rfl, 0, rfl⟩⟩
      rw [upd_ne ne]
      exact I.hok.fresh (Nat.le_of_lt above)
    refine ⟨.ref _, H2, I2, rfl, q H2 _ (zs.map (·.1)) (fun b o e => k2 b o (by rw [upd_ne (ne_of_none e hn)]; exact e)) hn (k2 _ _ upd_same) (by rw [List.length_map]; exact lz) fun j t b hj hb => ?_⟩
    have ht := List.mem_of_getElem? hj
    obtain ⟨vs, ⟨j', b', hj', hb', ev⟩, hH⟩ := tups t ht
    have ej : j' = j := by
      obtain ⟨l1, g1⟩ := List.getElem?_eq_some_iff.mp hj
      obtain ⟨l2, g2⟩ := List.getElem?_eq_some_iff.mp hj'
      exact (List.getElem?_inj l2 ndz).mp (hj'.trans hj.symm)
    subst ej
    rw [hb] at hb'
    cases hb'
    subst ev
    obtain ⟨i, hi, _⟩ := ix j' t b hj hb
    exact ⟨I.hok.fresh (Nat.le_of_lt (G.above t (List.mem_of_getElem? hi))), hH⟩
/-! ### dict(pairs) -/
theorem pairs_there {H : Hp} {h : Heap} (ok : HOk X.prog X.w H h) : ∀ {ts : List Addr} {kvs : KEs}, ts.length = kvs.length → (∀ (j : Nat) (t : Addr) q, ts[j]? = some t → kvs[j]? = some q → H t = some (.tup [.ref q.2.1, q.2.2])) →
    ∃ ps, KT kvs ps ∧ ps.length = ts.length ∧ ∀ (j : Nat) (t : Addr) p, ts[j]? = some t → ps[j]? = some p → PairAt h t (.ref p.2.1) p.2.2
  | [], [], _, _ => ⟨[], .nil, rfl, fun j t p h => by simp at h⟩
  | [], _ :: _, l, _ => nomatch l
  | _ :: _, [], l, _ => nomatch l
  | t :: ts, q :: kvs, l, hh => by
    obtain ⟨ps, r, lp, k⟩ := pairs_there (h := h) ok (ts := ts) (kvs := kvs) (Nat.succ.inj l) fun j t q h1 h2 => hh (j + 1) t q (by simpa using h1) (by simpa using h2)
    obtain ⟨_, its, rv, o, h1, h2, n, h3⟩ := (show ObjOk X.prog X.w H h t (.tup _) from ok t _ (hh 0 t q rfl rfl))
    cases rv with
    | cons r1 rv =>
      cases rv with
      | @cons _ u _ _ r2 rv =>
        cases rv
        cases r1
        refine ⟨(q.1, q.2.1, u) :: ps, .cons ⟨rfl, rfl, r2⟩ r, by simp [lp], fun j t' p e1 e2 => ?_⟩
        cases j with
        | zero =>
          simp only [List.getElem?_cons_zero, Option.some.injEq] at e1 e2
          subst e1 e2
          exact .inl ⟨o, h1, h2, n, h3⟩
        | succ j => exact k j t' p (by simpa using e1) (by simpa using e2)
theorem KT.keys {kvs : KEs} {ps : List (NestedKey × Addr × Value)} (r : KT kvs ps) : ps.map (·.1) = kvs.map (·.1) ∧ ps.map (·.2.1) = kvs.map (·.2.1) := by
  induction r with
  | nil => exact ⟨rfl, rfl⟩
  | cons h r ih => simp only [List.map_cons, ih.1, ih.2, h.1, h.2.1, and_self]
theorem cr_dictOfK (hc : X.calm = true) (hu : X.A.units + 64 < cLine) : CallR X (.type "dict") (fun xs H Q => ∃ (l : Addr) (ts : List Addr) (kvs : KEs), xs = [.ref l] ∧ H l = some (.lst (ts.map V.ref)) ∧ ts.length = kvs.length ∧
    (∀ (j : Nat) (t : Addr) q, ts[j]? = some t → kvs[j]? = some q → H t = some (.tup [.ref q.2.1, q.2.2])) ∧ (∀ q ∈ kvs, KA H q.2.1 q.1) ∧ (kvs.map (·.1)).Nodup ∧ ∀ D, H D = none → Q (.ref D) (upd H D (keyD X.prog X.w D kvs))) := by
  intro pins s σ H xs us Q I r h
  obtain ⟨l, ts, kvs, rfl, hl, lt, ht, hk, nd, q⟩ := h
  obtain rfl := Vals.ref1 r
  obtain ⟨its, n, rv, hget, hz⟩ := I.lst hl
  have ei : its = ts.map Value.ref := by
    clear hl hget ht q hz lt
    induction ts generalizing its with
    | nil => cases rv; rfl
    | cons t ts ih =>
      cases rv with
      | cons r1 rv => cases r1; rw [ih _ rv]; rfl
  subst ei
  rw [List.length_map] at hz
  obtain ⟨ps, rk, lp, pat⟩ := pairs_there I.hok lt ht
  obtain ⟨k1, k2⟩ := rk.keys
  have nps : (ps.map (·.1)).Nodup := by rw [k1]; exact nd
  have his : ∀ x ∈ ps, (nestedKind X.prog X.w).is s.heap x.1 x.2.1 := fun x hx => by
    obtain ⟨j, hj⟩ := List.mem_iff_getElem?.mp hx
    have e1 := congrArg (·[j]?) k1
    have e2 := congrArg (·[j]?) k2
    simp only [List.getElem?_map, hj, Option.map_some] at e1 e2
    cases eq : kvs[j]? with
    | none => rw [eq] at e1; cases e1
    | some q0 =>
      rw [eq] at e1 e2
      rw [Option.some.inj e1, Option.some.inj e2]
      exact (hk q0 (List.mem_of_getElem? eq)).is I.hok
  have pi : PairItems s.heap (ts.map Value.ref).toArray (fun j => (ts[j]?).getD 0) (ps.map fun p => (Value.ref p.2.1, p.2.2)) := by
    refine ⟨by simp [lp], fun j k v hj => ?_⟩
    rw [List.getElem?_map] at hj
    obtain ⟨p, hp, e⟩ := Option.map_eq_some_iff.mp hj
    cases e
    have lj : j < ts.length := by rw [← lp]; exact (List.getElem?_eq_some_iff.mp hp).1
    have et : ts[j]? = some ts[j] := List.getElem?_eq_getElem lj
    refine ⟨by simp [et], ?_⟩
    show PairAt s.heap ((ts[j]?).getD 0) _ _
    rw [et]
    exact pat j _ p et hp
  refine call_dict_pairsH (knd := nestedKind X.prog X.w) (ps := ps) (PairArg.list l (ts.map Value.ref).toArray (fun j => (ts[j]?).getD 0) (ps.map fun p => (Value.ref p.2.1, p.2.2))) (I.ok.hd hc) (show X.A.in1.in1.units + 8 < cLine by show X.A.units + 1 + 1 + 8 < cLine; omega)
    ⟨⟨_, n, hget, rfl, rfl, rfl⟩, pi⟩ ⟨by simp, fun i key v hr => ?_⟩ (fun h' hk' x hx => ?_) (by simp; omega) fun h' tk hd' hk' => ?_
  · rw [PairRel, List.getElem?_map] at hr
    obtain ⟨p, hp, e⟩ := Option.map_eq_some_iff.mp hr
    cases e
    exact ⟨p.1, p.2.1, hp, rfl⟩
  · exact nestedKind_stays.stays (fun b o vs n e _ => hk' b o (Nat.ne_of_lt (Heap.lt_size e)) (by simp) e) (his x hx)
  · rw [storedAllH_nil_of_nodup ps nps] at hd'
    obtain ⟨o, es, ep, h1, h2, h3, h4, h5, h6⟩ := hd'
    have ne : (s.heap.objs.size == sysModules) = false := by
      exact beq_eq_false_iff_ne.mpr (Ne.symm (Nat.ne_of_lt I.big))
    refine ⟨.ref _, upd H s.heap.objs.size (keyD X.prog X.w s.heap.objs.size kvs), I.laid (t' := tk) (fun b u e => hk' b u (by simp) e) (Nat.le_refl _) ⟨⟨by omega, ne, ps, rk, o, es, ep, h1, h2, h3, h4, h6⟩, ⟨o, h1⟩, keyP_stay⟩, rfl, q _ (I.hok.fresh (Nat.le_refl _))⟩
end
end FL

namespace FL
open PySem PySem.Spec PyProof.Rows L2
open PySem.W (dataLe EachIs alike AllAlike Sortable)
open L2.DX (itemsO itemsO_ok)
def tCItems (P : Program) (w : World) (to : TE) : TE := fun σ H Q => to σ H fun x H1 => ∃ (a : Addr) (kvs : KEs), x = .ref a ∧ KD P w H1 a kvs ∧ ∀ p, H1 p = none → Q (.ref p) (upd H1 p (itemsO p a))
section
variable {X : Cx}
theorem pe_citems {o : Expr} {to : TE} {apos cpos : Pos} (ho : PE X o to) (hbase : attributeBase o "items" X.env (eval o X.env) = eval o X.env := by rfl) (hline : (apos.endLine == cpos.line) = true := by rfl) : PE X (.Call (.Attribute o "items" apos) [] [] cpos) (tCItems X.prog X.w to) := by
  refine ⟨fun pins s σ H Q I h => ?_⟩
  refine wpAny_Call_method0_late hbase hline (thn (ho.run pins s σ H _ I h) fun v s1 ⟨x, H1, I1, r1, a, kvs, ex, kd, q1⟩ => ?_)
  subst ex
  obtain rfl : v = Value.ref a := r1
  obtain ⟨t1, t2, _⟩ := cd_typeIs I1 kd
  exact ⟨"dict", "dict.items", PySem.F.plainAttrs_dict, PySem.F.slot_dict_items, PySem.F.type_dict_items, t1, t2, Calls.callWith_builtin rfl (PySem.evalArgs_none (mt_itemsC pins s1 σ H1 (.ref a) [] (.ref a) [] Q I1 rfl .nil ⟨a, kvs, rfl, rfl, kd, q1⟩))⟩
end
def rListIt (P : Program) (w : World) : List V → Hp → VK → Prop := fun xs H Q => ∃ (p a : Addr) (kvs : KEs), xs = [.ref p] ∧ H p = some (itemsO p a) ∧ KD P w H a kvs ∧
    ∀ (H' : Hp) (l : Addr) (as : List Addr), Same H H' → H l = none → H' l = some (.lst (as.map V.ref)) → as.length = kvs.length → (∀ (j : Nat) (t : Addr) (q : NestedKey × Addr × V), as[j]? = some t → kvs[j]? = some q → H t = none ∧ H' t = some (.tup [.ref q.2.1, q.2.2])) → Q (.ref l) H'
def rSortIt (P : Program) (w : World) : List V → Hp → VK → Prop := fun xs H Q => ∃ (p a : Addr) (kvs : KEs) (bs : EDs), xs = [.ref p] ∧ H p = some (itemsO p a) ∧ KD P w H a kvs ∧ bs.map (·.1) = kvs ∧
    (∀ b ∈ bs, ∃ dk dv, b.2 = .tuple [dk, dv] ∧ FL.DT H (.ref b.1.2.1) dk ∧ FL.DT H b.1.2.2 dv) ∧ AllAlike (bs.map (·.2)) ∧ Sortable (bs.map (·.2)) ∧ (∀ b ∈ bs, b.2.depth ≤ 60) ∧
    ∀ (H' : Hp) (l : Addr) (as : List Addr), Same H H' → H l = none → H' l = some (.lst (as.map V.ref)) → as.length = bs.length → (∀ (j : Nat) (t : Addr) (b : (NestedKey × Addr × V) × PyData), as[j]? = some t → (sortE bs)[j]? = some b → H t = none ∧ H' t = some (.tup [.ref b.1.2.1, b.1.2.2])) → Q (.ref l) H'
def rDictOf (P : Program) (w : World) : List V → Hp → VK → Prop := fun xs H Q => ∃ (l : Addr) (ts : List Addr) (kvs : KEs), xs = [.ref l] ∧ H l = some (.lst (ts.map V.ref)) ∧ ts.length = kvs.length ∧
    (∀ (j : Nat) (t : Addr) q, ts[j]? = some t → kvs[j]? = some q → H t = some (.tup [.ref q.2.1, q.2.2])) ∧ (∀ q ∈ kvs, KA H q.2.1 q.1) ∧ (kvs.map (·.1)).Nodup ∧ ∀ D, H D = none → Q (.ref D) (upd H D (keyD P w D kvs))
section
variable {X : Cx}
theorem cr_listIt (hc : X.calm = true) : CallR X (.type "list") (rListIt X.prog X.w) := call_list_itemsC hc
theorem cr_sortIt (hc : X.calm = true) (hu : X.A.units + 64 < cLine) : CallR X (.builtin "sorted") (rSortIt X.prog X.w) := cr_sortedIt hc hu
theorem cr_dictOf (hc : X.calm = true) (hu : X.A.units + 64 < cLine) : CallR X (.type "dict") (rDictOf X.prog X.w) := cr_dictOfK hc hu
end
section
variable {P : Program} {w : World} {B : Addr → Prop} {H : Hp}
theorem RelK.nilO : ∀ {kvs : KEs} {es : List PV} {O : List Addr}, RelK P w B H kvs es O → isFzs es = true → O = []
  | _, _, _, .nil, _ => rfl
  | _, _, _, .cons x e d y r, h => by
    simp only [isFzs, isFz, Bool.and_eq_true] at h
    rw [y.nil_of (fz_of h.1.2.1), RelK.nilO r h.2]
    rfl
/-- the entries as tuples that stand elsewhere -/
theorem RelK.tups {B' : Addr → Prop} {H' : Hp} (hn : ∀ a o, H a = some o → ¬ B a → H' a = some o ∧ ¬ B' a) : ∀ {kvs : KEs} {es : List PV} {O : List Addr} {as : List Addr}, RelK P w B H kvs es O → isFzs es = true → as.length = kvs.length →
    (∀ (j : Nat) (t : Addr) q, as[j]? = some t → kvs[j]? = some q → ¬ B' t ∧ H' t = some (.tup [.ref q.2.1, q.2.2])) → Rels P w B' H' (as.map V.ref) es []
  | _, _, _, [], .nil, _, _, _ => .nil
  | _, _, _, _ :: _, .nil, _, l, _ => nomatch l
  | _, _, _, [], .cons _ _ _ _ _, _, l, _ => nomatch l
  | _, _, _, t :: as, .cons x e d y r, h, l, k => by
    simp only [isFzs, isFz, Bool.and_eq_true] at h
    have ey := y.nil_of (fz_of h.1.2.1)
    subst ey
    obtain ⟨n0, h0⟩ := k 0 t _ rfl rfl
    refine .cons (O := []) (O' := []) (.tup n0 h0 (.cons (O := []) (O' := []) (x.go hn fun _ _ m => (List.not_mem_nil m).elim) (.cons (O := []) (O' := []) (y.go hn fun _ _ m => (List.not_mem_nil m).elim) .nil))) (RelK.tups hn r h.2 (Nat.succ.inj l) fun j t q h1 h2 => k (j + 1) t q (by simpa using h1) (by simpa using h2))
theorem RelK.go' {B' : Addr → Prop} {H' : Hp} (hn : ∀ a o, H a = some o → ¬ B a → H' a = some o ∧ ¬ B' a) {kvs : KEs} {es : List PV} (r : RelK P w B H kvs es []) : RelK P w B' H' kvs es [] := r.go hn fun _ _ m => (List.not_mem_nil m).elim
theorem RelK.each : ∀ {kvs : KEs} {es : List PV} {O : List Addr}, RelK P w B H kvs es O → O = [] → ∀ x ∈ kvs.zip es, RelK P w B H [x.1] [x.2] []
  | _, _, _, .nil, _, x, m => by simp at m
  | _, _, _, .cons h1 e d h2 r, z, x, m => by
    have z := List.append_eq_nil_iff.mp z
    rw [List.zip_cons_cons] at m
    rcases List.mem_cons.mp m with m | m
    · subst m
      have := RelK.cons h1 e d h2 (RelK.nil (P := P) (w := w) (B := B) (H := H))
      rw [z.1] at this
      exact this
    · exact RelK.each r z.2 x m
theorem RelK.ofEach : ∀ {zs : List ((NestedKey × Addr × V) × PV)}, (∀ x ∈ zs, RelK P w B H [x.1] [x.2] []) → RelK P w B H (zs.map (·.1)) (zs.map (·.2)) []
  | [], _ => .nil
  | x :: zs, h => by
    have r := RelK.ofEach fun y m => h y (List.mem_cons_of_mem _ m)
    obtain ⟨O, eo, h0⟩ : ∃ O, O = [] ∧ RelK P w B H [x.1] [x.2] O := ⟨[], rfl, h x List.mem_cons_self⟩
    obtain ⟨⟨k, b, v⟩, q⟩ := x
    cases h0 with
    | cons h1 e d h2 r0 =>
      have z := List.append_eq_nil_iff.mp eo
      have := RelK.cons h1 e d h2 r
      rw [z.1] at this
      exact this
end
section
variable {c : Bd}
/-- list(d.items()) -/
def dItems (f : En → Rs (PV × En)) (τ : En) : Rs (PV × En) := bnd (f τ) fun a => match a.1 with
  | .dct _ true es => if isFzs es = true then .ok (.lst true es, a.2) else .no
  | _ => .no
theorem te_listIt {t : TE} {f : En → Rs (PV × En)} (h : ME c t f) : ME c (tCB (rListIt c.P c.w) (tCons (tCItems c.P c.w t) tNil)) (dItems f) := fun σ τ hv hp H Q s k => h σ τ hv hp H _ s (aft_mono (aft_bnd k) fun a k v H1 s1 => by
  split at k
  · rename_i o es e
    split at k
    · rename_i fe
      rw [e] at s1
      have l0 := s1.lenT
      obtain ⟨B, O, r, nd, hO, wf, back⟩ := s1.handed l0
      obtain ⟨ad, kvs, rfl, kd, lk, O', rk⟩ := r.one'.dcu_at
      refine ⟨ad, kvs, rfl, kd, fun p np => ?_⟩
      have sm : Same H1 (upd H1 p (itemsO p ad)) := HK.Same.new np
      refine ⟨p, ad, kvs, rfl, upd_same, kd.same sm, fun H' l as sm' nl hl la tup => k _ _ ?_⟩
      have smm : ∀ x o, H1 x = some o → H' x = some o := fun x o hx => sm' _ _ (sm _ _ hx)
      have old : ∀ x, upd H1 p (itemsO p ad) x = none → H1 x = none := fun x hx => by
        cases e : H1 x with
        | none => rfl
        | some o => rw [sm _ _ e] at hx; cases hx
      have hn : ∀ x o, H1 x = some o → ¬ B x → H' x = some o ∧ ¬ ((B x ∧ x ∉ O) ∨ x ∈ [l]) := fun x o hx nb => ⟨smm _ _ hx, fun z => z.elim (fun z => nb z.1) fun z => by cases List.mem_singleton.mp z; rw [old _ nl] at hx; cases hx⟩
      refine back [.ref l] [.lst true es] H' ⟨[l], .one (.lstO hl (rk.tups hn fe la fun j t q h1 h2 => ?_)), by simp, fun x hx => ?_, fun x o hx _ => smm _ _ hx⟩
      · obtain ⟨n1, h1'⟩ := tup j t q h1 h2
        refine ⟨fun z => z.elim (fun z => ?_) fun z => ?_, h1'⟩
        · obtain ⟨o, ho⟩ := wf t z.1
          rw [old _ n1] at ho
          cases ho
        · cases List.mem_singleton.mp z
          rw [hl] at h1'
          cases h1'
      · cases List.mem_singleton.mp hx
        refine ⟨fun z => ?_, .inr (old _ nl)⟩
        obtain ⟨o, ho⟩ := wf l z.1
        rw [old _ nl] at ho
        cases ho
    · exact k.elim
  · exact k.elim)
/-! dict(sorted(d.items())) -/
/-- the entries' data, all may be sorted -/
def srtB (es : List PV) : Bool := match toDs es with
  | some ds => alikeB ds && sortB ds && ds.all (fun d => decide (d.depth ≤ 60)) && isFzs es && es.all (fun e => (key? (eVal e)).isSome) && decide ((es.map eKey).Nodup)
  | none => false
def dSort (f : En → Rs (PV × En)) (τ : En) : Rs (PV × En) := bnd (f τ) fun a => match a.1 with
  | .dct _ true es => if srtB es = true then .ok (.dct true true (sortP es), a.2) else .no
  | _ => .no
theorem RelK.ekeys {P : Program} {w : World} {B : Addr → Prop} {H : Hp} : ∀ {kvs : KEs} {es : List PV} {O : List Addr}, RelK P w B H kvs es O → es.map eKey = kvs.map fun q => some q.1
  | _, _, _, .nil => rfl
  | _, _, _, .cons x e d y r => by rw [List.map_cons, List.map_cons, RelK.ekeys r]; simp [eKey, e]
theorem RelK.pairD {P : Program} {w : World} {B : Addr → Prop} {H : Hp} {q : NestedKey × Addr × V} {e : PV} {O : List Addr} (r : RelK P w B H [q] [e] O) (hv : (key? (eVal e)).isSome = true) (hd : ∃ d, toD e = some d) : ∃ dk dv, dOf e = .tuple [dk, dv] ∧ FL.DT H (.ref q.2.1) dk ∧ FL.DT H q.2.2 dv := by
  obtain ⟨d, hd⟩ := hd
  cases r with
  | @cons k b kp v p _ _ _ _ x ek dk y r =>
    obtain ⟨kv, hkv⟩ := Option.isSome_iff_exists.mp hv
    have hkv : key? p = some kv := hkv
    have e1 : toD (.tup [kp, p]) = some d := hd
    rw [toD] at e1
    obtain ⟨ds, e2, e3⟩ := Option.map_eq_some_iff.mp e1
    obtain ⟨d1, f1, f2⟩ := Option.bind_eq_some_iff.mp e2
    obtain ⟨ds', f3, f4⟩ := Option.map_eq_some_iff.mp f2
    obtain ⟨d2, g1, g2⟩ := Option.bind_eq_some_iff.mp f3
    cases g2
    subst f4 e3
    refine ⟨d1, d2, by rw [dOf, hd]; rfl, x.dt ek f1, y.dt hkv g1⟩
theorem toDs_each : ∀ {ps : List PV} {ds : List PyData}, toDs ps = some ds → ∀ p ∈ ps, ∃ d, toD p = some d
  | p :: ps, _, h, q, m => by
    obtain ⟨d, e1, e2⟩ := Option.bind_eq_some_iff.mp h
    obtain ⟨ds, e3, rfl⟩ := Option.map_eq_some_iff.mp e2
    rcases List.mem_cons.mp m with m | m
    · subst m; exact ⟨d, e1⟩
    · exact toDs_each e3 q m
theorem te_dictSort {t : TE} {f : En → Rs (PV × En)} (h : ME c t f) : ME c (tCB (rDictOf c.P c.w) (tCons (tCB (rSortIt c.P c.w) (tCons (tCItems c.P c.w t) tNil)) tNil)) (dSort f) := fun σ τ hv hp H Q s k => h σ τ hv hp H _ s (aft_mono (aft_bnd k) fun a k v H1 s1 => by
  split at k
  · rename_i o es e
    split at k
    · rename_i fe
      rw [e] at s1
      have l0 := s1.lenT
      obtain ⟨B, O, r, nd, hO, wf, back⟩ := s1.handed l0
      obtain ⟨ad, kvs, rfl, kd, lk, O', rk⟩ := r.one'.dcu_at
      unfold srtB at fe
      split at fe
      · rename_i ds ed
        simp only [Bool.and_eq_true] at fe
        obtain ⟨⟨⟨⟨⟨f1, f2⟩, f3⟩, f4⟩, f5⟩, f6⟩ := fe
        have f6 : (es.map eKey).Nodup := of_decide_eq_true f6
        have eo := rk.nilO f4
        subst eo
        have em : es.map dOf = ds := toDs_map ed
        have lds : ds.length = es.length := by rw [← em, List.length_map]
        refine ⟨ad, kvs, rfl, kd, fun p np => ?_⟩
        have sm : Same H1 (upd H1 p (itemsO p ad)) := HK.Same.new np
        have nm : ∀ x o, H1 x = some o → ¬ B x → upd H1 p (itemsO p ad) x = some o ∧ ¬ B x := fun x o hx nb => ⟨sm _ _ hx, nb⟩
        have each := rk.each rfl
        have m1 : (kvs.zip ds).map (·.1) = kvs := List.map_fst_zip (by omega)
        have m2 : (kvs.zip ds).map (·.2) = ds := HK.zip_snd (by omega)
        -- the entries sorted
        generalize ezs : (kvs.zip es).mergeSort (fun a b => leD a.2 b.2) = zs
        have pm : zs.Perm (kvs.zip es) := by rw [← ezs]; exact List.mergeSort_perm _ _
        have e1 : kvs.zip ds = (kvs.zip es).map fun q => (q.1, dOf q.2) := by rw [← em, List.zip_map_right]; rfl
        have e2 : sortE (kvs.zip ds) = zs.map fun q => (q.1, dOf q.2) := by
          unfold sortE
          rw [e1, ← ezs]
          exact (List.map_mergeSort (r := fun a b : (NestedKey × Addr × V) × PV => leD a.2 b.2) (s := dataLe false fun b : (NestedKey × Addr × V) × PyData => b.2) (f := fun q : (NestedKey × Addr × V) × PV => (q.1, dOf q.2)) (l := kvs.zip es) (fun _ _ _ _ => rfl)).symm
        have e3 : sortP es = zs.map (·.2) := by
          unfold sortP
          conv => lhs; rw [← HK.zip_snd (xs := kvs) (ys := es) lk]
          rw [← ezs]
          exact (List.map_mergeSort (r := fun a b : (NestedKey × Addr × V) × PV => leD a.2 b.2) (s := leD) (f := fun q : (NestedKey × Addr × V) × PV => q.2) (l := kvs.zip es) (fun _ _ _ _ => rfl)).symm
        have lz : zs.length = kvs.length := by have := pm.length_eq; rw [List.length_zip] at this; omega
        refine ⟨p, ad, kvs, kvs.zip ds, rfl, upd_same, kd.same sm, m1, fun b hb => ?_, by rw [m2]; exact alikeB_ok f1, by rw [m2]; exact sortB_ok f2, fun b hb => ?_, fun H' l as sm' nl hl la tup => ?_⟩
        · rw [e1] at hb
          obtain ⟨x, hx, rfl⟩ := List.mem_map.mp hb
          have hxe : x.2 ∈ es := (List.of_mem_zip hx).2
          exact ((each x hx).go' nm).pairD (List.all_eq_true.mp f5 _ hxe) (toDs_each ed _ hxe)
        · have : b.2 ∈ ds := (List.of_mem_zip hb).2
          exact of_decide_eq_true (List.all_eq_true.mp f3 _ this)
        · have smm : ∀ x o, H1 x = some o → H' x = some o := fun x o hx => sm' _ _ (sm _ _ hx)
          have old : ∀ x, upd H1 p (itemsO p ad) x = none → H1 x = none := fun x hx => by
            cases e : H1 x with
            | none => rfl
            | some o => rw [sm _ _ e] at hx; cases hx
          rw [List.length_zip] at la
          have allz : ∀ x ∈ zs, RelK c.P c.w B H1 [x.1] [x.2] [] := fun x hx => each x (pm.mem_iff.mp hx)
          have rz := RelK.ofEach allz
          refine ⟨l, as, zs.map (·.1), rfl, hl, by rw [List.length_map]; omega, fun j t q h1 h2 => ?_, fun q hq => ?_, ?_, fun D nD => k _ _ ?_⟩
          · rw [List.getElem?_map] at h2
            obtain ⟨x, hx, rfl⟩ := Option.map_eq_some_iff.mp h2
            have := tup j t (x.1, dOf x.2) h1 (by rw [e2, List.getElem?_map, hx]; rfl)
            exact this.2
          · exact (rz.keys q hq).same fun x o hx => smm x o hx
          · have pk : ((zs.map (·.1)).map (·.1)).Perm (kvs.map (·.1)) := by
              have := pm.map (fun x => x.1.1)
              rw [List.map_map]
              refine this.trans ?_
              have e5 : (kvs.zip es).map (fun x => x.1.1) = ((kvs.zip es).map (·.1)).map (·.1) := by rw [List.map_map]; rfl
              rw [e5, List.map_fst_zip (by omega)]
            refine pk.nodup_iff.mpr ?_
            rw [rk.ekeys] at f6
            have : (kvs.map fun q => some q.1) = (kvs.map (·.1)).map some := by rw [List.map_map]; rfl
            rw [this] at f6
            exact (List.pairwise_map.mp f6).imp fun h z => h (congrArg some z)
          · have nD1 : H1 D = none := by
              cases e : H1 D with
              | none => rfl
              | some o => rw [smm _ _ e] at nD; cases nD
            have smD : ∀ x o, H1 x = some o → upd H' D (keyD c.P c.w D (zs.map (·.1))) x = some o := fun x o hx => by rw [upd_ne (fun z => by subst z; rw [nD1] at hx; cases hx)]; exact smm _ _ hx
            have hn : ∀ x o, H1 x = some o → ¬ B x → upd H' D (keyD c.P c.w D (zs.map (·.1))) x = some o ∧ ¬ ((B x ∧ x ∉ O) ∨ x ∈ [D]) := fun x o hx nb => ⟨smD _ _ hx, fun z => z.elim (fun z => nb z.1) fun z => by cases List.mem_singleton.mp z; rw [nD1] at hx; cases hx⟩
            refine back [.ref D] [.dct true true (sortP es)] _ ⟨[D], .one (.dcuO upd_same (by rw [e3]; exact rz.go' hn)), by simp, fun x hx => ?_, fun x o hx _ => smD _ _ hx⟩
            cases List.mem_singleton.mp hx
            refine ⟨fun z => ?_, .inr nD1⟩
            obtain ⟨o, ho⟩ := wf D z.1
            rw [nD1] at ho
            cases ho
      · cases fe
    · exact k.elim
  · exact k.elim)
end
end FL

namespace PySem
namespace FxX
open PySem.W PySem.Calls PyProof.Rows PySem.HandSPX
/-! ### the text of __init__ -/
def iA (p1 p2 : Pos) : Arguments := { posonlyargs := [], args := [{ arg := "self", annotation := none, pos := p1 }, { arg := "index", annotation := none, pos := p2 }], vararg := none, kwonlyargs := [], kw_defaults := [], kwarg := none, defaults := [] }
def iB (q1 q2 q3 q4 : Pos) : List Stmt := [.Assign [.Attribute (.Name "self" q1) "index" q2] (.Name "index" q3) q4]
def iS : Scope := { kind := .function, names := [(PySem.Str.ofString "self", .local), (PySem.Str.ofString "index", .local)], isGenerator := false, isCoroutine := false, more := [] }
/-- what the written part says of Low, at C, and of its __init__, at fI -/
structure FxTxt (K : Frag) (mg : Str → Option Value) (C fI : Addr) : Prop where
  gC : mg "Fixed" = some (.ref C)
  cls : ∃ nm q N bs bm sn sub ab col dd k0 k1 k2 k3 k5, K.lookup C = some (excClassObj nm q C N bs bm true sn sub ab col dd k0 k1 k2 k3 k5 "ValueError.__new__") ∧ refsVE bm = true
  sa : findIn K (.ref C) "__setattr__" = some (some (.builtin "object.__setattr__"))
  ga : findIn K (.ref C) "__getattribute__" = some (some (.builtin "BaseException.__getattribute__"))
  gg : findIn K (.ref C) "__getattr__" = some none
  noN : findIn K (.ref C) "index" = some none
  iC : findIn K (.ref C) "__init__" = some (some (.ref fI))
  tC : typeIn K (.ref fI) = some (.type "function")
  kC : keepIn K (.ref C) = true
  exC : subIn K (.ref C) (.type "BaseException") = some true
  tyC : typeIn K (.ref C) = some (.type "type")
  hdC : hasDictIn K C = true
  te : exmOne K (.ref C) (.ref C) = some true
  fn : ∃ (oc : Value) (od : Option Addr) (doc pm : Value) (an : Option Addr) (cdv ct : Value) (osl : Array (Option Value)) (p1 p2 q1 q2 q3 q4 : Pos),
    K.lookup fI = some ⟨oc, od, .func (fnOf "__init__" "Fixed.__init__" (iA p1 p2) (iB q1 q2 q3 q4) iS .none .none doc pm an cdv ct), osl⟩ ∧ codeIn K cdv "Fixed.__init__" = true
theorem one_size (v : Value) : [v].length ≤ sizeLine := by
  rw [sizeLine_eq]
  exact (by decide : 1 ≤ 16777216)
theorem kept_but {K : Frag} {h h' : Heap} {x : Addr} (X : K.In h) (hx : K.lookup x = none) (k : ∀ b o, b ≠ x → h.get? b = some o → h'.get? b = some o) : K.In h' := fun a o e =>
  k a o (fun z => by rw [z, hx] at e; cases e) (X a o e)
theorem ldC {M : Model} {s : Shared} {name : Str} {scope : Scope} {L a : Addr} {cd : Value} {m : Str → Option Value} {x : Str} {pos : Pos} {v : Value} {Q : Value → Shared → Prop} {A : Around} {E : Value → Shared → Prop} (hn : s.heap.Ns L m) (hv : m x = some v) (h : Q v s)
    (hk : scope.kind = .function := by rfl) (hl : (envOfC name scope L a cd).kindOf x = some .local := by rfl) (hd : (x == ("__debug__" : Str)) = false := by decide) :
    wpAny M A (eval (.Name x pos) (envOfC name scope L a cd)) Q E s := wpAny_Name (wpAny_loadName_local hk hl hn hv h) hd
/-- what __init__ leaves of a fresh exception at x -/
structure InitEnd (h h' : Heap) (x C dx t1 : Addr) (v : Value) : Prop where
  keep : ∀ b o, b ≠ x → h.get? b = some o → h'.get? b = some o
  obj : h'.get? x = some { cls := .ref C, dict := some dx, data := .fields #[.ref t1, .none, .none, .none, .bool false, .none] }
  dbig : h.objs.size ≤ dx
  dne : dx ≠ x
  ns : h'.Ns1 dx (fun y => if y = "index" then some v else none)
/-- a made Low -/
structure OwnMade (h h' : Heap) (e C d : Addr) (v : Value) : Prop where
  keep : ∀ b o, h.get? b = some o → h'.get? b = some o
  new : h.objs.size ≤ e
  obj : ∃ oe vs, h'.get? e = some oe ∧ oe.cls = .ref C ∧ oe.dict = some d ∧ oe.data = .fields vs ∧ vs[1]? = some .none
  dbig : h.objs.size ≤ d
  dne : d ≠ e
  ns : h'.Ns1 d (fun y => if y = "index" then some v else none)
section
variable {prog : Program} {w : World} {A : Around} {E : Value → Shared → Prop} {R : Result → Shared → Prop} {s : Shared} {K : Frag} {mg : Str → Option Value} {C fI : Addr}
theorem low_init (T : FxTxt K mg C fI) {x t0 : Addr} {v : Value} (X : K.In s.heap) (hlim : s.heap.NoLimit) (hx : s.heap.get? x = some (excO C t0)) (hnx : K.lookup x = none) (hroom : A.depth < recursionLimit)
    (hq : ∀ h' tk dx, InitEnd s.heap h' x C dx t0 v → R (.ok (.ret .none)) { s with heap := h', toks := tk }) :
    codeAny (model prog w) A (.call (.ref fI) ⟨[.ref x, v], []⟩) R s := by
  obtain ⟨oc, od, doc, pm, an, cdv, ct, osl, p1, p2, q1, q2, q3, q4, ho, hcd⟩ := T.fn
  obtain ⟨nm, q, N, bs, bm, sn, sub, ab, col, dd, k0, k1, k2, k3, k5, hC, hbm⟩ := T.cls
  have hcl : clsIn K C = some { name := nm, bases := bs, mro := .ref C :: bm, ns := N, qualname := q, hasDict := true, slotNames := sn, subclasses := sub, abstract := ab, collection := col, hasDel := false } := by unfold clsIn; rw [hC] <;> rfl
  refine Att.call_fn (binds := [("self", .ref x), ("index", v)]) X hlim ho hcd hroom (BindsTo.of_eq (by first | rfl | with_unfolding_all rfl)) (by first | rfl | decide | with_unfolding_all rfl) (fun s₁ IC => ?_) rfl rfl rfl
  obtain ⟨h₁, tk₁, rfl⟩ := IC.toInCall.same
  have k : ∀ b o, s.heap.get? b = some o → h₁.get? b = some o := IC.toInCall.keep
  have hn := IC.toInCall.ns
  have hxL : s.heap.objs.size ≠ x := Nat.ne_of_gt (Heap.lt_size hx)
  have X₁ : K.In h₁ := X.keeps k
  have hx₁ := k _ _ hx
  -- self.by = by
  show wpAny _ _ (execs _ _) _ _ _
  refine wpAny_execs_cons (plainObj_wpAny_Assign_Attribute ?_)
  refine ldC (v := v) hn (by first | rfl | with_unfolding_all rfl | kernel_rfl) (ldC (v := .ref x) hn (by first | rfl | with_unfolding_all rfl | kernel_rfl) ?_)
  refine set_plain X₁ (ox := excO C t0) (od := none) ⟨hx₁, rfl, rfl, trivial⟩ T.sa ?_
  refine exc_osa X₁ hx₁ hcl (show refsVE (.ref C :: bm) = true from hbm) rfl T.noN (fun h₃ tk₃ dx k₃ dn dne hx₃ hn₃ => ?_)
  show wpAny _ _ (execs _ _) _ _ _
  have z : s.heap.objs.size < h₁.objs.size := hn.lt
  exact wpAny_execs_nil (hq h₃ tk₃ dx ⟨fun b o hb e => k₃ b o hb (k b o e), hx₃, Nat.le_of_lt (Nat.lt_of_lt_of_le z dn), dne, hn₃⟩)
theorem low_made (T : FxTxt K mg C fI) {v : Value} (X : K.In s.heap) (hlim : s.heap.NoLimit) (hroom : A.depth + 1 < recursionLimit)
    (hq : ∀ h' tk e d, OwnMade s.heap h' e C d v → R (.ok (.ret (.ref e))) { s with heap := h', toks := tk }) :
    codeAny (model prog w) A (.call (.ref C) ⟨[v], []⟩) R s := by
  obtain ⟨nm, q, N, bs, bm, sn, sub, ab, col, dd, k0, k1, k2, k3, k5, hC, hbm⟩ := T.cls
  obtain ⟨hp, g, dr, tk, os⟩ := s
  have k : ∀ b o, hp.get? b = some o → ((hp.push (kdv_tup [v])).push (excO C hp.objs.size)).get? b = some o := fun b o e => Heap.get?_push_of_some _ (Heap.get?_push_of_some _ e)
  have hget : ((hp.push (kdv_tup [v])).push (excO C hp.objs.size)).get? (hp.objs.size + 1) = some (excO C hp.objs.size) := by heap_get
  have hnx : K.lookup (hp.objs.size + 1) = none := by
    cases e : K.lookup (hp.objs.size + 1) with
    | none => rfl
    | some o =>
      have z : hp.get? (hp.objs.size + 1) = some o := X _ _ e
      exact absurd (Nat.lt_of_succ_lt (Heap.lt_size z)) (Nat.lt_irrefl _)
  refine call_own F.excBase_ValueError (fun X => refsVE_contains X bm hbm) (X _ _ hC) (looks_findIn X T.iC) (fun self => bind_fn X self T.tC) (one_size v) ?_
  refine low_init (s := ⟨(hp.push (kdv_tup [v])).push (excO C hp.objs.size), g, dr, tk, os⟩) T (X.keeps k) (hlim.keeps k) hget hnx ?_ fun h' tk' dx ⟨k', hx, dn, dne, hns⟩ => ?_
  · show A.depth + 1 < recursionLimit
    exact hroom
  · have old : ∀ b o, hp.get? b = some o → h'.get? b = some o := fun b o e => k' b o (Nat.ne_of_lt (Nat.lt_succ_of_lt (Heap.lt_size e))) (k b o e)
    have z : hp.objs.size + 1 + 1 ≤ dx := by
      first
        | (simpa only [Heap.size_push] using dn)
        | exact dn
        | (have q := dn; rw [Heap.size_push, Heap.size_push] at q; exact q)
    exact ⟨rfl, hq h' tk' (hp.objs.size + 1) dx ⟨old, Nat.le_succ _, ⟨_, _, hx, rfl, rfl, rfl, rfl⟩, Nat.le_trans (Nat.le_trans (Nat.le_succ _) (Nat.le_succ _)) z, dne, hns⟩⟩
end
end FxX
end PySem

namespace L2
open PySem PySem.Spec PyProof.Rows
theorem relO_low_Fx {v : V} {v' : Value} (r : RelV v v') (f : Str) : RelO (List.lookup f [(("index" : Str), v)]) (if f = "index" then some v' else none) := by
  by_cases hw : f = "index"
  · subst hw
    rw [if_pos rfl]
    have q : List.lookup ("index" : Str) [(("index" : Str), v)] = some v := by simp [List.lookup]
    rw [q]
    exact r
  · rw [if_neg hw]
    have qw : (f == ("index" : Str)) = false := by simpa using hw
    have q2 : List.lookup f [(("index" : Str), v)] = none := by simp [List.lookup, qw]
    rw [q2]
    trivial
section
variable {X : Cx} {C fI : Addr}
/-- Low(e) -/
def tMkLow_Fx (C : Addr) (ta : TA) : St → Hp → XK → Prop := fun σ H Q => ta σ H fun vs H1 => ∃ v, vs = [v] ∧ ∀ d, H1 d = none → Q (.ref C) (some d) (upd H1 d (.xd [(("index" : Str), v)]))
theorem pmk_low_Fx {a : Expr} {ta : TA} {p pos : Pos} {k : Nat} (T : PySem.FxX.FxTxt X.K X.mg C fI) (hr : Room k X.A) (ha : PA X [a] ta) (hg : Gl X "Fixed" := by rfl)
    (he : starEach (a :: []) X.env = (false, eval a X.env) :: starEach [] X.env := by rfl) (hpl : (backTo pos (starEach [] X.env)).any (·.1) = false := by rfl) :
    PMk X (.Call (.Name "Fixed" p) [a] [] pos) (tMkLow_Fx C ta) := by
  intro pins s σ H Q I h
  refine wpAny_Call_Name_kw (ld_glob I hg T.gC ?_)
  refine PySem.W.callWith_K (h₀ := X.base) I.ok.mod.kin T.kC (thn (ha.run pos pins s σ H _ I h) fun us s1 hh => ?_) he hpl
  obtain ⟨vs, H1, I1, r1, v, ev, q1⟩ := hh
  subst ev
  refine ⟨I1.kIn, ?_⟩
  cases r1 with
  | cons rv rn =>
    rename_i v' us'
    cases rn
    show wpAny _ _ (call (.ref C) [v']) _ _ _
    have hlim := I1.nolimit
    obtain ⟨hp, g, dr, tk, os⟩ := s1
    refine wpAny_call (PySem.FxX.low_made T I1.kIn hlim (by have := hr.dp; omega) fun h' tk' e d M => ?_)
    show MkP X pins σ Q (.ref e) ⟨h', g, dr, tk', os⟩
    obtain ⟨oe, fv, hoe, hc, hd, hdat, h1⟩ := M.obj
    have hns := M.ns
    obtain ⟨G', g1, g2⟩ := restrict h' fun b => decide (b ≠ e)
    have gk : ∀ b, b ≠ e → G'.get? b = h'.get? b := fun b hb => g1 b (decide_eq_true hb)
    have ge : G'.get? e = none := g2 e (by simp)
    have old : ∀ b o, hp.get? b = some o → G'.get? b = some o := fun b o q => (gk b (Nat.ne_of_lt (Nat.lt_of_lt_of_le (Heap.lt_size q) M.new))).trans (M.keep b o q)
    have ob : ObjOk X.prog X.w (upd H1 d (.xd [(("index" : Str), v)])) G' d (.xd [(("index" : Str), v)]) :=
      ⟨_, hns.at (fun o q => (gk d M.dne).trans q), fun f => relO_low_Fx rv f⟩
    have J : Inv X pins σ (upd H1 d (.xd [(("index" : Str), v)])) ⟨G', g, dr, tk', os⟩ := I1.laid (t' := tk') old M.dbig ob
    refine ⟨e, oe, fv, ⟨G', g, dr, tk', os⟩, _, .ref C, some d, rfl, J, fun b o q => ?_, ge, hoe, ⟨hc, hd⟩, hdat, h1, ?_, rfl, I1.bare, raises_own T.exC T.tyC, q1 d (I1.hok.fresh M.dbig)⟩
    · by_cases hb : b = e
      · have q' : G'.get? b = some o := q
        rw [hb, ge] at q'; cases q'
      · exact (gk b hb).symm.trans q
    · rw [upd_ne (Ne.symm M.dne)]
      exact I1.hok.fresh M.new
/-- raise Low(e) -/
def tRaiseLow_Fx (C : Addr) (W : WX) (ta : TA) : TS := fun _ σ H => tMkLow_Fx C ta σ H fun cls d H' => W cls d σ H'
theorem ps_raiseLow_Fx {a : Expr} {ta : TA} {W : WX} {p pos pos2 : Pos} {k : Nat} (hc : X.calm = true) (T : PySem.FxX.FxTxt X.K X.mg C fI) (hr : Room k X.A) (tk : Takes X W) (ha : PA X [a] ta) (hg : Gl X "Fixed" := by rfl)
    (he : starEach (a :: []) X.env = (false, eval a X.env) :: starEach [] X.env := by rfl) (hpl : (backTo pos (starEach [] X.env)).any (·.1) = false := by rfl) :
    PS X (.Raise (some (.Call (.Name "Fixed" p) [a] [] pos)) none pos2) (tRaiseLow_Fx C W ta) := ps_raise hc tk (pmk_low_Fx T hr ha hg he hpl)

end
end L2

namespace FL
open PySem PySem.Spec PyProof.Rows L2
theorem pass0X {P : Program} {w : World} {X : Cx} : Passes (L2.CX P w) X E0 := fun _ _ _ _ _ _ _ h => by
  obtain ⟨_, _, _, _, _, _, _, _, _, _, _, _, z⟩ := h
  exact z.elim
section
variable {c : Bd}
/-- a call whose errors are handed on -/
def calS (m : List Bool) (F : FnF) (ks : List Nat) (fa : En → Rs (List PV × En)) (τ : En) : Rs (PV × En) := bnd (fa τ) fun a => match takes ks a.2 with
  | none => .no
  | some (ios, τ2) => match F (weave m ios a.1) with
    | .ok r => .ok (r.1, puts ks r.2 τ2)
    | .err e _ => .err e τ2
    | .no => .no
theorem te_callS {n : Nat} {m : List Bool} {F : FnF} {ks : List Nat} {t : TA} {fa : En → Rs (List PV × En)} (ha : MX c t ks m fa) (nd : ks.Nodup := by decide) (lk : ks.length = (m.filter id).length := by rfl) (ln : m.length = n := by rfl) :
    ME c (tCallS (spF c.P c.w n m F) c.E t) (calS m F ks fa) := fun σ τ hv hp H Q s k => ha.2 σ τ hv hp H _ s (by
  have k := aft_bnd k
  cases ef : fa τ with
  | no => rw [ef] at k; exact k
  | err e τ1 => rw [ef] at k; exact k
  | ok a =>
  rw [ef] at k
  intro vals ios H1 s1 e
  have k : Aft c (· = σ) (match takes ks a.2 with
    | none => .no
    | some (ios, τ2) => match F (weave m ios a.1) with
      | .ok r => .ok (r.1, puts ks r.2 τ2)
      | .err e _ => .err e τ2
      | .no => .no) (fun r : PV × En => ∀ v H', Stt c σ r.2 (hv ++ [v]) (hp ++ [r.1]) H' → Q v H') := k
  cases et : takes ks a.2 with
  | none => rw [et] at k; exact k.elim
  | some r =>
    obtain ⟨ps, τ2⟩ := r
    rw [et] at k
    simp only at k
    obtain ⟨vs, q1, q2, q3, _⟩ := s1.takes et
    have ev : vs = ios := by
      have := q1.trans e.symm
      exact List.map_inj_right (fun _ _ h => Option.some.inj h) |>.mp this
    subst ev
    have l1 := s.len
    have lvs : vs.length = (m.filter id).length := by rw [← lk]; simpa using congrArg List.length q1
    have lvals := Stt.lenL l1 s1 (H' := H1)
    have s2 : Stt c σ τ2 (hv ++ weave m vs vals) (hp ++ weave m ps a.1) H1 := by
      rw [List.append_assoc, List.append_assoc] at q2
      refine q2.part l1 fun B O r => ?_
      obtain ⟨Oa, Ob, eo, ra, rb⟩ := r.split lvals
      subst eo
      obtain ⟨Od, O', p, q⟩ := Rels.weave (m := m) rb ra
      exact ⟨Od, O', List.perm_append_comm.trans p, q⟩
    obtain ⟨w1, w2⟩ := selL_weave (m := m) (is := vs) (vs := vals) lvs (by rw [lvals]; exact ha.1 τ a ef)
    obtain ⟨B, O, r, nd', hO, wf, back⟩ := s2.handed l1
    refine ⟨by rw [w2, ln], s2.2.2, B, _, O, r, nd', hO, wf, ?_⟩
    cases eF : F (weave m ps a.1) with
    | no => rw [eF] at k; exact k.elim
    | err x y =>
      rw [eF] at k
      intro d xs H' hx hl po
      have s3 := back _ _ _ po
      refine k σ d H' rfl ⟨xs, hx, hl, ?_⟩
      have s4 : Stt c σ τ2 ([] ++ (hv ++ xs)) ([] ++ (hp ++ x.ps)) H' := by simpa using s3
      have := s4.part (ws := xs) (qs := x.ps) rfl fun B O r => by
        obtain ⟨Oa, Ob, eo, ra, rb⟩ := r.split l1
        exact ⟨Oa, Ob, by rw [eo], rb⟩
      simpa using this
    | ok r =>
      rw [eF] at k
      intro v H' po
      rw [w1] at po
      have s3 := back _ _ _ po
      have s4 : Stt c σ τ2 (hv ++ [v] ++ vs) (hp ++ [r.1] ++ r.2) H' := by simpa using s3
      exact k v H' (s4.puts (by simp [l1]) q1 nd q3))
/-- {} that stays -/
def dnewE (τ : En) : Rs (PV × En) := .ok (.dct false false [], τ)
theorem te_dnewE : ME c tDNewK dnewE := fun σ τ hv hp H Q s k p np => k _ _ (Stt.made (xs := []) (ps := []) false _ _ (by simpa using s) s.len np fun B' Ob nb r => by
  cases r
  exact .dctF (nb rfl) upd_same .nil)
/-- raise Fixed(e) -/
def sraise (C : Addr) (f : Str) (fa : En → Rs (List PV × En)) (τ : En) : Rs Fl := bnd (fa τ) fun a => match a.1 with
  | [p] => .err ⟨C, [f], [p]⟩ a.2
  | _ => .no
theorem ms_raiseFx {C : Addr} {t : TA} {fa : En → Rs (List PV × En)} (h : MA c t fa) : MS c (tRaiseLow_Fx C (fun cls d σ H => c.E σ cls d H) t) (sraise C "index" fa) := fun σ τ hv hp H D s k => h σ τ hv hp H _ s (aft_mono (aft_bnd k) (fun a k vs H1 s1 => by
  split at k
  · rename_i p e
    rw [e] at s1
    have l2 := Stt.lenL s.len s1 (H' := H1)
    match vs, l2 with
    | [v], _ =>
      refine ⟨v, rfl, fun d nd => k σ d _ trivial ⟨[v], upd_same, rfl, ?_⟩⟩
      have s2 := s1.same (HK.Same.new (o := .xd [(("index" : Str), v)]) nd)
      have s4 : Stt c σ a.2 ([] ++ (hv ++ [v])) ([] ++ (hp ++ [p])) (upd H1 d (.xd [(("index" : Str), v)])) := by simpa using s2
      have := s4.part (ws := [v]) (qs := [p]) rfl fun B O r => by
        obtain ⟨Oa, Ob, eo, ra, rb⟩ := r.split s.len
        exact ⟨Oa, Ob, by rw [eo], rb⟩
      simpa using this
  · exact k.elim) fun _ _ => trivial)
end
section
variable {P : Program} {w : World} {K : PySem.W.Frag} {mg : Str → Option Value} {base : Heap}
/-- a def that shows nothing -/
theorem okFO {x qual : Str} {st : Stmt} {f : Addr} {fd : FuncData} {N ps : List Str} {k : Nat} {m : List Bool} {b : En → Rs Fl} (F : Fun K x qual st f fd) (S : FnScope N ps (defScope st)) (lm : m.length ≤ ps.length)
    (hbody : ∀ (cdv : Value) (A : Around) (outer : List Env) (s : Shared) (H : Hp) (vs : List V) (E : XK), Room k (A.deeper (envOfC qual (defScope st) s.heap.objs.size f cdv)) →
      ∃ t, PSs (cxOf CX0 P w K mg base N qual (defScope st) f cdv A outer s H E).nox (defBody st) t ∧ ∀ B O, MS (bdOf P w K H B O E m vs) t b) :
    FnOk P w K mg base CX0 (k + 1) f fd ps (spF P w ps.length m (runF N.length m b)) := by
  refine F.ok S (fun vs H Q E h => h.1) fun cdv A outer s H vs Q E hr hs => ?_
  obtain ⟨t, ht, hb⟩ := hbody cdv A outer s H vs E hr
  exact ⟨t, ht, run_body hs lm hb⟩
/-- a def that may raise -/
theorem okFX {x qual : Str} {st : Stmt} {f : Addr} {fd : FuncData} {N ps : List Str} {k : Nat} {m : List Bool} {b : En → Rs Fl} (F : Fun K x qual st f fd) (S : FnScope N ps (defScope st)) (lm : m.length ≤ ps.length)
    (hbody : ∀ (cdv : Value) (A : Around) (outer : List Env) (s : Shared) (H : Hp) (vs : List V) (E : XK), Room k (A.deeper (envOfC qual (defScope st) s.heap.objs.size f cdv)) →
      ∃ t, PSs (cxOf (L2.CX P w) P w K mg base N qual (defScope st) f cdv A outer s H E) (defBody st) t ∧ ∀ B O, MS (bdOf P w K H B O E m vs) t b) :
    FnOk P w K mg base (L2.CX P w) (k + 1) f fd ps (spF P w ps.length m (runF N.length m b)) := by
  refine F.okX S (fun vs H Q E h => h.1) fun cdv A outer s H vs Q E hr hs => ?_
  obtain ⟨t, ht, hb⟩ := hbody cdv A outer s H vs E hr
  exact ⟨t, ht, run_body hs lm hb⟩
end
end FL

namespace FL
open PySem PySem.Spec PyProof.Rows L2
theorem fz_int (i : Int) : fz (.int i) = .int i := rfl
theorem fz_str (i : Str) : fz (.str i) = .str i := rfl
theorem fz_bl (i : Bool) : fz (.bl i) = .bl i := rfl
theorem fz_non : fz .non = .non := rfl
theorem fz_un : fz .un = .un := rfl
theorem fz_tup (ps : List PV) : fz (.tup ps) = .tup (fzs ps) := rfl
theorem fz_lst (o : Bool) (ps : List PV) : fz (.lst o ps) = .lst false (fzs ps) := rfl
theorem fzs_nil : fzs [] = [] := rfl
theorem fzs_cons (p : PV) (ps : List PV) : fzs (p :: ps) = fz p :: fzs ps := rfl
theorem addA_int (i j : Int) : gAddA (.int i) (.int j) = some (.int (i + j)) := rfl
theorem sub_int (i j : Int) : gSub' (.int i) (.int j) = some (.int (i - j)) := rfl
theorem gt_int (i j : Int) : gGtA (.int i) (.int j) = some (.bl (decide (j < i))) := rfl
theorem lt_int (i j : Int) : gLtA (.int i) (.int j) = some (.bl (decide (i < j))) := rfl
theorem le_int (i j : Int) : gLeA (.int i) (.int j) = some (.bl (decide (i ≤ j))) := rfl
theorem ge_int (i j : Int) : gGe (.int i) (.int j) = some (.bl (decide (j ≤ i))) := rfl
theorem lt_str' (i j : Str) : gLtA (.str i) (.str j) = some (.bl (ltS i j)) := rfl
theorem gInt_int (i : Int) : gInt (.int i) = some (.int i) := rfl
theorem gInt_bl (b : Bool) : gInt (.bl b) = some (.int (if b then 1 else 0)) := rfl
theorem gEqS_int (ne : Bool) (i j : Int) : gEqA ne (.int i) (.int j) = some (.bl (ne != decide (i = j))) := by
  have : decide (V.int i = V.int j) = decide (i = j) := by
    by_cases h : i = j
    · subst h; simp
    · simp [h]
  unfold gEqA orB gEqS sv scal
  simp [this]
theorem eqA_int (i j : Int) : gEqA false (.int i) (.int j) = some (.bl (decide (i = j))) := by rw [gEqS_int]; simp
theorem neA_int (i j : Int) : gEqA true (.int i) (.int j) = some (.bl (!decide (i = j))) := by rw [gEqS_int]; simp
theorem mulA_int {i j : Int} (h : cMul i j = true) : gMulA (.int i) (.int j) = some (.int (i * j)) := by
  unfold gMulA orB gMul iopC
  simp [h]
theorem mod_int {i j : Int} (h : j ≠ 0) : gMod (.int i) (.int j) = some (.int (i.fmod j)) := by
  unfold gMod iopC cMod
  simp [h]
theorem div_int {i j : Int} (h : j ≠ 0) (h2 : j.natAbs < bigB) : gDiv (.int i) (.int j) = some (.int (i.fdiv j)) := by
  unfold gDiv iopC cDiv
  simp [h, h2]
theorem cMul_r {i j : Int} (h : -(2 ^ 64) < j) (h' : j < 2 ^ 64) : cMul i j = true := by
  unfold cMul
  rw [Bool.or_eq_true]
  exact .inr (decide_eq_true ⟨h, h'⟩)
theorem cMul_l {i j : Int} (h : -(2 ^ 64) < i) (h' : i < 2 ^ 64) : cMul i j = true := by
  unfold cMul
  rw [Bool.or_eq_true]
  exact .inl (decide_eq_true ⟨h, h'⟩)
theorem rd_eq {i : Nat} {τ : En} {p : PV} (h : τ[i]? = some p) (n : p ≠ .un) : rd i τ = .ok (fz p, τ.set i (fz p)) := by
  unfold rd
  rw [h]
  cases p <;> first | rfl | exact absurd rfl n
theorem mv_eq {i : Nat} {τ : En} {p : PV} (h : τ[i]? = some p) (n : p ≠ .un) : mv i τ = .ok (p, τ.set i .un) := by
  unfold mv
  rw [h]
  cases p <;> first | rfl | exact absurd rfl n
/-! what a slot's thing is, and that it is one -/
def isU : PV → Bool | .un => true | _ => false
theorem isU_ne {p : PV} (h : isU p = false) : p ≠ .un := fun z => by subst z; cases h
/-- it is something -/
def Thing (p : PV) : Prop := isU p = false
theorem thing_non : Thing (.non) = True := eq_true rfl
theorem thing_bl (b : Bool) : Thing (.bl b) = True := eq_true rfl
theorem thing_int (b : Int) : Thing (.int b) = True := eq_true rfl
theorem thing_str (b : Str) : Thing (.str b) = True := eq_true rfl
theorem thing_tup (b : List PV) : Thing (.tup b) = True := eq_true rfl
theorem thing_lst (o : Bool) (b : List PV) : Thing (.lst o b) = True := eq_true rfl
theorem thing_dct (o t : Bool) (b : List PV) : Thing (.dct o t b) = True := eq_true rfl
def rdO (o : Option PV) (i : Nat) (τ : En) : Rs (PV × En) := match o with
  | none => .no
  | some .un => .no
  | some p => .ok (fz p, τ.set i (fz p))
def mvO (o : Option PV) (i : Nat) (τ : En) : Rs (PV × En) := match o with
  | none => .no
  | some .un => .no
  | some p => .ok (p, τ.set i .un)
def cbO (g : Uop) (o : Option PV) (τ : En) : Rs (PV × En) := match o with
  | none => .no
  | some .un => .no
  | some p => opt (g p) τ
def opB1 (o : Option PV) (r : Rs (PV × En)) : Rs (PV × En) := match o with
  | none => .no
  | some .un => .no
  | some _ => r
def opB2 (g : Bop) (o : Option PV) (b : PV × En) : Rs (PV × En) := match o with
  | none => .no
  | some .un => .no
  | some p => opt (g p b.1) b.2
theorem opB_O (g : Bop) (i : Nat) (fb : En → Rs (PV × En)) (τ : En) : opB g i fb τ = opB1 τ[i]? (bnd (fb τ) fun b => opB2 g b.2[i]? b) := by
  unfold opB opB1 opB2
  rfl
theorem opB1_some {p : PV} {r : Rs (PV × En)} (h : Thing p) : opB1 (some p) r = r := by cases p <;> first | rfl | exact Bool.noConfusion (show true = false from h)
theorem opB2_some {g : Bop} {p : PV} {b : PV × En} (h : Thing p) : opB2 g (some p) b = opt (g p b.1) b.2 := by cases p <;> first | rfl | exact Bool.noConfusion (show true = false from h)
theorem rd_O (i : Nat) (τ : En) : rd i τ = rdO τ[i]? i τ := rfl
theorem mv_O (i : Nat) (τ : En) : mv i τ = mvO τ[i]? i τ := rfl
theorem cb_O (g : Uop) (i : Nat) (τ : En) : cbB g i τ = cbO g τ[i]? τ := rfl
theorem rdO_some {p : PV} {i : Nat} {τ : En} (h : Thing p) : rdO (some p) i τ = .ok (fz p, τ.set i (fz p)) := by cases p <;> first | rfl | (exact Bool.noConfusion (show true = false from h))
theorem mvO_some {p : PV} {i : Nat} {τ : En} (h : Thing p) : mvO (some p) i τ = .ok (p, τ.set i .un) := by cases p <;> first | rfl | (exact Bool.noConfusion (show true = false from h))
theorem cbO_some {g : Uop} {p : PV} {τ : En} (h : Thing p) : cbO g (some p) τ = opt (g p) τ := by cases p <;> first | rfl | (exact Bool.noConfusion (show true = false from h))
/-! ### items -/
theorem ixN_nat {n j : Nat} (h : j < n) : ixN n (j : Int) = some j := by
  unfold ixN
  rw [if_pos (by omega), if_pos (by omega)]
  simp
theorem atI_ofNat {α : Type} {xs : List α} {j : Nat} {x : α} (h : xs[j]? = some x) : L2.atI xs (j : Int) = some x := by
  unfold L2.atI
  rw [ixN_nat (List.getElem?_eq_some_iff.mp h).1]
  exact h
theorem atI_0 {α : Type} (x : α) (xs : List α) : L2.atI (x :: xs) 0 = some x := atI_ofNat (j := 0) rfl
theorem atI_1 {α : Type} (x y : α) (xs : List α) : L2.atI (x :: y :: xs) 1 = some y := atI_ofNat (j := 1) rfl
theorem atI_2 {α : Type} (x y z : α) (xs : List α) : L2.atI (x :: y :: z :: xs) 2 = some z := atI_ofNat (j := 2) rfl
theorem atI_3 {α : Type} (x y z u : α) (xs : List α) : L2.atI (x :: y :: z :: u :: xs) 3 = some u := atI_ofNat (j := 3) rfl
theorem ixA_lst (o : Bool) (ps : List PV) (i : Int) : ixA (.lst o ps) (.int i) = L2.atI ps i := by
  unfold ixA orB ixL ixT ixS
  simp only
  cases L2.atI ps i <;> rfl
theorem ixA_tup (ps : List PV) (i : Int) : ixA (.tup ps) (.int i) = L2.atI ps i := by
  unfold ixA orB ixL ixT ixS
  simp only
  cases L2.atI ps i <;> rfl
theorem fzd_of {g : Bop} {p q : PV} {z : PV} (h : g p q = some z) (f : isFz z = true) : fzd g p q = some z := by
  unfold fzd
  rw [h]
  simp [f]
theorem ixAb_of {p q z : PV} (h : ixA p q = some z) (f : isFz z = true) : ixAb p q = some z := by
  unfold ixAb orB
  unfold ixA orB at h
  cases e : ixL p q with
  | some z' =>
    rw [e] at h
    cases h
    rw [fzd_of e f]
  | none =>
    rw [e] at h
    have e1 : fzd ixL p q = none := by unfold fzd; rw [e]
    rw [e1]
    simp only at h ⊢
    cases e2 : ixT p q with
    | some z' =>
      rw [e2] at h
      cases h
      rw [fzd_of e2 f]
    | none =>
      rw [e2] at h
      have e3 : fzd ixT p q = none := by unfold fzd; rw [e2]
      rw [e3]
      simp only at h ⊢
      exact fzd_of h f
theorem ixAb_lst {o : Bool} {ps : List PV} {i : Int} {z : PV} (h : L2.atI ps i = some z) (f : isFz z = true) : ixAb (.lst o ps) (.int i) = some z := ixAb_of (by rw [ixA_lst]; exact h) f
theorem ixAb_tup {ps : List PV} {i : Int} {z : PV} (h : L2.atI ps i = some z) (f : isFz z = true) : ixAb (.tup ps) (.int i) = some z := ixAb_of (by rw [ixA_tup]; exact h) f
theorem opB_eq {g : Bop} {i : Nat} {fb : En → Rs (PV × En)} {τ τ' : En} {p p' q z : PV} (h : τ[i]? = some p) (n : p ≠ .un) (hb : fb τ = .ok (q, τ')) (h' : τ'[i]? = some p') (n' : p' ≠ .un) (hg : g p' q = some z) : opB g i fb τ = .ok (z, τ') := by
  unfold opB
  rw [h]
  cases p <;> first | exact absurd rfl n | skip
  all_goals
    simp only [hb, bnd_ok, h']
    cases p' <;> first | exact absurd rfl n' | (simp only [hg, opt_some])
theorem isFz_int (i : Int) : isFz (.int i) = true := rfl
theorem isFz_str (i : Str) : isFz (.str i) = true := rfl
theorem isFz_bl (i : Bool) : isFz (.bl i) = true := rfl
theorem isFz_non : isFz .non = true := rfl
theorem isFz_tup (ps : List PV) : isFz (.tup ps) = isFzs ps := rfl
theorem isFz_lstF (ps : List PV) : isFz (.lst false ps) = isFzs ps := rfl
theorem isFzs_nil : isFzs [] = true := rfl
theorem isFzs_cons (p : PV) (ps : List PV) : isFzs (p :: ps) = (isFz p && isFzs ps) := rfl
mutual
theorem isFz_fz : ∀ p, isFz (fz p) = true
  | .un => rfl
  | .non => rfl
  | .bl _ => rfl
  | .int _ => rfl
  | .str _ => rfl
  | .tup ps => isFzs_fzs ps
  | .lst _ ps => isFzs_fzs ps
  | .dct _ _ es => isFzs_fzs es
  | .ins _ _ ps => isFzs_fzs ps
  | .exc _ _ _ ps => isFzs_fzs ps
theorem isFzs_fzs : ∀ ps, isFzs (fzs ps) = true
  | [] => rfl
  | p :: ps => by rw [fzs, isFzs, isFz_fz p, isFzs_fzs ps]; rfl
end
/-- lists of scalars -/
theorem isFzs_map {α : Type} {f : α → PV} (h : ∀ a, isFz (f a) = true) : ∀ xs : List α, isFzs (xs.map f) = true
  | [] => rfl
  | x :: xs => by rw [List.map_cons, isFzs, h, isFzs_map h xs]; rfl
theorem fzs_mapI (cs : List Int) : fzs (cs.map PV.int) = cs.map PV.int := fzs_of (isFzs_map (fun _ => rfl) cs)
theorem lenA_lst (o : Bool) (ps : List PV) : gLenA (.lst o ps) = some (.int ps.length) := rfl
theorem lenA_tup (ps : List PV) : gLenA (.tup ps) = some (.int ps.length) := rfl
theorem on1_eq (g : Uop) (p : PV) : on1 g [p] = g p := rfl
theorem ixSet_lst {ps : List PV} {i : Int} {j : Nat} {u : PV} (h : ixN ps.length i = some j) : ixSet (.lst true ps) (.int i) u = some (.lst true (ps.set j u)) := by
  show (ixN ps.length i).map (fun j => PV.lst true (ps.set j u)) = _
  rw [h]
  rfl
theorem ixAb_lst' (o : Bool) (ps : List PV) (i : Int) : ixAb (.lst o ps) (.int i) = (L2.atI ps i).bind fun z => if isFz z = true then some z else none := by
  unfold ixAb orB fzd ixL ixT ixS
  simp only
  cases L2.atI ps i with
  | none => rfl
  | some z => cases e : isFz z <;> simp [e]
theorem ixAb_tup' (ps : List PV) (i : Int) : ixAb (.tup ps) (.int i) = (L2.atI ps i).bind fun z => if isFz z = true then some z else none := by
  unfold ixAb orB fzd ixL ixT ixS
  simp only
  cases L2.atI ps i with
  | none => rfl
  | some z => cases e : isFz z <;> simp [e]
theorem fzs_mapS (cs : List Str) : fzs (cs.map PV.str) = cs.map PV.str := fzs_of (isFzs_map (fun _ => rfl) cs)
theorem isFzs_mapS (cs : List Str) : isFzs (cs.map PV.str) = true := isFzs_map (fun _ => rfl) cs
theorem isFzs_mapI (cs : List Int) : isFzs (cs.map PV.int) = true := isFzs_map (fun _ => rfl) cs
theorem ixL_lst (o : Bool) (ps : List PV) (i : Int) : ixL (.lst o ps) (.int i) = L2.atI ps i := rfl
theorem ixSet_eq (ps : List PV) (i : Int) (u : PV) : ixSet (.lst true ps) (.int i) u = (ixN ps.length i).map fun j => .lst true (ps.set j u) := rfl
/-! ### statements, one behind another -/
section
variable {f g : En → Rs Fl} {t : En → Rs (Bool × En)} {e : En → Rs (PV × En)} {G : PV → En → Option En} {τ τ' τ1 : En} {p : PV} {b : Bool} {r : Rs Fl}
theorem sseq_nx (h : f τ = .ok (.nx τ')) (k : g τ' = r) : sseq f g τ = r := by unfold sseq; rw [h]; exact k
theorem sseq_rt (h : f τ = .ok (.rt p τ')) : sseq f g τ = .ok (.rt p τ') := by unfold sseq; rw [h]; rfl
theorem sif_ok (h : t τ = .ok (b, τ')) : sif t f g τ = if b = true then f τ' else g τ' := by unfold sif; rw [h]; rfl
theorem sif_t (h : t τ = .ok (true, τ')) (k : f τ' = r) : sif t f g τ = r := by rw [sif_ok h]; exact k
theorem sif_f (h : t τ = .ok (false, τ')) (k : g τ' = r) : sif t f g τ = r := by rw [sif_ok h]; exact k
theorem sasg_ok (h : e τ = .ok (p, τ1)) (k : G p τ1 = some τ') : sasg e G τ = .ok (.nx τ') := by unfold sasg; rw [h]; simp only [bnd_ok, k]
theorem sret_ok (h : e τ = .ok (p, τ')) : sret e τ = .ok (.rt p τ') := by unfold sret; rw [h]; rfl
theorem sdrop_ok (h : e τ = .ok (p, τ')) : sdrop e τ = .ok (.nx τ') := by unfold sdrop; rw [h]; rfl
theorem snx_ok : snx τ = .ok (.nx τ) := rfl
theorem runF_rt {n : Nat} {m : List Bool} {ps : List PV} (h : f (ps ++ List.replicate (n - ps.length) .un) = .ok (.rt p τ')) : runF n m f ps = .ok (p, selL m τ') := by unfold runF; rw [h]; rfl
theorem runF_nx {n : Nat} {m : List Bool} {ps : List PV} (h : f (ps ++ List.replicate (n - ps.length) .un) = .ok (.nx τ')) : runF n m f ps = .ok (.non, selL m τ') := by unfold runF; rw [h]; rfl
end
/-! ### what is wanted behind a run -/
inductive OK {α : Type} : Rs α → (α → Prop) → Prop
  | mk {a : α} {Q : α → Prop} : Q a → OK (.ok a) Q
section
variable {α : Type} {f g : En → Rs Fl} {t : En → Rs (Bool × En)} {e : En → Rs (PV × En)} {G : PV → En → Option En} {τ τ' τ1 : En} {p : PV} {b : Bool} {Q Q' : Fl → Prop}
theorem OK_of {r : Rs α} {a : α} {Q : α → Prop} (h : r = .ok a) (k : Q a) : OK r Q := by rw [h]; exact .mk k
theorem OK_ex {r : Rs α} {Q : α → Prop} : OK r Q → ∃ a, r = .ok a ∧ Q a := fun h => by
  cases h with
  | mk k => exact ⟨_, rfl, k⟩
theorem OK_mono {r : Rs α} {Q Q' : α → Prop} (h : OK r Q) (k : ∀ a, Q a → Q' a) : OK r Q' := by
  cases h with
  | mk h => exact .mk (k _ h)
def sq (g : En → Rs Fl) (Q : Fl → Prop) : Fl → Prop
  | .nx τ' => OK (g τ') Q
  | .rt p τ => Q (.rt p τ)
  | .bk τ => Q (.bk τ)
  | .ct τ => Q (.ct τ)
theorem OK_seq (h : OK (f τ) (sq g Q)) : OK (sseq f g τ) Q := by
  obtain ⟨a, e, k⟩ := OK_ex h
  unfold sseq
  rw [e]
  cases a with
  | nx τ' => exact k
  | rt p τ' => exact .mk k
  | bk τ' => exact .mk k
  | ct τ' => exact .mk k
theorem sq_nx (h : OK (g τ) Q) : sq g Q (.nx τ) := h
theorem sq_rt (h : Q (.rt p τ)) : sq g Q (.rt p τ) := h
theorem OK_if (h : t τ = .ok (b, τ')) (k : b = true → OK (f τ') Q) (k' : b = false → OK (g τ') Q) : OK (sif t f g τ) Q := by
  unfold sif
  rw [h]
  cases b with
  | true => exact k rfl
  | false => exact k' rfl
theorem OK_asg (h : e τ = .ok (p, τ1)) (k : G p τ1 = some τ') (q : Q (.nx τ')) : OK (sasg e G τ) Q := by rw [sasg_ok h k]; exact .mk q
theorem OK_ret (h : e τ = .ok (p, τ')) (q : Q (.rt p τ')) : OK (sret e τ) Q := by rw [sret_ok h]; exact .mk q
theorem OK_drop (h : e τ = .ok (p, τ')) (q : Q (.nx τ')) : OK (sdrop e τ) Q := by rw [sdrop_ok h]; exact .mk q
theorem OK_next (q : Q (.nx τ)) : OK (snx τ) Q := .mk q
theorem OK_cont (q : Q (.ct τ)) : OK (sct τ) Q := .mk q
theorem OK_break (q : Q (.bk τ)) : OK (sbk τ) Q := .mk q
/-- the end of a body -/
def rtn (m : List Bool) (Q : PV × List PV → Prop) : Fl → Prop
  | .rt p τ => Q (p, selL m τ)
  | .nx τ => Q (.non, selL m τ)
  | _ => False
theorem OK_run {n : Nat} {m : List Bool} {ps : List PV} {Q : PV × List PV → Prop} (h : OK (f (ps ++ List.replicate (n - ps.length) .un)) (rtn m Q)) : OK (runF n m f ps) Q := by
  obtain ⟨a, e, k⟩ := OK_ex h
  unfold runF
  rw [e]
  cases a with
  | nx τ => exact .mk k
  | rt p τ => exact .mk k
  | bk τ => exact k.elim
  | ct τ => exact k.elim
/-- a loop; Iv: what holds behind the things that were walked -/
theorem OK_for {fi : En → Rs (List PV × En)} {xs : List PV} (Iv : List PV → En → Prop) (hi : fi τ = .ok (xs, τ1)) (h0 : Iv [] τ1)
    (hs : ∀ done x rest τ, xs = done ++ x :: rest → Iv done τ → ∃ τ2, G x τ = some τ2 ∧ OK (g τ2) fun
      | .nx τ3 => Iv (done ++ [x]) τ3
      | .ct τ3 => Iv (done ++ [x]) τ3
      | .bk τ3 => Q (.nx τ3)
      | .rt p τ3 => Q (.rt p τ3))
    (he : ∀ τ, Iv xs τ → Q (.nx τ)) : OK (sfor fi G g τ) Q := by
  have go : ∀ rest done τ, xs = done ++ rest → Iv done τ → OK (forF G g rest τ) Q := by
    intro rest
    induction rest with
    | nil =>
      intro done τ ex iv
      rw [List.append_nil] at ex
      subst ex
      exact .mk (he τ iv)
    | cons x rest ih =>
      intro done τ ex iv
      obtain ⟨τ2, hg, hb⟩ := hs done x rest τ ex iv
      obtain ⟨a, ea, k⟩ := OK_ex hb
      unfold forF
      rw [hg]
      simp only [ea, bnd_ok]
      cases a with
      | nx τ3 => exact ih (done ++ [x]) τ3 (by rw [ex]; simp) k
      | ct τ3 => exact ih (done ++ [x]) τ3 (by rw [ex]; simp) k
      | bk τ3 => exact .mk k
      | rt p τ3 => exact .mk k
  unfold sfor
  rw [hi]
  exact go xs [] τ1 rfl h0
theorem OK_par {i j : Nat} {ga : En → Rs (List PV × En)} {p q : PV} (h : ga τ = .ok ([p, q], τ1)) (l : i < τ1.length ∧ j < τ1.length) (k : Q (.nx ((τ1.set i p).set j q))) : OK (spar i j ga τ) Q := by
  unfold spar
  rw [h]
  simp only [bnd_ok, if_pos l]
  exact .mk k
theorem OK_aug {F : Int → Int → Int} {i : Nat} {fi fe : En → Rs (PV × En)} (h : aug F i fi fe τ = .ok (.nx τ')) (k : Q (.nx τ')) : OK (aug F i fi fe τ) Q := by rw [h]; exact .mk k
end
theorem mulA_if (i j : Int) : gMulA (.int i) (.int j) = if cMul i j = true then some (.int (i * j)) else none := by
  unfold gMulA orB gMul iopC gRep
  by_cases h : cMul i j = true <;> simp [h]
theorem mulA_48271 (i : Int) : gMulA (.int i) (.int 48271) = some (.int (i * 48271)) := mulA_int (cMul_r (by decide) (by decide))
theorem mulA_39373 (i : Int) : gMulA (.int i) (.int 39373) = some (.int (i * 39373)) := mulA_int (cMul_r (by decide) (by decide))
theorem mulA_30011 (i : Int) : gMulA (.int i) (.int 30011) = some (.int (i * 30011)) := mulA_int (cMul_r (by decide) (by decide))
theorem mulA_7919 (i : Int) : gMulA (.int 7919) (.int i) = some (.int (7919 * i)) := mulA_int (cMul_l (by decide) (by decide))
theorem mulA_2 (i : Int) : gMulA (.int 2) (.int i) = some (.int (2 * i)) := mulA_int (cMul_l (by decide) (by decide))
theorem mulA_3 (i : Int) : gMulA (.int 3) (.int i) = some (.int (3 * i)) := mulA_int (cMul_l (by decide) (by decide))
theorem mod_2147483647 (i : Int) : gMod (.int i) (.int 2147483647) = some (.int (i.fmod 2147483647)) := rfl
theorem mod_1000000007 (i : Int) : gMod (.int i) (.int 1000000007) = some (.int (i.fmod 1000000007)) := rfl
theorem mod_998244353 (i : Int) : gMod (.int i) (.int 998244353) = some (.int (i.fmod 998244353)) := rfl
theorem mod_26 (i : Int) : gMod (.int i) (.int 26) = some (.int (i.fmod 26)) := rfl
theorem div_7 (i : Int) : gDiv (.int i) (.int 7) = some (.int (i.fdiv 7)) := rfl
theorem tyP_lst (o : Bool) (ps : List PV) : tyP (.lst o ps) = some "list" := rfl
theorem tyP_tup (ps : List PV) : tyP (.tup ps) = some "tuple" := rfl
theorem gList_lst (o : Bool) (ps : List PV) : gList [.lst o ps] = some (.lst true ps) := rfl
theorem gList_tup (ps : List PV) : gList [.tup ps] = some (.lst true ps) := rfl
theorem gTuple_lst (o : Bool) (ps : List PV) : gTuple [.lst o ps] = some (.tup ps) := rfl
theorem tyM_lst (o : Bool) (ps : List PV) : tyM (.lst o ps) = some "list" := rfl
theorem gAppend_eq (xs : List PV) (q : PV) : gAppend (.lst true xs) [q] = if fits (xs.length + 1) = true then some (.lst true (xs ++ [q]), .non) else none := rfl
theorem gInsert_eq (xs : List PV) (i : Int) (q : PV) : gInsert (.lst true xs) [.int i, q] = if (fits (xs.length + 1) && decide (0 ≤ i) && decide (i < 9223372036854775808)) = true then some (.lst true (xs.take i.toNat ++ [q] ++ xs.drop i.toNat), .non) else none := rfl
theorem minA_str (a b : Str) : gMinA [.str a, .str b] = some (.str (HK.minS a b)) := rfl
theorem maxA_str (a b : Str) : gMaxA [.str a, .str b] = some (.str (HK.maxS a b)) := rfl
theorem addA_str (a b : Str) : gAddA (.str a) (.str b) = if fits (a.length + b.length) = true then some (.str (a ++ b)) else none := by
  by_cases h : fits (a.length + b.length) = true
  · rw [if_pos h]
    show (match (if fits (a.length + b.length) = true then some (PV.str (a ++ b)) else none) with | some z => some z | none => none) = _
    rw [if_pos h]
  · rw [if_neg h]
    show (match (if fits (a.length + b.length) = true then some (PV.str (a ++ b)) else none) with | some z => some z | none => none) = _
    rw [if_neg h]
theorem addA_lst (o o' : Bool) (ps qs : List PV) : gAddA (.lst o ps) (.lst o' qs) = if fits (ps.length + qs.length) = true then some (.lst true (ps ++ qs)) else none := rfl
theorem fits_of {n : Nat} (h : n ≤ 16777216) : fits n = true := decide_eq_true h
theorem irng1_ok {f : En → Rs (List PV × En)} {τ τ' : En} {j : Int} (h : f τ = .ok ([.int j], τ')) (h0 : 0 ≤ j) (h1 : j < 1073741824) : irng1 f τ = .ok (rng 0 j.toNat, τ') := by
  unfold irng1
  rw [h]
  simp only [bnd_ok]
  rw [if_pos ⟨by omega, by omega⟩]
theorem irng2_ok {f : En → Rs (List PV × En)} {τ τ' : En} {i j : Int} (h : f τ = .ok ([.int i, .int j], τ')) (h0 : 0 ≤ i) (h0' : i < 1073741824) (h2 : 0 ≤ j) (h1 : j < 1073741824) : irng2 f τ = .ok (rng i (j - i).toNat, τ') := by
  unfold irng2
  rw [h]
  simp only [bnd_ok]
  rw [if_pos ⟨by omega, by omega, by omega, by omega⟩]
theorem rng_mem {lo : Int} {n : Nat} {x : PV} (h : x ∈ rng lo n) : ∃ j : Nat, x = .int (lo + j) ∧ j < n := by
  unfold rng at h
  obtain ⟨j, hj, rfl⟩ := List.mem_map.mp h
  exact ⟨j, rfl, List.mem_range.mp hj⟩
theorem rng_len {lo : Int} {n : Nat} : (rng lo n).length = n := by simp [rng]
/-- where a walk over numbers stands -/
theorem rng_at {lo : Int} {n : Nat} {done rest : List PV} {x : PV} (h : rng lo n = done ++ x :: rest) : x = .int (lo + (done.length : Nat)) ∧ done.length < n := by
  have l := congrArg List.length h
  rw [rng_len, List.length_append, List.length_cons] at l
  have e : (rng lo n)[done.length]? = some x := by rw [h, List.getElem?_append_right (Nat.le_refl _), Nat.sub_self]; rfl
  unfold rng at e
  rw [List.getElem?_map] at e
  obtain ⟨j, hj, e2⟩ := Option.map_eq_some_iff.mp e
  obtain ⟨hl, rfl⟩ := List.getElem?_eq_some_iff.mp hj
  rw [List.getElem_range] at e2
  exact ⟨e2.symm, by omega⟩
theorem fits_n0 : fits (0) = true := rfl
theorem fits_n1 : fits (0 + 1) = true := rfl
theorem fits_n2 : fits (0 + 1 + 1) = true := rfl
theorem fits_n3 : fits (0 + 1 + 1 + 1) = true := rfl
theorem fits_n4 : fits (0 + 1 + 1 + 1 + 1) = true := rfl
theorem fits_n5 : fits (0 + 1 + 1 + 1 + 1 + 1) = true := rfl
theorem fits_n6 : fits (0 + 1 + 1 + 1 + 1 + 1 + 1) = true := rfl
theorem fits_n7 : fits (0 + 1 + 1 + 1 + 1 + 1 + 1 + 1) = true := rfl
theorem fits_n8 : fits (0 + 1 + 1 + 1 + 1 + 1 + 1 + 1 + 1) = true := rfl
theorem fits_n9 : fits (0 + 1 + 1 + 1 + 1 + 1 + 1 + 1 + 1 + 1) = true := rfl
theorem fits_n10 : fits (0 + 1 + 1 + 1 + 1 + 1 + 1 + 1 + 1 + 1 + 1) = true := rfl
theorem fits_n11 : fits (0 + 1 + 1 + 1 + 1 + 1 + 1 + 1 + 1 + 1 + 1 + 1) = true := rfl
theorem fits_n12 : fits (0 + 1 + 1 + 1 + 1 + 1 + 1 + 1 + 1 + 1 + 1 + 1 + 1) = true := rfl
theorem fits_n13 : fits (0 + 1 + 1 + 1 + 1 + 1 + 1 + 1 + 1 + 1 + 1 + 1 + 1 + 1) = true := rfl
theorem fits_n14 : fits (0 + 1 + 1 + 1 + 1 + 1 + 1 + 1 + 1 + 1 + 1 + 1 + 1 + 1 + 1) = true := rfl
theorem fits_n15 : fits (0 + 1 + 1 + 1 + 1 + 1 + 1 + 1 + 1 + 1 + 1 + 1 + 1 + 1 + 1 + 1) = true := rfl
theorem fits_n16 : fits (0 + 1 + 1 + 1 + 1 + 1 + 1 + 1 + 1 + 1 + 1 + 1 + 1 + 1 + 1 + 1 + 1) = true := rfl
theorem fits_n17 : fits (0 + 1 + 1 + 1 + 1 + 1 + 1 + 1 + 1 + 1 + 1 + 1 + 1 + 1 + 1 + 1 + 1 + 1) = true := rfl
theorem fits_n18 : fits (0 + 1 + 1 + 1 + 1 + 1 + 1 + 1 + 1 + 1 + 1 + 1 + 1 + 1 + 1 + 1 + 1 + 1 + 1) = true := rfl
theorem fits_n19 : fits (0 + 1 + 1 + 1 + 1 + 1 + 1 + 1 + 1 + 1 + 1 + 1 + 1 + 1 + 1 + 1 + 1 + 1 + 1 + 1) = true := rfl
theorem fits_n20 : fits (0 + 1 + 1 + 1 + 1 + 1 + 1 + 1 + 1 + 1 + 1 + 1 + 1 + 1 + 1 + 1 + 1 + 1 + 1 + 1 + 1) = true := rfl
theorem fits_n21 : fits (0 + 1 + 1 + 1 + 1 + 1 + 1 + 1 + 1 + 1 + 1 + 1 + 1 + 1 + 1 + 1 + 1 + 1 + 1 + 1 + 1 + 1) = true := rfl
theorem fits_n22 : fits (0 + 1 + 1 + 1 + 1 + 1 + 1 + 1 + 1 + 1 + 1 + 1 + 1 + 1 + 1 + 1 + 1 + 1 + 1 + 1 + 1 + 1 + 1) = true := rfl
theorem fits_n23 : fits (0 + 1 + 1 + 1 + 1 + 1 + 1 + 1 + 1 + 1 + 1 + 1 + 1 + 1 + 1 + 1 + 1 + 1 + 1 + 1 + 1 + 1 + 1 + 1) = true := rfl
theorem fits_n24 : fits (0 + 1 + 1 + 1 + 1 + 1 + 1 + 1 + 1 + 1 + 1 + 1 + 1 + 1 + 1 + 1 + 1 + 1 + 1 + 1 + 1 + 1 + 1 + 1 + 1) = true := rfl
theorem fits_n25 : fits (0 + 1 + 1 + 1 + 1 + 1 + 1 + 1 + 1 + 1 + 1 + 1 + 1 + 1 + 1 + 1 + 1 + 1 + 1 + 1 + 1 + 1 + 1 + 1 + 1 + 1) = true := rfl
theorem fits_n26 : fits (0 + 1 + 1 + 1 + 1 + 1 + 1 + 1 + 1 + 1 + 1 + 1 + 1 + 1 + 1 + 1 + 1 + 1 + 1 + 1 + 1 + 1 + 1 + 1 + 1 + 1 + 1) = true := rfl
theorem fits_n27 : fits (0 + 1 + 1 + 1 + 1 + 1 + 1 + 1 + 1 + 1 + 1 + 1 + 1 + 1 + 1 + 1 + 1 + 1 + 1 + 1 + 1 + 1 + 1 + 1 + 1 + 1 + 1 + 1) = true := rfl
theorem fits_n28 : fits (0 + 1 + 1 + 1 + 1 + 1 + 1 + 1 + 1 + 1 + 1 + 1 + 1 + 1 + 1 + 1 + 1 + 1 + 1 + 1 + 1 + 1 + 1 + 1 + 1 + 1 + 1 + 1 + 1) = true := rfl
theorem fits_n29 : fits (0 + 1 + 1 + 1 + 1 + 1 + 1 + 1 + 1 + 1 + 1 + 1 + 1 + 1 + 1 + 1 + 1 + 1 + 1 + 1 + 1 + 1 + 1 + 1 + 1 + 1 + 1 + 1 + 1 + 1) = true := rfl
theorem fits_n30 : fits (0 + 1 + 1 + 1 + 1 + 1 + 1 + 1 + 1 + 1 + 1 + 1 + 1 + 1 + 1 + 1 + 1 + 1 + 1 + 1 + 1 + 1 + 1 + 1 + 1 + 1 + 1 + 1 + 1 + 1 + 1) = true := rfl
end FL

local macro_rules
  | `(tactic| push_cast [$ls,*] at $h:ident) => `(tactic| simp only [FL.stN, FL.stNil, FL.stCons, FL.stTup, FL.spar, FL.bnd_ok, FL.bnd_err, FL.bnd_no, FL.opt_some, FL.opt_none, FL.cst, FL.bin, FL.un1, FL.tst, FL.asB, FL.tnot, FL.tand, FL.tor, FL.bval, FL.vand, FL.vor, FL.vnot, FL.vif, FL.vnil, FL.vcons, FL.vtup, FL.vlst, FL.fzE, FL.cb, FL.has, FL.mutM, FL.aug, FL.augN, FL.stS, FL.tyes, FL.isi, FL.isi2, FL.oso, FL.ono, FL.slL, FL.slS, FL.dg2, FL.opC, List.length_cons, List.length_nil, List.set_cons_zero, List.set_cons_succ, List.getElem?_cons_zero, List.getElem?_cons_succ, if_true, if_false, Bool.false_eq_true, reduceCtorEq, List.nil_append, List.cons_append, List.length_append, List.length_replicate, List.replicate_zero, List.replicate_succ, FL.fz_int, FL.fz_str, FL.fz_bl, FL.fz_non, FL.fz_un, FL.fz_tup, FL.fz_lst, FL.fzs_nil, FL.fzs_cons, FL.addA_int, FL.sub_int, FL.gt_int, FL.lt_int, FL.le_int, FL.ge_int, FL.lt_str', FL.gInt_int, FL.gInt_bl, FL.eqA_int, FL.neA_int, FL.mod_int, FL.thing_non, FL.thing_bl, FL.thing_int, FL.thing_str, FL.thing_tup, FL.thing_lst, FL.thing_dct, FL.opB_O, FL.opB1_some, FL.opB2_some, FL.rd_O, FL.mv_O, FL.cb_O, FL.rdO_some, FL.mvO_some, FL.cbO_some, FL.atI_0, FL.atI_1, FL.atI_2, FL.atI_3, FL.ixA_lst, FL.ixA_tup, FL.isFz_int, FL.isFz_str, FL.isFz_bl, FL.isFz_non, FL.isFz_tup, FL.isFz_lstF, FL.isFzs_nil, FL.isFzs_cons, FL.lenA_lst, FL.lenA_tup, FL.on1_eq, FL.ixAb_lst', FL.ixAb_tup', FL.fzs_mapS, FL.isFzs_mapS, FL.isFzs_mapI, FL.ixL_lst, FL.ixSet_eq, Option.bind_some, Option.bind_none, Option.map_some, Option.map_none, FL.fzs_mapI, Bool.and_true, Bool.true_and, FL.mulA_48271, FL.mulA_39373, FL.mulA_30011, FL.mulA_7919, FL.mulA_2, FL.mulA_3, FL.mod_2147483647, FL.mod_1000000007, FL.mod_998244353, FL.mod_26, FL.div_7, FL.tyP_lst, FL.tyP_tup, FL.gList_lst, FL.gList_tup, FL.gTuple_lst, decide_false, FL.tyM_lst, FL.gAppend_eq, FL.gInsert_eq, FL.minA_str, FL.maxA_str, FL.addA_str, FL.addA_lst, FL.fits_n0, FL.fits_n1, FL.fits_n2, FL.fits_n3, FL.fits_n4, FL.fits_n5, FL.fits_n6, FL.fits_n7, FL.fits_n8, FL.fits_n9, FL.fits_n10, FL.fits_n11, FL.fits_n12, FL.fits_n13, FL.fits_n14, FL.fits_n15, FL.fits_n16, FL.fits_n17, FL.fits_n18, FL.fits_n19, FL.fits_n20, FL.fits_n21, FL.fits_n22, FL.fits_n23, FL.fits_n24, FL.fits_n25, FL.fits_n26, FL.fits_n27, FL.fits_n28, FL.fits_n29, FL.fits_n30, FL.cal, FL.takes, FL.puts, FL.weave, FL.selL, Bool.or_true, Bool.true_or, and_true, true_and, decide_true, and_self, eq_self, ne_eq, not_false_eq_true, FL.div_int, $ls,*] at $h:ident)
  | `(tactic| push_cast [$ls,*]) => `(tactic| simp only [FL.stN, FL.stNil, FL.stCons, FL.stTup, FL.spar, FL.bnd_ok, FL.bnd_err, FL.bnd_no, FL.opt_some, FL.opt_none, FL.cst, FL.bin, FL.un1, FL.tst, FL.asB, FL.tnot, FL.tand, FL.tor, FL.bval, FL.vand, FL.vor, FL.vnot, FL.vif, FL.vnil, FL.vcons, FL.vtup, FL.vlst, FL.fzE, FL.cb, FL.has, FL.mutM, FL.aug, FL.augN, FL.stS, FL.tyes, FL.isi, FL.isi2, FL.oso, FL.ono, FL.slL, FL.slS, FL.dg2, FL.opC, List.length_cons, List.length_nil, List.set_cons_zero, List.set_cons_succ, List.getElem?_cons_zero, List.getElem?_cons_succ, if_true, if_false, Bool.false_eq_true, reduceCtorEq, List.nil_append, List.cons_append, List.length_append, List.length_replicate, List.replicate_zero, List.replicate_succ, FL.fz_int, FL.fz_str, FL.fz_bl, FL.fz_non, FL.fz_un, FL.fz_tup, FL.fz_lst, FL.fzs_nil, FL.fzs_cons, FL.addA_int, FL.sub_int, FL.gt_int, FL.lt_int, FL.le_int, FL.ge_int, FL.lt_str', FL.gInt_int, FL.gInt_bl, FL.eqA_int, FL.neA_int, FL.mod_int, FL.thing_non, FL.thing_bl, FL.thing_int, FL.thing_str, FL.thing_tup, FL.thing_lst, FL.thing_dct, FL.opB_O, FL.opB1_some, FL.opB2_some, FL.rd_O, FL.mv_O, FL.cb_O, FL.rdO_some, FL.mvO_some, FL.cbO_some, FL.atI_0, FL.atI_1, FL.atI_2, FL.atI_3, FL.ixA_lst, FL.ixA_tup, FL.isFz_int, FL.isFz_str, FL.isFz_bl, FL.isFz_non, FL.isFz_tup, FL.isFz_lstF, FL.isFzs_nil, FL.isFzs_cons, FL.lenA_lst, FL.lenA_tup, FL.on1_eq, FL.ixAb_lst', FL.ixAb_tup', FL.fzs_mapS, FL.isFzs_mapS, FL.isFzs_mapI, FL.ixL_lst, FL.ixSet_eq, Option.bind_some, Option.bind_none, Option.map_some, Option.map_none, FL.fzs_mapI, Bool.and_true, Bool.true_and, FL.mulA_48271, FL.mulA_39373, FL.mulA_30011, FL.mulA_7919, FL.mulA_2, FL.mulA_3, FL.mod_2147483647, FL.mod_1000000007, FL.mod_998244353, FL.mod_26, FL.div_7, FL.tyP_lst, FL.tyP_tup, FL.gList_lst, FL.gList_tup, FL.gTuple_lst, decide_false, FL.tyM_lst, FL.gAppend_eq, FL.gInsert_eq, FL.minA_str, FL.maxA_str, FL.addA_str, FL.addA_lst, FL.fits_n0, FL.fits_n1, FL.fits_n2, FL.fits_n3, FL.fits_n4, FL.fits_n5, FL.fits_n6, FL.fits_n7, FL.fits_n8, FL.fits_n9, FL.fits_n10, FL.fits_n11, FL.fits_n12, FL.fits_n13, FL.fits_n14, FL.fits_n15, FL.fits_n16, FL.fits_n17, FL.fits_n18, FL.fits_n19, FL.fits_n20, FL.fits_n21, FL.fits_n22, FL.fits_n23, FL.fits_n24, FL.fits_n25, FL.fits_n26, FL.fits_n27, FL.fits_n28, FL.fits_n29, FL.fits_n30, FL.cal, FL.takes, FL.puts, FL.weave, FL.selL, Bool.or_true, Bool.true_or, and_true, true_and, decide_true, and_self, eq_self, ne_eq, not_false_eq_true, FL.div_int, $ls,*])
  | `(tactic| push_cast) => `(tactic| simp only [FL.stN, FL.stNil, FL.stCons, FL.stTup, FL.spar, FL.bnd_ok, FL.bnd_err, FL.bnd_no, FL.opt_some, FL.opt_none, FL.cst, FL.bin, FL.un1, FL.tst, FL.asB, FL.tnot, FL.tand, FL.tor, FL.bval, FL.vand, FL.vor, FL.vnot, FL.vif, FL.vnil, FL.vcons, FL.vtup, FL.vlst, FL.fzE, FL.cb, FL.has, FL.mutM, FL.aug, FL.augN, FL.stS, FL.tyes, FL.isi, FL.isi2, FL.oso, FL.ono, FL.slL, FL.slS, FL.dg2, FL.opC, List.length_cons, List.length_nil, List.set_cons_zero, List.set_cons_succ, List.getElem?_cons_zero, List.getElem?_cons_succ, if_true, if_false, Bool.false_eq_true, reduceCtorEq, List.nil_append, List.cons_append, List.length_append, List.length_replicate, List.replicate_zero, List.replicate_succ, FL.fz_int, FL.fz_str, FL.fz_bl, FL.fz_non, FL.fz_un, FL.fz_tup, FL.fz_lst, FL.fzs_nil, FL.fzs_cons, FL.addA_int, FL.sub_int, FL.gt_int, FL.lt_int, FL.le_int, FL.ge_int, FL.lt_str', FL.gInt_int, FL.gInt_bl, FL.eqA_int, FL.neA_int, FL.mod_int, FL.thing_non, FL.thing_bl, FL.thing_int, FL.thing_str, FL.thing_tup, FL.thing_lst, FL.thing_dct, FL.opB_O, FL.opB1_some, FL.opB2_some, FL.rd_O, FL.mv_O, FL.cb_O, FL.rdO_some, FL.mvO_some, FL.cbO_some, FL.atI_0, FL.atI_1, FL.atI_2, FL.atI_3, FL.ixA_lst, FL.ixA_tup, FL.isFz_int, FL.isFz_str, FL.isFz_bl, FL.isFz_non, FL.isFz_tup, FL.isFz_lstF, FL.isFzs_nil, FL.isFzs_cons, FL.lenA_lst, FL.lenA_tup, FL.on1_eq, FL.ixAb_lst', FL.ixAb_tup', FL.fzs_mapS, FL.isFzs_mapS, FL.isFzs_mapI, FL.ixL_lst, FL.ixSet_eq, Option.bind_some, Option.bind_none, Option.map_some, Option.map_none, FL.fzs_mapI, Bool.and_true, Bool.true_and, FL.mulA_48271, FL.mulA_39373, FL.mulA_30011, FL.mulA_7919, FL.mulA_2, FL.mulA_3, FL.mod_2147483647, FL.mod_1000000007, FL.mod_998244353, FL.mod_26, FL.div_7, FL.tyP_lst, FL.tyP_tup, FL.gList_lst, FL.gList_tup, FL.gTuple_lst, decide_false, FL.tyM_lst, FL.gAppend_eq, FL.gInsert_eq, FL.minA_str, FL.maxA_str, FL.addA_str, FL.addA_lst, FL.fits_n0, FL.fits_n1, FL.fits_n2, FL.fits_n3, FL.fits_n4, FL.fits_n5, FL.fits_n6, FL.fits_n7, FL.fits_n8, FL.fits_n9, FL.fits_n10, FL.fits_n11, FL.fits_n12, FL.fits_n13, FL.fits_n14, FL.fits_n15, FL.fits_n16, FL.fits_n17, FL.fits_n18, FL.fits_n19, FL.fits_n20, FL.fits_n21, FL.fits_n22, FL.fits_n23, FL.fits_n24, FL.fits_n25, FL.fits_n26, FL.fits_n27, FL.fits_n28, FL.fits_n29, FL.fits_n30, FL.cal, FL.takes, FL.puts, FL.weave, FL.selL, Bool.or_true, Bool.true_or, and_true, true_and, decide_true, and_self, eq_self, ne_eq, not_false_eq_true, FL.div_int])
namespace FL
open PySem PySem.Spec PyProof.Rows L2
/-- _law_bag(_law_script), slots _law_script _law_cell -/
def b_l_bag : En → Rs Fl :=
    (sret (vlst (vcons (cst (.int 0)) (vcons (cst (.int 1234567891)) (vcons (cst (.int 0)) (vcons (fzE (vlc (ilst (slL (rd 0) ono (oso (cst (.int 63))))) (stN 1) tyes (cb (on1 gAbs) (vcons (rd 1) vnil)) [1])) vnil))))))
def F_l_bag : FnF := runF 2 [false] b_l_bag
/-- _law_take(_law_bag_here, _law_many), slots _law_bag_here _law_many _law_cell _law_mixed_here _law_drawn _law_early _law_second -/
def b_l_take : En → Rs Fl :=
    (sseq (sif (tst (bin (gEqA false) (opB ixAb 0 (cst (.int 0))) (cst (.int 0))))
       (sseq (sasg (cst (.int 0)) (stN 2))
      (sseq (sif (tst (bin gLtA (opB ixAb 0 (cst (.int 2))) (cb (on1 gLenA) (vcons (opB ixAb 0 (cst (.int 3))) vnil))))
         (sasg (bin ixA (opB ixAb 0 (cst (.int 3))) (opB ixAb 0 (cst (.int 2)))) (stN 2))
         snx)
      (sseq (aug (fun i j => i + j) 0 (cst (.int 2)) (cst (.int 1)))
      (sseq (sif (tst (bin gGe (rd 2) (cst (.int 1000000000000000000))))
         (sasg (rd 2) (stS ixSet 0 (cst (.int 0))))
         snx)
      (sseq (sasg (bin gAddA (bin gAddA (bin gMulA (opB ixAb 0 (cst (.int 1))) (cst (.int 48271))) (bin gMod (cb (on1 gInt) (vcons (rd 2) vnil)) (cst (.int 2147483647)))) (bin gMulA (cst (.int 7919)) (opB ixAb 0 (cst (.int 2))))) (stN 3))
      (sasg (bin gMod (cb (on1 gInt) (vcons (rd 3) vnil)) (cst (.int 2147483647))) (stS ixSet 0 (cst (.int 1)))))))))
       snx)
    (sseq (sif (tst (bin gGtA (opB ixAb 0 (cst (.int 0))) (cst (.int 0))))
       (sseq (sasg (bin gMod (cb (on1 gInt) (vcons (opB ixAb 0 (cst (.int 0))) vnil)) (rd 1)) (stN 4))
      (sseq (sasg (bin gDiv (opB ixAb 0 (cst (.int 0))) (rd 1)) (stS ixSet 0 (cst (.int 0))))
      (sret (mv 4))))
       snx)
    (sseq (sasg (bin gMod (cb (on1 gInt) (vcons (bin gMulA (bin gAddA (opB ixAb 0 (cst (.int 1))) (cst (.int 1))) (cst (.int 39373))) vnil)) (cst (.int 1000000007))) (stN 5))
    (sseq (sasg (bin gMod (cb (on1 gInt) (vcons (bin gMulA (bin gMod (cb (on1 gInt) (vcons (bin gMulA (rd 5) (rd 5)) vnil)) (cst (.int 998244353))) (cst (.int 30011))) vnil)) (cst (.int 998244353))) (stN 6))
    (sret (bin gMod (cb (on1 gInt) (vcons (bin gDiv (rd 6) (cst (.int 7))) vnil)) (rd 1)))))))
def F_l_take : FnF := runF 7 [true, false] b_l_take
/-- _law_alike(_law_found, _law_due_here), slots _law_found _law_due_here -/
def b_l_alike : En → Rs Fl :=
    (sret (vand (bin (gEqA false) (rd 0) (rd 1)) (bin (gEqA false) (cbB gRepr 0) (cbB gRepr 1))))
def F_l_alike : FnF := runF 2 [false, false] b_l_alike
/-- _law_one(_law_bag_here, _law_things), slots _law_bag_here _law_things -/
def b_l_one : En → Rs Fl :=
    (sret (opB ixAb 1 (cal [true, false] F_l_take [0] (has 0 (vcons (cbB gLenA 1) vnil)))))
def F_l_one : FnF := runF 2 [true, false] b_l_one
/-- _law_mixed(_law_bag_here, _law_things), slots _law_bag_here _law_things _law_found _law_thing -/
def b_l_mixed : En → Rs Fl :=
    (sseq (sasg (vlst vnil) (stN 2))
    (sseq (sfor (ilst (rd 1)) (stN 3)
       (sdrop (mutM "list" gInsert 2 (vcons (cal [true, false] F_l_take [0] (has 0 (vcons (bin gAddA (cbB gLenA 2) (cst (.int 1))) vnil))) (vcons (rd 3) vnil)))))
    (sret (mv 2))))
def F_l_mixed : FnF := runF 4 [true, false] b_l_mixed
/-- _law_kinds(_law_bag_here, _law_many), slots _law_bag_here _law_many _law_way _law_turn _law_menu _law_stem _law_k -/
def b_l_kinds : En → Rs Fl :=
    (sseq (sasg (vtup (vcons (cal [true, false] F_l_take [0] (has 0 (vcons (cst (.int 4)) vnil))) (vcons (cal [true, false] F_l_take [0] (has 0 (vcons (cst (.int 12)) vnil))) vnil))) (stTup 2 (stCons (stN 2) (stCons (stN 3) stNil))))
    (sseq (sasg (vlst (vcons (cst (.str "a")) (vcons (cst (.str "aa")) (vcons (cst (.str "b")) (vcons (cst (.str "ab")) (vcons (cst (.str "ba")) (vcons (cst (.str "z")) (vcons (cst (.str "zz")) (vcons (cst (.str "hook")) (vcons (cst (.str "end")) (vcons (cst (.str "zzzzzzzz")) (vcons (cst (.str "true")) (vcons (cst (.str "mm")) vnil))))))))))))) (stN 4))
    (sseq (sif (tst (bin (gEqA false) (rd 2) (cst (.int 0))))
       (sret (cb (on1 gSorted) (vcons (slL (bin gAddA (rd 4) (rd 4)) (oso (rd 3)) (oso (bin gAddA (rd 3) (rd 1)))) vnil)))
       snx)
    (sseq (sif (tst (bin (gEqA false) (rd 2) (cst (.int 1))))
       (sret (slL (vlst (vcons (cst (.str "a")) (vcons (cst (.str "b")) (vcons (cst (.str "c")) (vcons (cst (.str "d")) (vcons (cst (.str "e")) (vcons (cst (.str "f")) (vcons (cst (.str "g")) (vcons (cst (.str "h")) vnil))))))))) ono (oso (rd 1))))
       snx)
    (sseq (sasg (slS (cst (.str "xq")) ono (oso (cal [true, false] F_l_take [0] (has 0 (vcons (cst (.int 3)) vnil))))) (stN 5))
    (sret (cb (on1 gSorted) (vcons (vlc (irng1 (vcons (rd 1) vnil)) (stN 6) tyes (bin gAddA (rd 5) (bin ixA (cst (.str "abcdefghijklmnopqrstuvwxyz")) (bin gMod (cb (on1 gInt) (vcons (bin gAddA (bin gMulA (cst (.int 2)) (rd 3)) (bin gMulA (cst (.int 3)) (rd 6))) vnil)) (cst (.int 26))))) [6]) vnil))))))))
def F_l_kinds : FnF := runF 7 [true, false] b_l_kinds
/-- _law_begin(_law_step), slots _law_step -/
def b_l_begin : En → Rs Fl :=
    (sret (vif (tst (opB ixAb 0 (cst (.int 1)))) (bin ixA (opB ixAb 0 (cst (.int 0))) (cst (.int 1))) (bin ixA (opB ixAb 0 (cst (.int 0))) (cst (.int 0)))))
def F_l_begin : FnF := runF 1 [false] b_l_begin
/-- _law_end(_law_step), slots _law_step -/
def b_l_end : En → Rs Fl :=
    (sret (vif (tst (opB ixAb 0 (cst (.int 1)))) (bin ixA (opB ixAb 0 (cst (.int 0))) (cst (.int 0))) (bin ixA (opB ixAb 0 (cst (.int 0))) (cst (.int 1)))))
def F_l_end : FnF := runF 1 [false] b_l_end
/-- _law_step_on(_law_bag_here, _law_here, _law_there), slots _law_bag_here _law_here _law_there -/
def b_l_step_on : En → Rs Fl :=
    (sseq (sif (tst (bin (gEqA false) (cal [true, false] F_l_take [0] (has 0 (vcons (cst (.int 2)) vnil))) (cst (.int 0))))
       (sret (vtup (vcons (vtup (vcons (rd 1) (vcons (rd 2) (vcons (cst (.bl false)) vnil)))) (vcons (cst (.bl false)) vnil))))
       snx)
    (sret (vtup (vcons (vtup (vcons (cb gMinA (vcons (rd 1) (vcons (rd 2) vnil))) (vcons (cb gMaxA (vcons (rd 1) (vcons (rd 2) vnil))) (vcons (cst (.bl true)) vnil)))) (vcons (bin gLtA (rd 2) (rd 1)) vnil)))))
def F_l_step_on : FnF := runF 3 [true, false, false] b_l_step_on
/-- _law_row_from(_law_bag_here, _law_kinds_here, _law_here, _law_upto), slots _law_bag_here _law_kinds_here _law_here _law_upto _law_found _law_k _law_there -/
def b_l_row_from : En → Rs Fl :=
    (sseq (sasg (vlst vnil) (stN 4))
    (sseq (sfor (irng1 (vcons (bin gAddA (cst (.int 1)) (cal [true, false] F_l_take [0] (has 0 (vcons (rd 3) vnil)))) vnil)) (stN 5)
       (sseq (sasg (cal [true, false] F_l_one [0] (has 0 (vcons (rd 1) vnil))) (stN 6))
      (sseq (sdrop (mutM "list" gAppend 4 (vcons (cal [true, false, false] F_l_step_on [0] (has 0 (vcons (rd 2) (vcons (rd 6) vnil)))) vnil)))
      (sasg (rd 6) (stN 2)))))
    (sret (mv 4))))
def F_l_row_from : FnF := runF 7 [true, false, false, false] b_l_row_from
end FL

namespace FL
open PySem PySem.Spec PyProof.Rows L2
/-- has_two_steps(cart), slots cart front back turns -/
def b_has_two_steps : En → Rs Fl :=
    (sseq (sasg (rd 0) (stTup 3 (stCons (stN 1) (stCons (stN 2) (stCons (stN 3) stNil)))))
    (sret (vand (rd 3) (bin (gEqA true) (rd 1) (rd 2)))))
def F_has_two_steps : FnF := runF 4 [false] b_has_two_steps
/-- begin_of(step), slots step cart turned -/
def b_begin_of : En → Rs Fl :=
    (sseq (sasg (rd 0) (stTup 2 (stCons (stN 1) (stCons (stN 2) stNil))))
    (sret (vif (tst (rd 2)) (opB ixAb 1 (cst (.int 1))) (opB ixAb 1 (cst (.int 0))))))
def F_begin_of : FnF := runF 3 [false] b_begin_of
/-- end_of(step), slots step cart turned -/
def b_end_of : En → Rs Fl :=
    (sseq (sasg (rd 0) (stTup 2 (stCons (stN 1) (stCons (stN 2) stNil))))
    (sret (vif (tst (rd 2)) (opB ixAb 1 (cst (.int 0))) (opB ixAb 1 (cst (.int 1))))))
def F_end_of : FnF := runF 3 [false] b_end_of
/-- about(step), slots step cart turned -/
def b_about (CF : Addr) : En → Rs Fl :=
    (sseq (sasg (rd 0) (stTup 2 (stCons (stN 1) (stCons (stN 2) stNil))))
    (sseq (sif (tnot (tst (opB ixAb 1 (cst (.int 2)))))
       (sraise CF "index" (vcons (cst (.int 0)) vnil))
       snx)
    (sret (vif (tst (cal [false] F_has_two_steps [] (vcons (rd 1) vnil))) (vtup (vcons (rd 1) (vcons (vnot (rd 2)) vnil))) (vtup (vcons (rd 1) (vcons (rd 2) vnil)))))))
def F_about (CF : Addr) : FnF := runF 3 [false] (b_about CF)
/-- row_ends(row), slots row -/
def b_row_ends : En → Rs Fl :=
    (sret (vtup (vcons (cal [false] F_begin_of [] (vcons (opB ixAb 0 (cst (.int 0))) vnil)) (vcons (cal [false] F_end_of [] (vcons (opB ixAb 0 (un1 gNeg (cst (.int 1)))) vnil)) vnil))))
def F_row_ends : FnF := runF 1 [false] b_row_ends
/-- carts_in(row), slots row found cart _ -/
def b_carts_in : En → Rs Fl :=
    (sseq (sasg dnew (stN 1))
    (sseq (sfor (ilst (rd 0)) (stTup 2 (stCons (stN 2) (stCons (stN 3) stNil)))
       (sasg (bin gAddA (dg2 1 (rd 2) (cst (.int 0))) (cst (.int 1))) (stS dset 1 (rd 2))))
    (sret (vdc (ilst (cbB gSortedD 1)) (stN 2) tyes (rd 2) (opB dget1 1 (rd 2)) [2]))))
def F_carts_in : FnF := runF 4 [false] b_carts_in
/-- first_fixed(row), slots row index cart _ -/
def b_first_fixed : En → Rs Fl :=
    (sseq (sfor (ienum (vcons (rd 0) vnil)) (stTup 2 (stCons (stN 1) (stCons (stTup 2 (stCons (stN 2) (stCons (stN 3) stNil))) stNil)))
       (sif (tnot (tst (opB ixAb 2 (cst (.int 2)))))
         (sret (mv 1))
         snx))
    (sret (cst .non)))
def F_first_fixed : FnF := runF 4 [false] b_first_fixed
/-- row_about(row), slots row index step -/
def b_row_about (CF : Addr) : En → Rs Fl :=
    (sseq (sasg (cal [false] F_first_fixed [] (vcons (rd 0) vnil)) (stN 1))
    (sseq (sif (tst (bin (gIsN true) (rd 1) (cst .non)))
       (sraise CF "index" (vcons (rd 1) vnil))
       snx)
    (sret (vlc (ilst (revL (rd 0))) (stN 2) tyes (cal [false] (F_about CF) [] (vcons (rd 2) vnil)) [2]))))
def F_row_about (CF : Addr) : FnF := runF 3 [false] (b_row_about CF)
/-- _law_added(_law_numbers, _law_cart, _law_many), slots _law_numbers _law_cart _law_many _law_there -/
def b_l_added : En → Rs Fl :=
    (sseq (sasg (bin gAddA (dg2 0 (rd 1) (cst (.int 0))) (rd 2)) (stN 3))
    (sif (tst (bin (gEqA true) (rd 3) (cst (.int 0))))
       (sasg (rd 3) (stS dset 0 (rd 1)))
       (sif (tst (opC (dinP false) 0 (rd 1)))
         (sdrop (mutM "dict" gNever 0 (vcons (rd 1) vnil)))
         snx)))
def F_l_added : FnF := runF 4 [true, false, false] b_l_added
/-- _law_odd_value(_law_bag_here), slots _law_bag_here _law_deep _law_k _law_some -/
def b_l_odd_value : En → Rs Fl :=
    (sseq (sasg (vlst vnil) (stN 1))
    (sseq (sfor (irng1 (vcons (cst (.int 9)) vnil)) (stN 2)
       (sasg (vlst (vcons (rd 1) vnil)) (stN 1)))
    (sseq (sasg (vlst (vcons (cst .non) (vcons (cst (.bl true)) (vcons (cst (.bl false)) (vcons (cst (.int 0)) (vcons (cst (.int 1)) (vcons (un1 gNeg (cst (.int 1))) (vcons (cst (.int 2)) (vcons (bin gPow (cst (.int 10)) (cst (.int 31))) (vcons (cst (.str "")) (vcons (cst (.str "a")) (vcons (cst (.str "A")) (vcons (cst (.str "ab")) (vcons (cst (.str "abcdefghi")) (vcons (cst (.str "a b")) (vcons (cst (.str "aaaaaaaa")) (vcons (vtup vnil) (vcons (fzE (vlst vnil)) (vcons dnewE vnil))))))))))))))))))) (stN 3))
    (sseq (sasg (bin gAddA (rd 3) (vlst (vcons (vtup (vcons (cst (.str "a")) (vcons (cst (.str "b")) (vcons (cst (.bl true)) vnil)))) (vcons (vtup (vcons (cst (.str "b")) (vcons (cst (.str "a")) (vcons (cst (.bl true)) vnil)))) (vcons (vtup (vcons (cst (.str "a")) (vcons (cst (.str "b")) (vcons (cst (.int 1)) vnil)))) (vcons (vtup (vcons (cst (.str "a")) (vcons (cst (.str "a")) (vcons (cst (.bl true)) vnil)))) (vcons (vtup (vcons (vtup (vcons (cst (.str "a")) (vcons (cst (.str "b")) (vcons (cst (.bl true)) vnil)))) (vcons (cst (.bl true)) vnil))) vnil))))))) (stN 3))
    (sseq (sasg (bin gAddA (rd 3) (vlst (vcons (vtup (vcons (vtup (vcons (cst (.str "a")) (vcons (cst (.str "b")) (vcons (cst (.bl false)) vnil)))) (vcons (cst (.bl true)) vnil))) (vcons (vtup (vcons (vtup (vcons (cst (.str "a")) (vcons (cst (.str "a")) (vcons (cst (.bl true)) vnil)))) (vcons (cst (.bl true)) vnil))) (vcons (fzE (vlst (vcons (cst (.str "a")) (vcons (cst (.str "b")) (vcons (cst (.bl false)) vnil))))) (vcons (bin gMulA (vlst (vcons (cst .non) vnil)) (cst (.int 900))) (vcons (rd 1) vnil))))))) (stN 3))
    (sret (cal [true, false] F_l_one [0] (has 0 (vcons (rd 3) vnil)))))))))
def F_l_odd_value : FnF := runF 4 [true] b_l_odd_value
/-- _law_bent(_law_bag_here, _law_thing), slots _law_bag_here _law_thing _law_way _law_found _law_at -/
def b_l_bent (R : FnF) : En → Rs Fl :=
    (sseq (sasg (cal [true, false] F_l_take [0] (has 0 (vcons (cst (.int 8)) vnil))) (stN 2))
    (sseq (sif (tor (tst (bin (gEqA false) (rd 2) (cst (.int 0)))) (tor (tnot (tst (isi2 "list" "tuple" (rd 1)))) (tst (bin (gEqA false) (cbB gLenA 1) (cst (.int 0))))))
       (sret (cal [true] F_l_odd_value [0] (has 0 vnil)))
       snx)
    (sseq (spar 3 4 (vcons (cb gList (vcons (rd 1) vnil)) (vcons (cal [true, false] F_l_take [0] (has 0 (vcons (cbB gLenA 1) vnil))) vnil)))
    (sseq (sif (tst (bin gLtA (rd 2) (cst (.int 5))))
       (sasg (cal [true, false] R [0] (has 0 (vcons (opB ixAb 3 (rd 4)) vnil))) (stS ixSet 3 (rd 4)))
       snx)
    (sseq (sif (tst (bin (gEqA false) (rd 2) (cst (.int 5))))
       (sdrop (mutM "list" gInsert 3 (vcons (bin gAddA (rd 4) (cal [true, false] F_l_take [0] (has 0 (vcons (cst (.int 2)) vnil)))) (vcons (cal [true] F_l_odd_value [0] (has 0 vnil)) vnil))))
       snx)
    (sseq (sif (tst (bin (gEqA false) (rd 2) (cst (.int 6))))
       (sdrop (mutM "list" gPop 3 (vcons (rd 4) vnil)))
       snx)
    (sseq (sif (tst (bin (gEqA false) (rd 2) (cst (.int 7))))
       (sasg (bin gAddA (rd 3) (slL (rd 3) (oso (rd 4)) (oso (bin gAddA (rd 4) (cst (.int 1)))))) (stN 3))
       snx)
    (sseq (sif (tst (bin (gEqA false) (cal [true, false] F_l_take [0] (has 0 (vcons (cst (.int 6)) vnil))) (cst (.int 0))))
       (sret (vif (tst (isi "list" (rd 1))) (cb gTuple (vcons (rd 3) vnil)) (rd 3)))
       snx)
    (sret (vif (tst (isi "list" (rd 1))) (rd 3) (cb gTuple (vcons (rd 3) vnil))))))))))))
def F_l_bent : Nat → FnF
  | 0 => fun _ => .no
  | n + 1 => runF 5 [true, false] (b_l_bent (F_l_bent n))
/-- _law_due(_law_row), slots _law_row _law_fixed _law_k _law_cart _law_turned -/
def b_l_due : En → Rs Fl :=
    (sseq (sasg (vlc (irng1 (vcons (cbB gLenA 0) vnil)) (stN 2) (tnot (tst (bin ixA (bin ixA (opB ixAb 0 (rd 2)) (cst (.int 0))) (cst (.int 2))))) (rd 2) [2]) (stN 1))
    (sseq (sif (tst (bin (gEqA true) (rd 1) (vlst vnil)))
       (sret (vtup (vcons (cst (.str "fixed")) (vcons (opB ixAb 1 (cst (.int 0))) vnil))))
       snx)
    (sret (vtup (vcons (cst (.str "told")) (vcons (vlc (ilst (revL (rd 0))) (stTup 2 (stCons (stN 3) (stCons (stN 4) stNil))) tyes (vtup (vcons (rd 3) (vcons (vand (vnot (rd 4)) (bin (gEqA true) (opB ixAb 3 (cst (.int 0))) (opB ixAb 3 (cst (.int 1))))) vnil))) [3, 4]) vnil))))))
def F_l_due : FnF := runF 5 [false] b_l_due
end FL

namespace FL
open PySem PySem.Spec PyProof.Rows L2
/-- _law_sorted(_law_numbers), slots _law_numbers -/
def b_l_sorted : En → Rs Fl :=
    (sret (dSort (rd 0)))
def F_l_sorted : FnF := runF 1 [false] b_l_sorted
/-- _law_carts_of(_law_train), slots _law_train _law_found _law_many _law_row _law_step -/
def b_l_carts_of : En → Rs Fl :=
    (sseq (sasg dnew (stN 1))
    (sseq (sfor (ilst (rd 0)) (stTup 2 (stCons (stN 2) (stCons (stN 3) stNil)))
       (sfor (ilst (rd 3)) (stN 4)
         (sdrop (cal [true, false, false] F_l_added [1] (has 1 (vcons (opB ixAb 4 (cst (.int 0))) (vcons (rd 2) vnil)))))))
    (sret (cal [false] F_l_sorted [] (vcons (rd 1) vnil)))))
def F_l_carts_of : FnF := runF 5 [false] b_l_carts_of
end FL

namespace HKX
open PySem PySem.Spec PyProof.Rows L2
/-- isinstance(e, c), e the exception with a dict of its own that the suite holds -/
def rIsX (K : PySem.W.Frag) (D a : Addr) (cls : Value) (d : Option Addr) : List V → Hp → VK → Prop := fun xs H Q => ∃ (c : V) (cv : Value) (b : Bool) (dd : Addr) (fs : List (Str × V)), xs = [.ref a, c] ∧ cls = .ref D ∧ d = some dd ∧ H dd = some (.xd fs) ∧ (∀ u, RelV c u → u = cv) ∧ PySem.W.kitOne K (.ref D) cv = some b ∧ Q (.bl b) H
theorem call_isX {X : Cx} {a D : Addr} {oe : Obj} {cls : Value} {d : Option Addr} {pn : List (Addr × Obj)} (C : ExcC X.K D) (hz : Zc cls d oe) (hf : ∃ vs, oe.data = .fields vs) : CallR (X.suite a ((a, oe) :: pn)) (.builtin "isinstance") (rIsX X.K D a cls d) := by
  intro pins s σ H xs us Q I r h
  obtain ⟨c, cv, b, dd, fs, rfl, rfl, rfl, hd, hcv, e, q⟩ := h
  obtain ⟨u1, u2, rfl, rx, rt⟩ := vals2 r
  cases rx
  have ec := hcv _ rt
  subst ec
  obtain ⟨hget, _⟩ := I.pin (a, oe) (List.mem_append.mpr (.inl List.mem_cons_self))
  obtain ⟨vs, hv⟩ := hf
  obtain ⟨mA, hns, _⟩ : ObjOk X.prog X.w H s.heap dd (.xd fs) := I.hok dd _ hd
  obtain ⟨od, ho, _⟩ := lookIn_ns hns
  have J : PySem.W.InstAt s.heap a oe D (some od) := ⟨hget, hz.1, by unfold PySem.W.notCls; rw [hv] <;> rfl, by rw [hz.2]; exact ho⟩
  have hcl : (PySem.W.clsIn X.K D).isSome = true := by
    obtain ⟨cd, hc, _⟩ := PySem.W.any_some C.hd
    rw [hc]
    rfl
  exact PySem.W.kia_one (PySem.W.kitx_exc hcl C.hg C.hk C.hs C.ha C.hn C.ht C.hm) I.kIn J e (fun z => nomatch z) fun tk => ⟨.bl b, H, I.kept (t' := tk) fun _ _ z => z, rfl, q⟩
structure TxE (K : PySem.W.Frag) (mg : Str → Option Value) (CE CF fI : Addr) : Prop where
  fx : PySem.FxX.FxTxt K mg CF fI
  gE : mg "CartError" = some (.ref CE)
  ex : PySem.W.exmOne K (.ref CF) (.ref CE) = some true
  xc : ExcC K CF
  is : PySem.W.kitOne K (.ref CF) (.ref CF) = some true
  n_isi : mg "isinstance" = none
theorem TxE.xf {K : PySem.W.Frag} {mg : Str → Option Value} {CE CF fI : Addr} (T : TxE K mg CE CF fI) : XfC K CF := ⟨T.fx.ga, T.fx.gg, T.fx.exC, T.fx.hdC⟩
end HKX

namespace HK
open PySem PySem.Spec PyProof.Rows L2
def Asc (x : Str) : Prop := ∀ c ∈ x.cps.toList, c < 128
theorem Asc.app {x y : Str} (h : Asc x) (k : Asc y) : Asc (x ++ y) := fun c hc => by
  have e : (x ++ y).cps = x.cps ++ y.cps := rfl
  rw [e, Array.toList_append] at hc
  rcases List.mem_append.mp hc with z | z
  · exact h c z
  · exact k c z
def ascB (x : Str) : Bool := x.cps.toList.all fun c => decide (c < 128)
theorem Asc.by {x : Str} (h : ascB x = true) : Asc x := fun c hc => of_decide_eq_true (List.all_eq_true.mp h c hc)
theorem Asc.ok {x : Str} (h : Asc x) : PyData.strOk x = true := by
  unfold PyData.strOk
  rw [← Array.all_toList, List.all_eq_true]
  intro c hc
  have := h c hc
  exact decide_eq_true (by omega)
theorem rc_asc : ∀ c < 128, ∀ q ∈ [34, 39], ((Builtin.Str.reprChar q c).all fun d => decide (d < 128)) = true := by decide +kernel
theorem fold_asc {q : Nat} (hq : q ∈ [34, 39]) : ∀ (l : List Nat) (acc : Array Nat), (∀ c ∈ l, c < 128) → (∀ c ∈ acc.toList, c < 128) → ∀ c ∈ (l.foldl (fun out c => out ++ (Builtin.Str.reprChar q c).toArray) acc).toList, c < 128
  | [], acc, _, h => h
  | x :: r, acc, hl, h => fold_asc hq r _ (fun c hc => hl c (List.mem_cons_of_mem _ hc)) fun c hc => by
    rw [Array.toList_append] at hc
    rcases List.mem_append.mp hc with z | z
    · exact h c z
    · exact of_decide_eq_true (List.all_eq_true.mp (rc_asc x (hl x List.mem_cons_self) q hq) c z)
theorem quote_is (x : Str) : reprQuote x ∈ [34, 39] := by
  unfold reprQuote
  split <;> simp
theorem Asc.repr {x : Str} (h : Asc x) : Asc (reprText x) := fun c hc => by
  have q := quote_is x
  have q128 : reprQuote x < 128 := by
    simp only [List.mem_cons, List.not_mem_nil, or_false] at q
    omega
  unfold reprText at hc
  rw [← Array.foldl_toList, Array.toList_push] at hc
  rcases List.mem_append.mp hc with z | z
  · refine fold_asc q x.cps.toList #[reprQuote x] h (fun c hc => ?_) c z
    have e : c = reprQuote x := by simpa using hc
    omega
  · rw [List.mem_singleton.mp z]
    exact q128
theorem join_asc {sep : Str} (hs : Asc sep) : ∀ ts : List Str, (∀ t ∈ ts, Asc t) → Asc (Str.join sep ts)
  | [], _ => fun c hc => by simp [Str.join, Str.empty] at hc
  | [x], h => h x List.mem_cons_self
  | x :: y :: r, h => ((h x List.mem_cons_self).app hs).app (join_asc hs (y :: r) fun t ht => h t (List.mem_cons_of_mem _ ht))
theorem from_asc : ∀ (ts : List Str) (k : Nat) (acc : Str), Asc acc → (∀ t ∈ ts, Asc t) → Asc (textFrom k acc ts)
  | [], _, _, h, _ => h
  | t :: r, k, acc, h, hr => from_asc r (k + 1) _ ((h.app (by split <;> exact Asc.by (by decide +kernel))).app (hr t List.mem_cons_self)) fun u hu => hr u (List.mem_cons_of_mem _ hu)
mutual
def ascD : PyData → Bool
  | .none | .bool _ | .int _ => true
  | .str x => ascB x
  | .list xs | .tuple xs => ascDs xs
  | .dict kvs => kvs.isEmpty
def ascDs : List PyData → Bool
  | [] => true
  | x :: xs => ascD x && ascDs xs
end
theorem int_asc (i : Int) : Asc (toString i : String) := fun c hc => by
  rw [Str.ofString_eq_toList] at hc
  simp only [List.mem_map] at hc
  obtain ⟨d, hd, rfl⟩ := hc
  exact int_ascii i d hd
mutual
theorem shown_asc : ∀ d : PyData, ascD d = true → Asc d.shown
  | .none, _ => Asc.by (by decide +kernel)
  | .bool true, _ => Asc.by (by decide +kernel)
  | .bool false, _ => Asc.by (by decide +kernel)
  | .int i, _ => by
    simp only [PyData.shown]
    exact int_asc i
  | .str x, h => by
    simp only [PyData.shown]
    exact Asc.repr (Asc.by (by simpa only [ascD] using h))
  | .list xs, h => by
    simp only [PyData.shown]
    exact Asc.app (from_asc _ _ _ (Asc.by (by decide +kernel)) (showns_asc xs (by simpa only [ascD] using h))) (Asc.by (by decide +kernel))
  | .tuple xs, h => by
    simp only [PyData.shown]
    unfold tupleText
    refine Asc.app (Asc.app (Asc.by (by decide +kernel)) (join_asc (Asc.by (by decide +kernel)) _ (showns_asc xs (by simpa only [ascD] using h)))) ?_
    split <;> exact Asc.by (by decide +kernel)
  | .dict kvs, h => by
    have e : kvs = [] := by simpa only [ascD, List.isEmpty_iff] using h
    subst e
    exact Asc.by (by decide +kernel)
theorem showns_asc : ∀ ds : List PyData, ascDs ds = true → ∀ t ∈ PyData.shownAll ds, Asc t
  | [], _ => fun t ht => by simp [PyData.shownAll] at ht
  | d :: ds, h => fun t ht => by
    have h' : ascD d = true ∧ ascDs ds = true := by simpa only [ascDs, Bool.and_eq_true] using h
    simp only [PyData.shownAll, List.mem_cons] at ht
    rcases ht with rfl | ht
    · exact shown_asc d h'.1
    · exact showns_asc ds h'.2 t ht
end
/-! ### room -/
structure SX (d : PyData) (n m : Nat) : Prop where
  asc : ascD d = true
  sh : d.leavesShort 40 = true
  ok : d.showable = true
  w : d.weight ≤ n
  dp : d.depth ≤ m
/-- the same of many, n all together -/
structure SXs (ds : List PyData) (n m : Nat) : Prop where
  each : ∀ d ∈ ds, ascD d = true ∧ d.leavesShort 40 = true ∧ d.showable = true ∧ d.depth ≤ m
  w : (ds.map fun d => d.weight + 1).sum ≤ n
theorem ascDs_all : ∀ {ds : List PyData}, (∀ d ∈ ds, ascD d = true) → ascDs ds = true
  | [], _ => rfl
  | d :: ds, h => by simp only [ascDs, h d List.mem_cons_self, ascDs_all fun e he => h e (List.mem_cons_of_mem _ he), Bool.and_self]
theorem shortAll_all : ∀ {ds : List PyData}, (∀ d ∈ ds, d.leavesShort 40 = true) → PyData.leavesShortAll 40 ds = true
  | [], _ => rfl
  | d :: ds, h => by simp only [PyData.leavesShortAll, h d List.mem_cons_self, shortAll_all fun e he => h e (List.mem_cons_of_mem _ he), Bool.and_self]
theorem showAll_all : ∀ {ds : List PyData}, (∀ d ∈ ds, d.showable = true) → PyData.showableAll ds = true
  | [], _ => rfl
  | d :: ds, h => by simp only [PyData.showableAll, h d List.mem_cons_self, showAll_all fun e he => h e (List.mem_cons_of_mem _ he), Bool.and_self]
theorem depthAll_all : ∀ {ds : List PyData} {m : Nat}, (∀ d ∈ ds, d.depth ≤ m) → PyData.depthAll ds ≤ m
  | [], _, _ => Nat.zero_le _
  | d :: ds, m, h => by
    have h1 := h d List.mem_cons_self
    have h2 := depthAll_all (ds := ds) fun e he => h e (List.mem_cons_of_mem _ he)
    simp only [PyData.depthAll]
    omega
theorem weightAll_sum : ∀ ds : List PyData, PyData.weightAll ds = (ds.map fun d => d.weight + 1).sum
  | [] => rfl
  | d :: ds => by simp only [PyData.weightAll, List.map_cons, List.sum_cons, weightAll_sum ds]
theorem SXs.list {ds : List PyData} {n m : Nat} (h : SXs ds n m) : SX (.list ds) n (m + 1) :=
  ⟨by simpa only [ascD] using ascDs_all fun d hd => (h.each d hd).1, by simpa only [PyData.leavesShort] using shortAll_all fun d hd => (h.each d hd).2.1, by simpa only [PyData.showable] using showAll_all fun d hd => (h.each d hd).2.2.1,
    by simp only [PyData.weight, weightAll_sum]; exact h.w, by have := depthAll_all fun d hd => (h.each d hd).2.2.2; simp only [PyData.depth]; omega⟩
theorem SXs.tuple {ds : List PyData} {n m : Nat} (h : SXs ds n m) : SX (.tuple ds) n (m + 1) :=
  ⟨by simpa only [ascD] using ascDs_all fun d hd => (h.each d hd).1, by simpa only [PyData.leavesShort] using shortAll_all fun d hd => (h.each d hd).2.1, by simpa only [PyData.showable] using showAll_all fun d hd => (h.each d hd).2.2.1,
    by simp only [PyData.weight, weightAll_sum]; exact h.w, by have := depthAll_all fun d hd => (h.each d hd).2.2.2; simp only [PyData.depth]; omega⟩
theorem all_ascDs : ∀ {ds : List PyData}, ascDs ds = true → ∀ d ∈ ds, ascD d = true
  | d :: ds, h, e, he => by
    have h' : ascD d = true ∧ ascDs ds = true := by simpa only [ascDs, Bool.and_eq_true] using h
    rcases List.mem_cons.mp he with rfl | he
    · exact h'.1
    · exact all_ascDs h'.2 e he
theorem all_short : ∀ {ds : List PyData}, PyData.leavesShortAll 40 ds = true → ∀ d ∈ ds, d.leavesShort 40 = true
  | d :: ds, h, e, he => by
    have h' : d.leavesShort 40 = true ∧ PyData.leavesShortAll 40 ds = true := by simpa only [PyData.leavesShortAll, Bool.and_eq_true] using h
    rcases List.mem_cons.mp he with rfl | he
    · exact h'.1
    · exact all_short h'.2 e he
theorem all_show : ∀ {ds : List PyData}, PyData.showableAll ds = true → ∀ d ∈ ds, d.showable = true
  | d :: ds, h, e, he => by
    have h' : d.showable = true ∧ PyData.showableAll ds = true := by simpa only [PyData.showableAll, Bool.and_eq_true] using h
    rcases List.mem_cons.mp he with rfl | he
    · exact h'.1
    · exact all_show h'.2 e he
theorem all_depth : ∀ {ds : List PyData} {m : Nat}, PyData.depthAll ds ≤ m → ∀ d ∈ ds, d.depth ≤ m
  | d :: ds, m, h, e, he => by
    simp only [PyData.depthAll] at h
    rcases List.mem_cons.mp he with rfl | he
    · omega
    · exact all_depth (ds := ds) (by omega) e he
/-- what a list or a tuple holds -/
theorem SX.items {ds : List PyData} {n m : Nat} (h : SX (.list ds) n m ∨ SX (.tuple ds) n m) : 1 ≤ m ∧ SXs ds n (m - 1) := by
  rcases h with h | h
  all_goals
    have a := h.asc
    have b := h.sh
    have c := h.ok
    have w := h.w
    have dp := h.dp
    simp only [ascD, PyData.leavesShort, PyData.showable, PyData.weight, PyData.depth, weightAll_sum] at a b c w dp
    exact ⟨by omega, fun d hd => ⟨all_ascDs a d hd, all_short b d hd, all_show c d hd, all_depth (ds := ds) (by omega) d hd⟩, w⟩
theorem SXs.nil {m : Nat} : SXs [] 0 m := ⟨fun d hd => (List.not_mem_nil hd).elim, Nat.le_refl _⟩
theorem SXs.cons {d : PyData} {ds : List PyData} {n k m : Nat} (h : SX d n m) (r : SXs ds k m) : SXs (d :: ds) (n + 1 + k) m :=
  ⟨fun e he => by
    rcases List.mem_cons.mp he with rfl | he
    · exact ⟨h.asc, h.sh, h.ok, h.dp⟩
    · exact r.each e he, by have := h.w; have := r.w; simp only [List.map_cons, List.sum_cons]; omega⟩
theorem SXs.mono {ds : List PyData} {n k m j : Nat} (h : SXs ds n m) (a : n ≤ k) (c : m ≤ j) : SXs ds k j := ⟨fun d hd => let ⟨x, y, z, t⟩ := h.each d hd; ⟨x, y, z, Nat.le_trans t c⟩, Nat.le_trans h.w a⟩
theorem SX.mono {d : PyData} {n k m j : Nat} (h : SX d n m) (a : n ≤ k) (c : m ≤ j) : SX d k j := ⟨h.asc, h.sh, h.ok, Nat.le_trans h.w a, Nat.le_trans h.dp c⟩
theorem sum_le_mem : ∀ {ds : List PyData} {d : PyData}, d ∈ ds → d.weight + 1 ≤ (ds.map fun d => d.weight + 1).sum
  | e :: ds, d, h => by
    simp only [List.map_cons, List.sum_cons]
    rcases List.mem_cons.mp h with rfl | h
    · omega
    · have := sum_le_mem h
      omega
theorem SXs.get {ds : List PyData} {n m : Nat} (h : SXs ds n m) {d : PyData} (hd : d ∈ ds) : SX d (n - 1) m := by
  obtain ⟨a, b, c, e⟩ := h.each d hd
  have := sum_le_mem hd
  have := h.w
  exact ⟨a, b, c, by omega, e⟩
theorem sum_set : ∀ {ds : List PyData} {i : Nat} {d : PyData}, ((ds.set i d).map fun d => d.weight + 1).sum ≤ (ds.map fun d => d.weight + 1).sum + (d.weight + 1)
  | [], i, d => by simp
  | e :: ds, 0, d => by simp only [List.set_cons_zero, List.map_cons, List.sum_cons]; omega
  | e :: ds, i + 1, d => by
    have := sum_set (ds := ds) (i := i) (d := d)
    simp only [List.set_cons_succ, List.map_cons, List.sum_cons]
    omega
theorem sum_set_of : ∀ {ds : List PyData} {i : Nat} {d e : PyData}, ds[i]? = some e → ((ds.set i d).map fun d => d.weight + 1).sum + e.weight = (ds.map fun d => d.weight + 1).sum + d.weight
  | [], i, d, e, h => by simp at h
  | x :: ds, 0, d, e, h => by
    have z : x = e := by simpa using h
    subst z
    simp only [List.set_cons_zero, List.map_cons, List.sum_cons]
    omega
  | x :: ds, i + 1, d, e, h => by
    have := sum_set_of (ds := ds) (i := i) (d := d) (e := e) (by simpa using h)
    simp only [List.set_cons_succ, List.map_cons, List.sum_cons]
    omega
theorem SXs.append {ds es : List PyData} {n k m : Nat} (h : SXs ds n m) (r : SXs es k m) : SXs (ds ++ es) (n + k) m :=
  ⟨fun d hd => (List.mem_append.mp hd).elim (h.each d) (r.each d), by have := h.w; have := r.w; rw [List.map_append, List.sum_append]; omega⟩
theorem sub_sum : ∀ {es ds : List PyData}, es.Sublist ds → (es.map fun d => d.weight + 1).sum ≤ (ds.map fun d => d.weight + 1).sum
  | _, _, .slnil => Nat.le_refl _
  | _, _, .cons a h => by
    have := sub_sum h
    simp only [List.map_cons, List.sum_cons]
    omega
  | _, _, .cons₂ a h => by
    have := sub_sum h
    simp only [List.map_cons, List.sum_cons]
    omega
theorem SXs.sub {ds es : List PyData} {n m : Nat} (h : SXs ds n m) (s : es.Sublist ds) : SXs es n m :=
  ⟨fun d hd => h.each d (s.subset hd), Nat.le_trans (sub_sum s) h.w⟩
theorem SX.none : SX .none 0 0 := ⟨rfl, rfl, rfl, Nat.le_refl _, by simp [PyData.depth]⟩
theorem SX.bool (x : Bool) : SX (.bool x) 0 0 := ⟨rfl, rfl, rfl, Nat.le_refl _, by simp [PyData.depth]⟩
theorem SX.str {x : Str} {n : Nat} (h : Asc x) (l : x.cps.size ≤ n) : SX (.str x) n 0 :=
  ⟨List.all_eq_true.mpr fun c hc => decide_eq_true (h c hc), by simp only [PyData.leavesShort, List.all_eq_true, decide_eq_true_eq]; exact fun c hc => Nat.lt_trans (h c hc) (by decide), rfl, l, by simp [PyData.depth]⟩
theorem SX.empty : SX (.dict []) 0 1 := ⟨rfl, rfl, rfl, Nat.le_refl _, by simp [PyData.depth, PyData.depthKv]⟩
theorem SX.int {i : Int} (h : i.natAbs < 10 ^ 39) : SX (.int i) 130 0 := by
  have l2 : i.natAbs.log2 < 130 := by
    by_cases z : i.natAbs = 0
    · rw [z]; decide
    · exact (Nat.log2_lt z).mpr (Nat.lt_trans h (by decide))
  refine ⟨rfl, ?_, by simp only [PyData.showable, decide_eq_true_eq]; omega, ?_, by simp [PyData.depth]⟩
  · have e := int_text_length_le10 (k := 39) (by decide) h
    show decide ((Str.ofString (toString i)).length ≤ 40) = true
    refine decide_eq_true ?_
    rw [PySem.ofString_length]
    exact e
  · simp only [PyData.weight]
    split <;> omega
theorem SX.tx {d : PyData} {n m : Nat} (h : SX d n m) (a : n ≤ 300000) (c : m ≤ 60) : TX d := by
  have z := PyData.shown_le 40 (by decide) d h.sh
  have w := h.w
  refine ⟨h.ok, ?_, Nat.le_trans h.dp c⟩
  rw [sizeLine_eq]
  omega
/-- the text of it, as data -/
theorem SX.said {d : PyData} {n m : Nat} (h : SX d n m) : Sm (.str d.shown) (42 * n + 40) 0 := by
  have z := PyData.shown_le 40 (by decide) d h.sh
  have w := h.w
  exact Sm.str ⟨by show d.shown.length ≤ _; omega, (shown_asc d h.asc).ok⟩
end HK

namespace FL
open PySem PySem.Spec PyProof.Rows L2
/-! ### judges of data -/
def spJX (m : PyData → Bool) : Sp := fun vs H Q _ => ∃ (b : Addr) (x : V) (d : PyData) (n : Nat), vs = [x] ∧ HK.DX b H x d ∧ HK.SX d n 50 ∧ n ≤ 300000 ∧ ∀ H', Same H H' → Q (.bl (m d)) H'
def sxB (d : PyData) : Bool := HK.ascD d && d.leavesShort 40 && d.showable && decide (d.weight ≤ 300000) && decide (d.depth ≤ 50)
def gJ (m : PyData → Bool) : Uop := fun p => match toX p with
  | some d => if sxB d = true then some (.bl (m d)) else none
  | none => none
section
variable {c : Bd}
theorem te_callJ {m : PyData → Bool} {t : TA} {fa : En → Rs (List PV × En)} (h : MA c t fa) : ME c (tCall (spJX m) [] E0 t) (cb (on1 (gJ m)) fa) := fun σ τ hv hp H Q s k => h σ τ hv hp H _ s (aft_mono (aft_bnd k) fun a k vs H1 s1 => by
  cases e : on1 (gJ m) a.1 with
  | none => rw [e] at k; exact k.elim
  | some z =>
    rw [e] at k
    have l2 := Stt.lenL s.len s1 (H' := H1)
    unfold on1 at e
    split at e
    · rename_i p ep
      rw [ep] at s1 l2
      match vs, l2 with
      | [x], _ =>
        unfold gJ at e
        split at e
        · rename_i d ed
          split at e
          · rename_i f
            cases e
            unfold sxB at f
            simp only [Bool.and_eq_true, decide_eq_true_eq] at f
            obtain ⟨⟨⟨⟨f1, f2⟩, f3⟩, f4⟩, f5⟩ := f
            obtain ⟨B, O, r⟩ := s1.top
            exact ⟨sysModules, x, d, 300000, rfl, r.dx s1.2.2 ed, ⟨f1, f2, f3, f4, f5⟩, Nat.le_refl _, fun H' sm => k _ H' ((s1.same sm).pop.sc rfl)⟩
          · cases e
        · cases e
    · cases e)
/-! ### two slots that keep their things -/
def L2d (c : Bd) (r : R2) (g : Bop) : Prop := ∀ σ τ hv hp H x y p q z Q, Stt c σ τ (hv ++ [x] ++ [y]) (hp ++ [p] ++ [q]) H → g p q = some z → (∀ v H', Stt c σ τ (hv ++ [v] ++ [x] ++ [y]) (hp ++ [z] ++ [p] ++ [q]) H' → Q v H') → r x y H Q
theorem l_eqDd : L2d c (rEqA c.K) (gEqD false) := fun σ τ hv hp H x y p q z Q s e k => by
  obtain ⟨d, e', e1, e2, s1, s2, rfl⟩ := gEqD_eq e
  obtain ⟨B, O, r⟩ := s.top
  obtain ⟨B', O', r'⟩ := s.pop.top
  refine .inr ⟨d, e', r'.dp e1, r.dp e2, s1, s2, k _ H ?_⟩
  have s3 : Stt c σ τ (hv ++ [x] ++ [y] ++ [.bl (PyData.eqv d e')]) (hp ++ [p] ++ [q] ++ [.bl (false != PyData.eqv d e')]) H := s.sc (by simp [sv])
  exact s3.swap.rot
def opBB (g : Bop) (i j : Nat) (τ : En) : Rs (PV × En) := match τ[i]? with
  | none => .no
  | some .un => .no
  | some p => match τ[j]? with
    | none => .no
    | some .un => .no
    | some q => if i = j then .no else opt (g p q) τ
theorem te_opBB {r : R2} {g : Bop} (hr : L2d c r g) (i j : Nat) : ME c (tOp r (tVar i) (tVar j)) (opBB g i j) := fun σ τ hv hp H Q s k => by
  unfold opBB at k
  split at k
  · exact k.elim
  · exact k.elim
  · rename_i p n e
    split at k
    · exact k.elim
    · exact k.elim
    · rename_i q n' e'
      split at k
      · exact k.elim
      · rename_i nij
        cases eg : g p q with
        | none => rw [eg] at k; exact k.elim
        | some z =>
          rw [eg] at k
          obtain ⟨v, hs, s1⟩ := s.move e (fun z => n z)
          have e2 : (τ.set i .un)[j]? = some q := by rw [List.getElem?_set_ne nij]; exact e'
          obtain ⟨w, hs', s2⟩ := s1.move e2 (fun z => n' z)
          have li := (List.getElem?_eq_some_iff.mp e).1
          have lj := (List.getElem?_eq_some_iff.mp e').1
          refine ⟨v, hs, w, hs', hr σ _ hv hp H v w p q z Q s2 eg fun u H' s3 => k u H' ?_⟩
          have s4 := s3.back (i := j) (by rw [List.getElem?_set_self (by rw [List.length_set]; exact lj)]) hs'
          rw [List.set_set] at s4
          have e5 : (τ.set i .un).set j q = τ.set i .un := by
            obtain ⟨l, ee⟩ := List.getElem?_eq_some_iff.mp e2
            rw [← ee, List.set_getElem_self]
          rw [e5] at s4
          have s5 := s4.back (i := i) (by rw [List.getElem?_set_self li]) hs
          rwa [set_back e] at s5
/-! ### a list, or else -/
def vorT (f g : En → Rs (PV × En)) (τ : En) : Rs (PV × En) := bnd (f τ) fun a => match a.1 with
  | .lst _ ps => if ps.isEmpty = true then g a.2 else .ok a
  | _ => .no
theorem te_orT {t u : TE} {f g : En → Rs (PV × En)} (h : ME c t f) (h' : ME c u g) : ME c (tOrT c.K t u) (vorT f g) := fun σ τ hv hp H Q s k => h σ τ hv hp H _ s (aft_mono (aft_bnd k) fun a k v H1 s1 => by
  split at k
  · rename_i o ps e
    rw [e] at s1
    obtain ⟨B, O, r⟩ := s1.top
    obtain ⟨ad, xs, rfl, hx, hl⟩ := r.lst_at
    refine ⟨!xs.isEmpty, .inl ⟨xs, SqL.of hx, rfl⟩, ?_⟩
    have ee : xs.isEmpty = ps.isEmpty := by
      cases xs <;> cases ps <;> first | rfl | (simp at hl)
    rw [ee]
    by_cases q : ps.isEmpty = true
    · rw [if_pos q] at k
      rw [q]
      exact h' σ a.2 hv hp H1 Q s1.pop k
    · rw [if_neg q] at k
      have q' : ps.isEmpty = false := by simpa using q
      rw [q']
      exact k _ H1 (by rw [e]; exact s1)
  · exact k.elim)
/-! ### x[2][1].append(None), x a slot -/
def mutP (i : Nat) (τ : En) : Rs (PV × En) := match τ[i]? with
  | some (.lst true [p0, p1, .tup [p2, .lst true qs]]) => if fits (qs.length + 1) = true then .ok (.non, τ.set i (.lst true [p0, p1, .tup [p2, .lst true (qs ++ [.non])]])) else .no
  | _ => .no
theorem te_mutP (i : Nat) : ME c (tBM c.K "list" rAppend (tOp (rIx c.K) (tOp (rIx c.K) (tVar i) (tC (.int 2))) (tC (.int 1))) (tCons (tC .non) tNil)) (mutP i) := fun σ τ hv hp H Q s k => by
  unfold mutP at k
  split at k
  · rename_i p0 p1 p2 qs e
    split at k
    · rename_i f
      obtain ⟨v, hs, s1⟩ := s.move e (fun z => nomatch z)
      obtain ⟨B, O, rr, nd, hO, wf, back⟩ := s1.handed s.len
      have r := rr.one'
      clear rr
      obtain ⟨a, xs, Oa, rfl, rfl, h, r⟩ : ∃ a xs Oa, v = .ref a ∧ O = a :: Oa ∧ H a = some (.lst xs) ∧ Rels c.P c.w B H xs [p0, p1, .tup [p2, .lst true qs]] Oa := by
        cases r with
        | lstO h r => exact ⟨_, _, _, rfl, rfl, h, r⟩
      obtain ⟨v0, v1, b, w0, w1, O0, O1, P0, P1, rfl, rfl, r0, r1, nb, hb, y0, y1⟩ : ∃ v0 v1 b w0 w1 O0 O1 P0 P1, xs = [v0, v1, .ref b] ∧ Oa = O0 ++ (O1 ++ (P0 ++ P1)) ∧ Rel c.P c.w B H v0 p0 O0 ∧ Rel c.P c.w B H v1 p1 O1 ∧ ¬ B b ∧ H b = some (.tup [w0, w1]) ∧ Rel c.P c.w B H w0 p2 P0 ∧ Rel c.P c.w B H w1 (.lst true qs) P1 := by
        cases r with
        | cons r0 ra =>
        cases ra with
        | cons r1 rb =>
        cases rb with
        | cons r2 rc =>
        cases rc
        cases r2 with
        | tup nb hb rd =>
        cases rd with
        | cons y0 re =>
        cases re with
        | cons y1 rf =>
        cases rf
        exact ⟨_, _, _, _, _, _, _, _, _, rfl, by simp, r0, r1, nb, hb, y0, y1⟩
      clear r
      obtain ⟨l, zs, Oz, rfl, rfl, hl, rz⟩ : ∃ l zs Oz, w1 = .ref l ∧ P1 = l :: Oz ∧ H l = some (.lst zs) ∧ Rels c.P c.w B H zs qs Oz := by
        cases y1 with
        | lstO h' r' => exact ⟨_, _, _, rfl, rfl, h', r'⟩
      refine ⟨.ref a, hs, .inl ⟨a, _, 2, .ref b, rfl, rfl, SqL.of h, rfl, .inr (.inl ⟨b, _, 1, .ref l, rfl, rfl, SqT.of hb, rfl, ?_⟩)⟩⟩
      have lz := rz.len
      refine ⟨.inl ⟨rfl, _, SqL.of hl⟩, l, zs, .non, rfl, rfl, hl, by rw [lz]; exact fits_lt f, ?_⟩
      have inL : l ∈ a :: (O0 ++ (O1 ++ (P0 ++ (l :: Oz)))) := by simp
      have Bl : B l := hO l inL
      have cnt := List.nodup_iff_count.mp nd
      have nin : ∀ {X : List Addr}, (∀ x, (a :: (O0 ++ (O1 ++ (P0 ++ (l :: Oz))))).count x = X.count x + ((a :: (O0 ++ (O1 ++ (P0 ++ (l :: Oz))))).count x - X.count x)) → True := fun _ => trivial
      have c0 := cnt l
      simp only [List.count_cons, List.count_append, beq_self_eq_true, if_true] at c0
      have z0 : O0.count l = 0 := by omega
      have z1 : O1.count l = 0 := by omega
      have zp : P0.count l = 0 := by omega
      have zz : Oz.count l = 0 := by omega
      have za : ¬ a = l := fun e => by
        subst e
        simp at c0
      have hn : ∀ x o, H x = some o → ¬ B x → upd H l (.lst (zs ++ [.non])) x = some o ∧ ¬ ((B x ∧ x ∉ a :: (O0 ++ (O1 ++ (P0 ++ (l :: Oz))))) ∨ x ∈ a :: (O0 ++ (O1 ++ (P0 ++ (l :: Oz))))) := fun x o hx nbx => ⟨(upd_ne (fun e : x = l => nbx (e ▸ Bl))).trans hx, fun q => q.elim (fun q => nbx q.1) fun q => nbx (hO x q)⟩
      have kk : ∀ {X : List Addr}, X.count l = 0 → ∀ (x : Addr) (o : HO), x ∈ X → H x = some o → upd H l (.lst (zs ++ [.non])) x = some o := fun hX x o m hx => (upd_ne (fun e : x = l => by subst e; exact absurd m (List.count_eq_zero.mp hX))).trans hx
      have hb' := (hn b _ hb nb).1
      have nb' := (hn b _ hb nb).2
      have n0 := r0.go hn (kk z0)
      have n1 := r1.go hn (kk z1)
      have m0 := y0.go hn (kk zp)
      have mz := rz.go hn (kk zz)
      have back' := back [.ref a] [.lst true [p0, p1, .tup [p2, .lst true (qs ++ [.non])]]] (upd H l (.lst (zs ++ [.non]))) ⟨a :: (O0 ++ (O1 ++ (P0 ++ (l :: Oz)))), ?_, nd, fun x hx => ⟨fun q => q.2 hx, .inl hx⟩, fun x o hx nx => (upd_ne (fun e : x = l => nx (e ▸ inL))).trans hx⟩
      · refine k _ _ ?_
        have li := (List.getElem?_eq_some_iff.mp e).1
        have s9 : Stt c σ (τ.set i .un) (hv ++ [.non] ++ [.ref a]) (hp ++ [.non] ++ [.lst true [p0, p1, .tup [p2, .lst true (qs ++ [.non])]]]) _ := back'.add rfl
        have := s9.back (i := i) (by rw [List.getElem?_set_self li]) hs
        rwa [List.set_set] at this
      · have la : upd H l (.lst (zs ++ [.non])) a = some (.lst [v0, v1, .ref b]) := (upd_ne za).trans h
        have inner : Rel c.P c.w _ (upd H l (.lst (zs ++ [.non]))) (.ref l) (.lst true (qs ++ [.non])) (l :: Oz) := .lstO upd_same (by have := mz.append (.one (.non)); rwa [List.append_nil] at this)
        have tupr : Rel c.P c.w _ (upd H l (.lst (zs ++ [.non]))) (.ref b) (.tup [p2, .lst true (qs ++ [.non])]) (P0 ++ (l :: Oz)) := .tup nb' hb' (.cons m0 (.one inner))
        exact .one (.lstO la (.cons n0 (.cons n1 (.one tupr))))
    · exact k.elim
  · exact k.elim
end
end FL

namespace FL
open PySem PySem.Spec PyProof.Rows L2
/-! ### an exception of an own class as a value -/
def exw (e C d : Addr) : HO := .ext fun h => ∃ (o : Obj) (fv : Array Value), h.get? e = some o ∧ o.cls = .ref C ∧ o.dict = some d ∧ o.data = .fields fv
theorem exw_ok {P : Program} {w : World} {H : Hp} {h : Heap} {e C d : Addr} {o : Obj} {fv : Array Value} (he : h.get? e = some o) (hc : o.cls = .ref C) (hd : o.dict = some d) (hv : o.data = .fields fv) : ObjOk P w H h e (exw e C d) :=
  ⟨⟨o, fv, he, hc, hd, hv⟩, ⟨_, he⟩, fun h1 h2 z k => by
    obtain ⟨o, fv, a, b⟩ := z
    exact ⟨o, fv, k _ a, b⟩⟩
def tFxV (C : Addr) (ta : TA) : TE := fun σ H Q => ta σ H fun vs H1 => ∃ v, vs = [v] ∧ ∀ a d, H1 a = none → H1 d = none → d ≠ a → Q (.ref a) (upd (upd H1 a (exw a C d)) d (.xd [(("index" : Str), v)]))
section
variable {X : Cx} {C fI : Addr}
theorem pe_fxv {a : Expr} {ta : TA} {p pos : Pos} {k : Nat} (T : PySem.FxX.FxTxt X.K X.mg C fI) (hr : Room k X.A) (ha : PA X [a] ta) (hg : Gl X "Fixed" := by rfl)
    (he : starEach (a :: []) X.env = (false, eval a X.env) :: starEach [] X.env := by rfl) (hpl : (backTo pos (starEach [] X.env)).any (·.1) = false := by rfl) :
    PE X (.Call (.Name "Fixed" p) [a] [] pos) (tFxV C ta) := by
  refine ⟨fun pins s σ H Q I h => ?_⟩
  refine wpAny_Call_Name_kw (ld_glob I hg T.gC ?_)
  refine PySem.W.callWith_K (h₀ := X.base) I.ok.mod.kin T.kC (thn (ha.run pos pins s σ H _ I h) fun us s1 hh => ?_) he hpl
  obtain ⟨vs, H1, I1, r1, v, ev, q1⟩ := hh
  subst ev
  refine ⟨I1.kIn, ?_⟩
  cases r1 with
  | cons rv rn =>
    rename_i v' us'
    cases rn
    show wpAny _ _ (call (.ref C) [v']) _ _ _
    have hlim := I1.nolimit
    obtain ⟨hp, g, dr, tk, os⟩ := s1
    refine wpAny_call (PySem.FxX.low_made T I1.kIn hlim (by have := hr.dp; omega) fun h' tk' e d M => ?_)
    show EP X pins σ Q (.ref e) ⟨h', g, dr, tk', os⟩
    obtain ⟨oe, fv, hoe, hc, hd, hdat, h1⟩ := M.obj
    have n1 : H1 e = none := I1.hok.fresh M.new
    have n2 : H1 d = none := I1.hok.fresh M.dbig
    have J : Inv X pins σ (upd H1 e (exw e C d)) ⟨h', g, dr, tk', os⟩ := I1.laid (t' := tk') M.keep M.new (exw_ok hoe hc hd hdat)
    have n3 : upd H1 e (exw e C d) d = none := (upd_ne M.dne).trans n2
    have J2 : Inv X pins σ (upd (upd H1 e (exw e C d)) d (.xd [(("index" : Str), v)])) ⟨h', g, dr, tk', os⟩ := J.take (h' := h') (t' := tk') (fun b ob _ e => e) (I1.fpOk M.dbig n3) ⟨_, M.ns, fun f => relO_low_Fx rv f⟩
    exact ⟨.ref e, _, J2, rfl, q1 e d n1 n2 M.dne⟩
/-- isinstance(e, T) of such a one, T a built-in class -/
def rIsW (K : PySem.W.Frag) (C : Addr) : List V → Hp → VK → Prop := fun xs H Q => ∃ (a d : Addr) (fs : List (Str × V)) (T : String) (b : Bool), xs = [.ref a, .ty T] ∧ H a = some (exw a C d) ∧ H d = some (.xd fs) ∧ PySem.W.kitOne K (.ref C) (.type T) = some b ∧ Q (.bl b) H
theorem call_isW (CC : ExcC X.K C) : CallR X (.builtin "isinstance") (rIsW X.K C) := by
  intro pins s σ H xs us Q I r h
  obtain ⟨a, d, fs, T, b, rfl, ha, hd, e, q⟩ := h
  obtain ⟨u1, u2, rfl, rx, rt⟩ := vals2 r
  cases rx
  cases (show u2 = Value.type T from rt)
  obtain ⟨o, fv, ho, hc, hdc, hv⟩ := (show ObjOk X.prog X.w H s.heap a (exw a C d) from I.hok a _ ha).1
  obtain ⟨mA, hns, _⟩ : ObjOk X.prog X.w H s.heap d (.xd fs) := I.hok d _ hd
  obtain ⟨od, hod, _⟩ := lookIn_ns hns
  have J : PySem.W.InstAt s.heap a o C (some od) := ⟨ho, hc, by unfold PySem.W.notCls; rw [hv] <;> rfl, by rw [hdc]; exact hod⟩
  have hcl : (PySem.W.clsIn X.K C).isSome = true := by
    obtain ⟨cd, hc, _⟩ := PySem.W.any_some CC.hd
    rw [hc]
    rfl
  exact PySem.W.kia_one (PySem.W.kitx_exc hcl CC.hg CC.hk CC.hs CC.ha CC.hn CC.ht CC.hm) I.kIn J e (fun z => nomatch z) fun tk => ⟨.bl b, H, I.kept (t' := tk) fun _ _ z => z, rfl, q⟩
end
/-- a judge of such a one, or of a list of one: no -/
def spRX (C : Addr) : Sp := fun vs H Q _ => ∃ (a d : Addr) (fs : List (Str × V)), H a = some (exw a C d) ∧ H d = some (.xd fs) ∧ (vs = [.ref a] ∨ ∃ l, vs = [.ref l] ∧ H l = some (.lst [.ref a])) ∧ ∀ H', Same H H' → Q (.bl false) H'
section
variable {c : Bd}
theorem te_rowX {C : Addr} : ME c (tCall (spRX C) [] E0 (tCons (tFxV C (tCons (tC (.int 0)) tNil)) tNil)) (cst (.bl false)) := fun σ τ hv hp H Q s k => by
  refine ⟨.int 0, rfl, fun a d na nd ne => ?_⟩
  have s1 : Same H (upd H a (exw a C d)) := HK.Same.new na
  have s2 : Same (upd H a (exw a C d)) (upd (upd H a (exw a C d)) d (.xd [(("index" : Str), .int 0)])) := HK.Same.new ((upd_ne ne).trans nd)
  have s3 : Same H (upd (upd H a (exw a C d)) d (.xd [(("index" : Str), .int 0)])) := fun x o h => s2 _ _ (s1 _ _ h)
  exact ⟨a, d, _, s2 _ _ upd_same, upd_same, .inl rfl, fun H' sm => k _ H' (((s.same s3).same sm).sc rfl)⟩
theorem te_rowX1 {C : Addr} : ME c (tCall (spRX C) [] E0 (tCons (tLst (tCons (tFxV C (tCons (tC (.int 0)) tNil)) tNil)) tNil)) (cst (.bl false)) := fun σ τ hv hp H Q s k => by
  refine ⟨.int 0, rfl, fun a d na nd ne => ?_⟩
  have s1 : Same H (upd H a (exw a C d)) := HK.Same.new na
  have s2 : Same (upd H a (exw a C d)) (upd (upd H a (exw a C d)) d (.xd [(("index" : Str), .int 0)])) := HK.Same.new ((upd_ne ne).trans nd)
  have s3 : Same H (upd (upd H a (exw a C d)) d (.xd [(("index" : Str), .int 0)])) := fun x o h => s2 _ _ (s1 _ _ h)
  refine ⟨(by decide : (1 : Nat) ≤ sizeLine), fun l nl => ?_⟩
  have s4 : Same (upd (upd H a (exw a C d)) d (.xd [(("index" : Str), .int 0)])) (upd (upd (upd H a (exw a C d)) d (.xd [(("index" : Str), .int 0)])) l (.lst [.ref a])) := HK.Same.new nl
  exact ⟨a, d, _, s4 _ _ (s2 _ _ upd_same), s4 _ _ upd_same, .inr ⟨l, rfl, upd_same⟩, fun H' sm => k _ H' ((((s.same s3).same s4).same sm).sc rfl)⟩
end
end FL

/-! two dicts whose keys are tuples that hold the same: == and != -/
namespace FL
open PySem PySem.Calls PyProof.Rows PyProof.V PySem.Spec PySem.W
section
variable {prog : Program} {w : World} {T : Type} [DecidableEq T] {kd : HeapKind prog w T} {A : Around} {E : Value → Shared → Prop} {s : Shared}
theorem nodup_at {T : Type} {ys : List (T × Addr × Value)} (n : (ys.map (·.1)).Nodup) {i j : Nat} {k : T} {p q : Addr × Value} (hi : ys[i]? = some (k, p)) (hj : ys[j]? = some (k, q)) : i = j := by
  have li := (List.getElem?_eq_some_iff.mp hi).1
  have lj := (List.getElem?_eq_some_iff.mp hj).1
  exact (List.getElem?_inj (l := ys.map (·.1)) (by rw [List.length_map]; exact li) n).mp (by rw [List.getElem?_map, List.getElem?_map, hi, hj]; rfl)
theorem kd_same {nm : String} {a b : Addr} {xs ys : List (T × Addr × Value)} {Q : Bool → Shared → Prop} (na : (a == sysModules) = false) (nb : (b == sysModules) = false) (ra : s.heap.DictOfH kd a xs) (rb : s.heap.DictOfH kd b ys) (hu : kd.room A)
    (ln : xs.length = ys.length) (al : ∀ (k : T) (q : Addr) (v : Value), (k, q, v) ∈ xs → ∃ (j : Nat) (q' : Addr) (v' : Value), ys[j]? = some (k, q', v') ∧ SeqAt.EqAt A s v v' true) (z : Q true s) : wpAny (model prog w) A (Builtin.Dict.samePairs nm a b) Q E s := by
  obtain ⟨o1, t1, p1, g1, c1, d1, l1, i1, n1⟩ := ra
  obtain ⟨o2, t2, p2, g2, c2, d2, l2, i2, n2⟩ := rb
  have m1 : t1.size = xs.length := size_of_entries l1
  have m2 : t2.size = ys.length := size_of_entries l2
  have sz : t1.size = t2.size := by omega
  unfold Builtin.Dict.samePairs Builtin.Dict.showsAll
  rw [if_neg (by rw [na]; exact Bool.noConfusion), if_neg (by rw [nb]; exact Bool.noConfusion)]
  refine wpAny_bind (wpAny_pure (wpAny_bind (wpAny_pure (wpAny_bind (wpAny_dictEntries g1 d1 ?_)))))
  refine wpAny_bind (wpAny_dictEntries g2 d2 ?_)
  rw [if_neg (by rw [sz]; simp)]
  refine wpAny_bind (wpAny_dictEpoch g1 d1 (wpAny_bind ?_))
  rw [Std.Legacy.Range.forIn_eq_forIn_range']
  simp only [Std.Legacy.Range.size, Nat.sub_zero, Nat.add_sub_cancel, Nat.div_one]
  refine wpAny_forIn_list _ (fun rest q s' => s' = s ∧ q = (none, ()) ∧ ∃ i, rest = List.range' i (t1.size - i) ∧ i ≤ t1.size) _ ?_ ?_ _ _ ⟨rfl, rfl, 0, by simp, Nat.zero_le _⟩
  · rintro x rest q s' ⟨rfl, rfl, i, er, li⟩
    have lt : i < t1.size := by
      rcases Nat.lt_or_ge i t1.size with h | h
      · exact h
      · rw [Nat.sub_eq_zero_of_le h] at er
        cases er
    rw [show t1.size - i = (t1.size - (i + 1)) + 1 by omega, List.range'_succ] at er
    obtain ⟨ex, er⟩ := List.cons.inj er
    subst ex
    refine wpAny_bind (wpAny_dictEntries g1 d1 ?_)
    have lx : x < xs.length := by omega
    obtain ⟨k, q, v, hk⟩ : ∃ k q v, xs[x]? = some (k, q, v) := ⟨_, _, _, List.getElem?_eq_getElem lx⟩
    have hen : t1[x]? = some (entryOfKey kd (k, q, v)) := by rw [entry_at l1 x, hk]; rfl
    rw [hen]
    obtain ⟨j, q', v', hj, he⟩ := al k q v (List.mem_of_getElem? hk)
    have key := i1 _ (List.mem_of_getElem? hk)
    show wpAny _ _ (holding [Value.ref q, v] _ >>= _) _ _ _
    refine wpAny_bind (wpAny_holding (wpAny_bind (wpAny_dictFind_heap hu key g2 d2 l2 i2 n2 (fun no => absurd hj (no j _)) fun j' p' hj' => ?_)))
    have ejj : j' = j := nodup_at n2 hj' hj
    subst ejj
    rw [hj] at hj'
    cases hj'
    refine wpAny_bind (wpAny_dictEntries g2 d2 ?_)
    have hen2 : t2[j']? = some (entryOfKey kd (k, q', v')) := by rw [entry_at l2 j', hj]; rfl
    rw [hen2]
    refine wpAny_holding (he prog w _ _ ?_)
    show wpAny _ _ (if (!true) = true then _ else _) _ _ _
    rw [if_neg (by decide)]
    refine wpAny_bind (wpAny_dictEpoch g1 d1 ?_)
    rw [if_neg (by simp)]
    exact wpAny_pure ⟨rfl, rfl, x + 1, er, lt⟩
  · rintro q s' ⟨rfl, rfl, _⟩
    exact wpAny_pure z
end
end FL

namespace FL
open PySem PySem.Calls PyProof.Rows PyProof.V PySem.Spec PySem.W
section
variable {prog : Program} {w : World} {T : Type} [DecidableEq T] {kd : HeapKind prog w T} {A : Around} {E : Value → Shared → Prop} {s : Shared}
theorem kd_eq {a b : Addr} {xs ys : List (T × Addr × Value)} {Q : Value → Shared → Prop} (na : (a == sysModules) = false) (nb : (b == sysModules) = false) (ra : s.heap.DictOfH kd a xs) (rb : s.heap.DictOfH kd b ys) (hr : kd.room A.in1) (hu : A.units < cLine)
    (ln : xs.length = ys.length) (al : ∀ (k : T) (q : Addr) (v : Value), (k, q, v) ∈ xs → ∃ (j : Nat) (q' : Addr) (v' : Value), ys[j]? = some (k, q', v') ∧ SeqAt.EqAt A.in1 s v v' true) (z : Q (.bool true) s) : wpAny (model prog w) A (compareOp .Eq (.ref a) (.ref b)) Q E s := by
  have t1 := ra.typeIs
  have t2 := rb.typeIs
  refine wpAny_richCompare_same_room (op := .Eq) t1 t2 F.slot_dict_eq (wpAny_call_entry F.slot_dict_eq t1 F.entry_dict_eq ?_ (F.args_dict_eq_2 _ _)) hu
  show wpAny _ _ (Builtin.Dict.dictSlotArgs _ _ >>= _) _ _ s
  unfold Builtin.Dict.dictSlotArgs
  refine wpAny_bind (wpAny_bind (wpAny_notOrdered_dict t1 (wpAny_pure ?_)))
  refine wpAny_bind (wpAny_isInstance (T := "dict") t2 F.sub_dict_dict ?_)
  simp only [Bool.not_true, Bool.false_eq_true, if_false]
  exact wpAny_bind (wpAny_pure (wpAny_bind (wpAny_pure (wpAny_bind (kd_same na nb ra rb hr ln al (wpAny_pure ⟨_, rfl, (fun x => nomatch x), z⟩))))))
theorem kd_ne {a b : Addr} {xs ys : List (T × Addr × Value)} {Q : Value → Shared → Prop} (na : (a == sysModules) = false) (nb : (b == sysModules) = false) (ra : s.heap.DictOfH kd a xs) (rb : s.heap.DictOfH kd b ys) (hr : kd.room A.in1) (hu : A.units < cLine)
    (ln : xs.length = ys.length) (al : ∀ (k : T) (q : Addr) (v : Value), (k, q, v) ∈ xs → ∃ (j : Nat) (q' : Addr) (v' : Value), ys[j]? = some (k, q', v') ∧ SeqAt.EqAt A.in1 s v v' true) (z : Q (.bool false) s) : wpAny (model prog w) A (compareOp .NotEq (.ref a) (.ref b)) Q E s := by
  have t1 := ra.typeIs
  have t2 := rb.typeIs
  refine wpAny_richCompare_same_room (op := .NotEq) t1 t2 F.slot_dict_ne (wpAny_call_entry F.slot_dict_ne t1 F.entry_dict_ne ?_ (F.args_dict_ne_2 _ _)) hu
  show wpAny _ _ (Builtin.Dict.dictSlotArgs _ _ >>= _) _ _ s
  unfold Builtin.Dict.dictSlotArgs
  refine wpAny_bind (wpAny_bind (wpAny_notOrdered_dict t1 (wpAny_pure ?_)))
  refine wpAny_bind (wpAny_isInstance (T := "dict") t2 F.sub_dict_dict ?_)
  simp only [Bool.not_true, Bool.false_eq_true, if_false]
  exact wpAny_bind (wpAny_pure (wpAny_bind (wpAny_pure (wpAny_bind (kd_same na nb ra rb hr ln al (wpAny_pure ⟨_, rfl, (fun x => nomatch x), z⟩))))))
end
end FL
namespace FL
open PySem PySem.Spec PyProof.Rows L2
/-- two dicts with whole numbers that hold the same -/
def rKEq (P : Program) (w : World) (ne : Bool) : R2 := fun x y H Q => ∃ (a b : Addr) (ks ls : KEs), x = .ref a ∧ y = .ref b ∧ KD P w H a ks ∧ KD P w H b ls ∧ ks.length = ls.length ∧
  (∀ k q v, (k, q, v) ∈ ks → ∃ (j : Nat) (q' : Addr) (i : Int), ls[j]? = some (k, q', .int i) ∧ v = .int i) ∧ Q (.bl (!ne)) H
theorem pair_at {α β : Type} {G : α → β → Prop} {xs : List α} {ys : List β} (h : Paired G xs ys) {i : Nat} {y : β} (hy : ys[i]? = some y) : ∃ x, xs[i]? = some x ∧ G x y := by
  have l := Paired.length h
  have li : i < xs.length := by rw [l]; exact (List.getElem?_eq_some_iff.mp hy).1
  obtain ⟨z, hz, g⟩ := paired_get h (List.getElem?_eq_getElem li)
  rw [hy] at hz
  cases hz
  exact ⟨_, List.getElem?_eq_getElem li, g⟩
section
variable {X : Cx}
theorem keq_rel {H : Hp} {s : Shared} {A : Around} {ks ls : KEs} {xs ys : List (NestedKey × Addr × Value)} (r1 : KT ks xs) (r2 : KT ls ys) (al : ∀ k q v, (k, q, v) ∈ ks → ∃ (j : Nat) (q' : Addr) (i : Int), ls[j]? = some (k, q', .int i) ∧ v = .int i) :
    ∀ (k : NestedKey) (q : Addr) (v : Value), (k, q, v) ∈ xs → ∃ (j : Nat) (q' : Addr) (v' : Value), ys[j]? = some (k, q', v') ∧ SeqAt.EqAt A s v v' true := fun k q v hm => by
  obtain ⟨i, hi⟩ := List.mem_iff_getElem?.mp hm
  obtain ⟨⟨k0, q0, v0⟩, h0, e1, e2, e3⟩ := pair_at r1 hi
  obtain rfl : k = k0 := e1
  obtain rfl : q = q0 := e2
  obtain ⟨j, q', n, hj, rfl⟩ := al _ _ _ (List.mem_of_getElem? h0)
  obtain ⟨⟨k1, q1, v1⟩, h1, f1, f2, f3⟩ := paired_get r2 hj
  obtain rfl : k1 = k := f1
  obtain rfl : q1 = q' := f2
  obtain ⟨t, rfl⟩ := e3
  obtain ⟨t', rfl⟩ := f3
  exact ⟨j, _, _, h1, by have z := SeqAt.EqAt.int_int (A := A) (s := s) n t n t'; rwa [show (n == n) = true from beq_self_eq_true n] at z⟩
theorem op_eqK (hu : X.A.units + 64 < cLine) : OpR X (compareOp .Eq) (rKEq X.prog X.w false) := by
  intro pins s σ H x y v u Q I rx ry h
  obtain ⟨a, b, ks, ls, rfl, rfl, d1, d2, ln, al, q⟩ := h
  cases (show v = Value.ref a from rx)
  cases (show u = Value.ref b from ry)
  obtain ⟨_, na, xs, r1, dx⟩ := cd_of I.hok d1
  obtain ⟨_, nb, ys, r2, dy⟩ := cd_of I.hok d2
  exact kd_eq na nb dx dy (show X.A.in1.units + 8 < cLine by have : X.A.in1.units = X.A.units + 1 := rfl; omega) (by omega) (by rw [← Paired.length r1, ← Paired.length r2]; exact ln) (keq_rel (H := H) r1 r2 al) ⟨.bl true, H, I, rfl, q⟩
theorem op_neK (hu : X.A.units + 64 < cLine) : OpR X (compareOp .NotEq) (rKEq X.prog X.w true) := by
  intro pins s σ H x y v u Q I rx ry h
  obtain ⟨a, b, ks, ls, rfl, rfl, d1, d2, ln, al, q⟩ := h
  cases (show v = Value.ref a from rx)
  cases (show u = Value.ref b from ry)
  obtain ⟨_, na, xs, r1, dx⟩ := cd_of I.hok d1
  obtain ⟨_, nb, ys, r2, dy⟩ := cd_of I.hok d2
  exact kd_ne na nb dx dy (show X.A.in1.units + 8 < cLine by have : X.A.in1.units = X.A.units + 1 := rfl; omega) (by omega) (by rw [← Paired.length r1, ← Paired.length r2]; exact ln) (keq_rel (H := H) r1 r2 al) ⟨.bl false, H, I, rfl, q⟩
end
end FL

/-! a walk over a dict whose keys are tuples, locked -/
namespace FL
open PySem PySem.Spec PyProof.Rows L2
section
variable {X : Cx} {pins : List (Addr × Obj)} {σ : L2.St} {H : Hp} {s : Shared} {d : Addr} {o : Obj} {kvs : KEs}
theorem frz_keys (I : Inv X pins σ H s) (h : H d = some (.frz o (keyD X.prog X.w d kvs))) : (d == sysModules) = false ∧ s.heap.get? d = some o ∧ o.ExactDict ∧ ∃ (es : Array DictEntry) (ep : Nat), o.data = .dict es ep ∧ es.size = kvs.length ∧
    ∀ (i : Nat) (k : NestedKey) (q : Addr) (v : V), kvs[i]? = some (k, q, v) → ∃ en : DictEntry, es[i]? = some en ∧ en.key = .ref q := by
  obtain ⟨g, y⟩ := I.hok d _ h
  obtain ⟨⟨_, ns, xs, rel, o', es, ep, g', ex, dt, el, _⟩, _⟩ := (show ObjOk X.prog X.w H s.heap d (keyD X.prog X.w d kvs) from y)
  rw [g] at g'
  cases g'
  refine ⟨ns, g, ex, es, ep, dt, (size_of_entries el).trans (Paired.length rel).symm, fun i k q v e => ?_⟩
  obtain ⟨⟨k', q', u⟩, hx, _, e2, _⟩ := paired_get rel e
  have e2 : q' = q := e2
  subst e2
  exact ⟨entryOfKey (nestedKind X.prog X.w) (k', q', u), by rw [entry_at el i, hx]; rfl, rfl⟩
end
/-- the keys in their order -/
def ItC (P : Program) (w : World) (d : Addr) (o : Obj) (kvs : KEs) : It :=
  ⟨fun i H => H d = some (.frz o (keyD P w d kvs)) ∧ i < kvs.length, fun i H x H' => H' = H ∧ ∃ k q v, kvs[i]? = some (k, q, v) ∧ x = .ref q, fun i H => H d = some (.frz o (keyD P w d kvs)) ∧ kvs.length ≤ i⟩
theorem turnC {P : Program} {w : World} {K : PySem.W.Frag} {tg : Expr} {d : Addr} {o : Obj} {es : Array DictEntry} {ep : Nat} {kvs : KEs} (it : Addr) (hdt : o.data = .dict es ep) : Turn P w K tg (ItC P w d o kvs) [it] it (fun i h => h.IsKeyIter it d i kvs.length ep) where
  mem := List.mem_cons_self
  obj := fun i h st b hb => by
    cases List.mem_singleton.mp hb
    obtain ⟨ob, e, _, dd⟩ := st
    exact ⟨ob, e, fun v z => by rw [dd] at z; cases z⟩
  keep := fun i h h' st k => st.at fun ob e => k it List.mem_cons_self ob e
  item := by
    rintro Y rfl rfl rfl calm i pins s σ H E I fr st ⟨hd, lt⟩
    obtain ⟨a0, a1, a2, a3, a4, a5⟩ := fr it List.mem_cons_self
    obtain ⟨_, g, _, es', ep', dt', sz, ent⟩ := frz_keys I hd
    obtain ⟨rfl, rfl⟩ := dict_ep hdt dt'
    obtain ⟨k, q, v, hk⟩ : ∃ k q v, kvs[i]? = some (k, q, v) := ⟨_, _, _, List.getElem?_eq_getElem lt⟩
    obtain ⟨en, hen, ek⟩ := ent i k q v hk
    refine next_key_item st g hdt sz hen fun h' st2 sb => ?_
    have J : Inv Y pins σ H { s with heap := h' } := I.turned (t' := s.toks) (fun b ob nb e => (sb.2 b nb).trans e) a0 a1 a3 a4 a5
    obtain ⟨ob, e, cl, dd⟩ := id st2
    exact ⟨en.key, rfl, go_of (s := { s with heap := h' }) e cl dd (by decide) ⟨.ref q, H, J, ek, ⟨rfl, k, q, v, hk, rfl⟩, st2, fun b hb => (fr b hb).1⟩⟩
  done := by
    rintro Y rfl rfl rfl calm i pins s σ H E I fr st ⟨hd, ge⟩
    obtain ⟨a0, a1, a2, a3, a4, a5⟩ := fr it List.mem_cons_self
    obtain ⟨_, g, _, es', ep', dt', sz, _⟩ := frz_keys I hd
    obtain ⟨rfl, rfl⟩ := dict_ep hdt dt'
    exact next_key_end (I.ok.hd calm) st g hdt sz ge fun h' eb => ⟨rfl, I.turned (t' := s.toks) (fun b ob nb e => eb b ob nb e) a0 a1 a3 a4 a5⟩
  self := fun A i s Q E st h => wpAny_pyIter_keyiter st h
def iCK (P : Program) (w : World) (td : TE) : TI := fun σ H R => td σ H fun x H1 => ∃ (d : Addr) (o : Obj) (kvs : KEs), x = .ref d ∧ H1 d = some (.frz o (keyD P w d kvs)) ∧ R (ItC P w d o kvs) H1
theorem pi_ckeys {X : Cx} {tg e : Expr} {td : TE} (he : PE X e td) : PI X tg e (iCK X.prog X.w td) := by
  refine ⟨fun pins s σ H R I h => thn (he.run pins s σ H _ I h) fun u s1 ⟨x, H1, I1, rx, d, o, kvs, ex, hd, q⟩ => ?_⟩
  subst ex
  cases (show u = Value.ref d from rx)
  obtain ⟨ns, g, ex, es, ep, dt, sz, _⟩ := frz_keys I1 hd
  exact iter_keys ns g ex dt (pi_one (tk := s1.toks) I1 _ (turnC _ dt) ⟨_, Heap.get?_push_size _ rfl, rfl, by rw [sz]; rfl⟩ q)
theorem walkC {P : Program} {w : World} {d : Addr} {o : Obj} {kvs : KEs} : L2.Walk (ItC P w d o kvs) kvs.length (fun H => H d = some (.frz o (keyD P w d kvs))) (fun i H x H' => H' = H ∧ ∃ k q v, kvs[i]? = some (k, q, v) ∧ x = .ref q) :=
  ⟨fun i H lt g => ⟨g, lt⟩, fun H g => ⟨g, Nat.le_refl _⟩, fun i H x H' _ _ y => y⟩
end FL

namespace FL
open PySem PySem.Spec PyProof.Rows L2
/-! ### the heap changes at one address, where a dict stands that is read alone -/
structure Sw (P : Program) (w : World) (a : Addr) (H H' : Hp) : Prop where
  off : ∀ x, x ≠ a → H' x = H x
  no : ∀ o, H a = some o → (∀ xs, o ≠ .tup xs) ∧ (∀ xs, o ≠ .lst xs) ∧ (∀ k, o ≠ .dK k) ∧ (∀ C d l, o ≠ .ins C d l) ∧ ∀ l, o ≠ .xd l
  rd : ∀ kvs, Rd H a (keyD P w a kvs) → Rd H' a (keyD P w a kvs)
section
variable {P : Program} {w : World} {B : Addr → Prop} {H H' : Hp} {a : Addr}
theorem Sw.ne {x : Addr} {o : HO} (z : Sw P w a H H') (h : H x = some o) (k : (∃ xs, o = .tup xs) ∨ (∃ xs, o = .lst xs) ∨ (∃ k, o = .dK k) ∨ (∃ C d l, o = .ins C d l) ∨ ∃ l, o = .xd l) : H' x = some o := by
  by_cases e : x = a
  · subst e
    obtain ⟨n1, n2, n3, n4, n5⟩ := z.no o h
    rcases k with ⟨xs, q⟩ | ⟨xs, q⟩ | ⟨xs, q⟩ | ⟨C, d, l, q⟩ | ⟨l, q⟩
    · exact absurd q (n1 _)
    · exact absurd q (n2 _)
    · exact absurd q (n3 _)
    · exact absurd q (n4 _ _ _)
    · exact absurd q (n5 _)
  · exact (z.off x e).trans h
theorem Sw.rdAt {x : Addr} {kvs : KEs} (z : Sw P w a H H') (h : Rd H x (keyD P w x kvs)) : Rd H' x (keyD P w x kvs) := by
  by_cases e : x = a
  · subst e; exact z.rd _ h
  · rcases h with h | ⟨o, h⟩
    · exact .inl ((z.off x e).trans h)
    · exact .inr ⟨o, (z.off x e).trans h⟩
mutual
theorem Rel.sw (z : Sw P w a H H') : ∀ {v : V} {p : PV} {O : List Addr}, Rel P w B H v p O → a ∉ O → Rel P w B H' v p O
  | _, _, _, .un, _ => .un
  | _, _, _, .non, _ => .non
  | _, _, _, .bl b, _ => .bl b
  | _, _, _, .int i, _ => .int i
  | _, _, _, .str x, _ => .str x
  | _, _, _, .tup n h r, k => .tup n (z.ne h (.inl ⟨_, rfl⟩)) (Rels.sw z r k)
  | _, _, _, .lstF n h r, k => .lstF n (z.ne h (.inr (.inl ⟨_, rfl⟩))) (Rels.sw z r k)
  | _, _, _, .lstO h r, k => .lstO (z.ne h (.inr (.inl ⟨_, rfl⟩))) (Rels.sw z r fun m => k (List.mem_cons_of_mem _ m))
  | _, _, _, .dctF n h r, k => .dctF n (z.ne h (.inr (.inr (.inl ⟨_, rfl⟩)))) (RelD.sw z r k)
  | _, _, _, .dctO h r, k => .dctO (z.ne h (.inr (.inr (.inl ⟨_, rfl⟩)))) (RelD.sw z r fun m => k (List.mem_cons_of_mem _ m))
  | _, _, _, .dcuF n h r, k => .dcuF n (z.rdAt h) (RelK.sw z r k)
  | _, _, _, .dcuO h r, k => .dcuO ((z.off _ fun e => k (e ▸ List.mem_cons_self)).trans h) (RelK.sw z r fun m => k (List.mem_cons_of_mem _ m))
  | _, _, _, .ins n h e1 e2 r, k => .ins n (z.ne h (.inr (.inr (.inr (.inl ⟨_, _, _, rfl⟩))))) e1 e2 (Rels.sw z r k)
  | _, _, _, .exc n h e1 e2 r, k => .exc n (z.ne h (.inr (.inr (.inr (.inr ⟨_, rfl⟩))))) e1 e2 (Rels.sw z r k)
theorem Rels.sw (z : Sw P w a H H') : ∀ {v : List V} {p : List PV} {O : List Addr}, Rels P w B H v p O → a ∉ O → Rels P w B H' v p O
  | _, _, _, .nil, _ => .nil
  | _, _, _, .cons x r, k => .cons (Rel.sw z x fun m => k (List.mem_append_left _ m)) (Rels.sw z r fun m => k (List.mem_append_right _ m))
theorem RelD.sw (z : Sw P w a H H') : ∀ {v : List (Key × V)} {p : List PV} {O : List Addr}, RelD P w B H v p O → a ∉ O → RelD P w B H' v p O
  | _, _, _, .nil, _ => .nil
  | _, _, _, .cons y x r, k => .cons (Rel.sw z y List.not_mem_nil) (Rel.sw z x fun m => k (List.mem_append_left _ m)) (RelD.sw z r fun m => k (List.mem_append_right _ m))
theorem RelK.sw (z : Sw P w a H H') : ∀ {v : KEs} {p : List PV} {O : List Addr}, RelK P w B H v p O → a ∉ O → RelK P w B H' v p O
  | _, _, _, .nil, _ => .nil
  | _, _, _, .cons y e d x r, k => .cons (Rel.sw z y List.not_mem_nil) e d (Rel.sw z x fun m => k (List.mem_append_left _ m)) (RelK.sw z r fun m => k (List.mem_append_right _ m))
end
theorem RelS.sw (z : Sw P w a H H') : ∀ {v : L2.St} {p : List PV} {O : List Addr}, RelS P w B H v p O → a ∉ O → RelS P w B H' v p O
  | _, _, _, .nil, _ => .nil
  | _, _, _, .no r, k => .no (RelS.sw z r k)
  | _, _, _, .so x r, k => .so (Rel.sw z x fun m => k (List.mem_append_left _ m)) (RelS.sw z r fun m => k (List.mem_append_right _ m))
theorem sw_lock {kvs : KEs} {od : Obj} (h : H a = some (keyD P w a kvs)) : Sw P w a H (upd H a (.frz od (keyD P w a kvs))) where
  off := fun x n => upd_ne n
  no := fun o e => by
    rw [h] at e
    cases e
    exact ⟨(fun _ z => nomatch z), (fun _ z => nomatch z), (fun _ z => nomatch z), (fun _ _ _ z => nomatch z), (fun _ z => nomatch z)⟩
  rd := fun ks r => by
    rcases r with r | ⟨o, r⟩
    · rw [h] at r
      refine .inr ⟨od, upd_same.trans ?_⟩
      rw [← Option.some.inj r]
    · rw [h] at r
      cases r
theorem sw_unlock {kvs : KEs} {od : Obj} (h : H a = some (.frz od (keyD P w a kvs))) : Sw P w a H (upd H a (keyD P w a kvs)) where
  off := fun x n => upd_ne n
  no := fun o e => by
    rw [h] at e
    cases e
    exact ⟨(fun _ z => nomatch z), (fun _ z => nomatch z), (fun _ z => nomatch z), (fun _ _ _ z => nomatch z), (fun _ z => nomatch z)⟩
  rd := fun ks r => by
    rcases r with r | ⟨o, r⟩
    · rw [h] at r
      cases r
    · rw [h] at r
      refine .inl (upd_same.trans ?_)
      injection Option.some.inj r with _ e2
      rw [e2]
end
/-- another heap at the entry, what is owned now as what came owned -/
def rb (c : Bd) (H : Hp) (I : List Addr) : Bd := { c with H := H, I := I }
section
variable {c : Bd} {σ : L2.St} {τ : En} {hv : List V} {hp : List PV} {H : Hp} {a : Addr} {kvs : KEs} {es : List PV}
theorem Stt.lock (s : Stt c σ τ (hv ++ [.ref a]) (hp ++ [.dct false true es]) H) (l : hv.length = hp.length) (ha : H a = some (keyD c.P c.w a kvs)) (od : Obj) : ∃ I : List Addr,
    Stt (rb c (upd H a (.frz od (keyD c.P c.w a kvs))) I) σ τ (hv ++ [.ref a]) (hp ++ [.dct false true es]) (upd H a (.frz od (keyD c.P c.w a kvs))) ∧
    ∀ {σ' : L2.St} {τ' : En} {hv' : List V} {hp' : List PV} {H' : Hp}, Stt (rb c (upd H a (.frz od (keyD c.P c.w a kvs))) I) σ' τ' hv' hp' H' → H' a = some (.frz od (keyD c.P c.w a kvs)) ∧ Stt c σ' τ' hv' hp' (upd H' a (keyD c.P c.w a kvs)) := by
  obtain ⟨⟨B, O1, O2, r1, r2, nd, hb, ho, wf, fr⟩, pin, mk⟩ := s
  obtain ⟨Oa, Ob, eo, ra, rb'⟩ := r2.split l
  have na : ¬ B a := by
    cases rb'.one' with
    | dcuF n _ _ => exact n
  have nI : a ∉ O1 ++ O2 := fun m => na ((hb a).mpr (.inr m))
  have nc : ¬ c.B a := fun m => na ((hb a).mpr (.inl m))
  have hs : a ≠ sysModules := fun e => by
    obtain ⟨o, u, hm⟩ := mk
    rw [e, hm] at ha
    cases ha
  have z := sw_lock (P := c.P) (w := c.w) (od := od) ha
  have up1 : ∀ x, x ≠ a → upd H a (.frz od (keyD c.P c.w a kvs)) x = H x := fun x n => upd_ne n
  refine ⟨O1 ++ O2, ⟨⟨B, O1, O2, r1.sw z fun m => nI (List.mem_append_left _ m), r2.sw z fun m => nI (List.mem_append_right _ m), nd, hb, fun x hx => ⟨(ho x hx).1, .inl hx⟩, fun x hx => ?_, fun x o h _ => h⟩, pin, ?_⟩, ?_⟩
  · obtain ⟨o, h⟩ := wf x hx
    exact ⟨o, (up1 x fun e => nc (e ▸ hx)).trans h⟩
  · obtain ⟨o, u, hm⟩ := mk
    exact ⟨o, u, (up1 _ hs.symm).trans hm⟩
  · intro σ' τ' hv' hp' H' s'
    obtain ⟨⟨B', P1, P2, q1, q2, nd', hb', ho', wf', fr'⟩, pin', mk'⟩ := s'
    have at' : H' a = some (.frz od (keyD c.P c.w a kvs)) := fr' a _ upd_same nI
    have nP : a ∉ P1 ++ P2 := fun m => by
      rcases (ho' a m).2 with q | q
      · exact nI q
      · have q : upd H a (.frz od (keyD c.P c.w a kvs)) a = none := q
        rw [upd_same] at q
        cases q
    have z' := sw_unlock (P := c.P) (w := c.w) at'
    have up2 : ∀ x, x ≠ a → upd H' a (keyD c.P c.w a kvs) x = H' x := fun x n => upd_ne n
    refine ⟨at', ⟨B', P1, P2, q1.sw z' fun m => nP (List.mem_append_left _ m), q2.sw z' fun m => nP (List.mem_append_right _ m), nd', hb', fun x hx => ⟨(ho' x hx).1, ?_⟩, fun x hx => ?_, fun x o h nx => ?_⟩, pin', ?_⟩
    · rcases (ho' x hx).2 with q | q
      · exact (ho x q).2
      · have q : upd H a (.frz od (keyD c.P c.w a kvs)) x = none := q
        have nxa : x ≠ a := fun e => by rw [e, upd_same] at q; cases q
        rw [up1 x nxa] at q
        by_cases m : x ∈ c.I
        · exact .inl m
        · cases e : c.H x with
          | none => exact .inr rfl
          | some o => rw [fr x o e m] at q; cases q
    · obtain ⟨o, h⟩ := wf' x hx
      by_cases e : x = a
      · exact ⟨_, by rw [e]; exact upd_same⟩
      · exact ⟨o, (up2 x e).trans h⟩
    · have hx := fr x o h nx
      by_cases e : x = a
      · subst e
        rw [ha] at hx
        rw [← hx]
        exact upd_same
      · refine (up2 x e).trans (fr' x o ((up1 x e).trans hx) fun m => ?_)
        rcases (ho x m).2 with q | q
        · exact nx q
        · rw [q] at h; cases h
    · obtain ⟨o, u, hm⟩ := mk'
      exact ⟨o, u, (up2 _ hs.symm).trans hm⟩
theorem Stt.keys (s : Stt c σ τ (hv ++ [.ref a]) (hp ++ [.dct false true es]) H) (l : hv.length = hp.length) (ha : ∃ k0, H a = some (keyD c.P c.w a k0)) : ∃ kvs : KEs, H a = some (keyD c.P c.w a kvs) ∧ kvs.length = es.length ∧ fzs (es.map eK) = es.map eK ∧
    Stt c σ τ (hv ++ (kvs.map fun q => V.ref q.2.1) ++ [.ref a]) (hp ++ es.map eK ++ [.dct false true es]) H := by
  obtain ⟨⟨B, O1, O2, r1, r2, nd, hb, ho, wf, fr⟩, pm⟩ := s
  obtain ⟨Oa, Ob, rfl, ra, rb'⟩ := r2.split l
  obtain ⟨k0, h0⟩ := ha
  have h1 := rb'.one'
  cases h1 with
  | dcuF n h r =>
    rename_i kvs
    have h2 : H a = some (keyD c.P c.w a kvs) := by
      rcases h with h | ⟨o, h⟩
      · exact h
      · rw [h0] at h; cases h
    refine ⟨kvs, h2, r.len, ksize r.ks.2, .mk' (Od := []) nd hb ho wf fr r1 ((ra.append r.ks.1).append (.one (.dcuF n h r))) ?_, pm⟩
    simp
/-- a walk over a dict that the slot i owns (it is read alone from here on) -/
def sforD (i : Nat) (g : PV → En → Option En) (b : En → Rs Fl) (τ : En) : Rs Fl := match τ[i]? with
  | some (.dct true true es) => match forF g b ((fzs es).map eK) (τ.set i (.dct false true (fzs es))) with
    | .ok (.nx τ') => .ok (.nx τ')
    | _ => .no
  | _ => .no
theorem ms_forD (i : Nat) {gg : TG} {tb : TS} {g : PV → En → Option En} {b : En → Rs Fl} (hg : ∀ H I, MG (rb c H I) gg g) (hb : ∀ H I, MS (rb c H I) tb b) : MS c (tLock (tFor (iCK c.P c.w (tVar i)) gg tb)) (sforD i g b) := fun σ τ hv hp H D s k => by
  unfold sforD at k
  split at k
  · rename_i es e
    split at k
    · rename_i τe ef
      have l := s.len
      obtain ⟨v, hs, s1⟩ := s.move e (fun z => nomatch z)
      obtain ⟨B, O, r⟩ := s1.top
      obtain ⟨a, kvs0, rfl, ha0⟩ : ∃ a kvs, v = .ref a ∧ H a = some (keyD c.P c.w a kvs) := by
        cases r with
        | dcuO h r => exact ⟨_, _, rfl, h⟩
      obtain ⟨v', hs', s2⟩ := s.read e (fun z => nomatch z)
      rw [hs] at hs'
      cases hs'
      have s2 : Stt c σ (τ.set i (.dct false true (fzs es))) (hv ++ [.ref a]) (hp ++ [.dct false true (fzs es)]) H := s2
      obtain ⟨kvs, ha, lk, fk, s2⟩ := s2.keys l ⟨_, ha0⟩
      refine ⟨a, keyD c.P c.w a kvs, ha, trivial, fun od => ?_⟩
      have lkm : (kvs.map fun q => V.ref q.2.1).length = ((fzs es).map eK).length := by rw [List.length_map, List.length_map, lk]
      obtain ⟨I, s3, back⟩ := s2.lock (by rw [List.length_append, List.length_append, l, lkm]) ha od
      have s4 := s3.pop
      have n0 : ((fzs es).map eK).length = kvs.length := by rw [List.length_map, lk]
      obtain ⟨v0, hs0, s5⟩ : ∃ v0, σ[i]? = some (some v0) ∧ v0 = .ref a := ⟨_, hs, rfl⟩
      refine ⟨.ref a, hs, a, od, kvs, rfl, upd_same, ?_⟩
      refine L2.for_it walkC (fun j σj Hj => ∃ τ, Stt (rb c (upd H a (.frz od (keyD c.P c.w a kvs))) I) σj τ (hv ++ kvs.map fun q => V.ref q.2.1) (hp ++ (fzs es).map eK) Hj ∧ forF g b (((fzs es).map eK).drop j) τ = .ok (.nx τe)) ⟨_, s4, ef⟩ (fun j σj Hj _ ⟨τ, sj, _⟩ => (back sj).1) (fun j x σ H5 H' hj ⟨τ, s, k'⟩ y => ?_) (fun σ H5 ⟨τ, s, k'⟩ => ?_)
      · obtain ⟨rfl, kk, q, v, hk, rfl⟩ := y
        have hj' : j < ((fzs es).map eK).length := by rw [n0]; exact hj
        rw [List.drop_eq_getElem_cons hj'] at k'
        have hq : ((fzs es).map eK)[j]? = some ((fzs es).map eK)[j] := List.getElem?_eq_getElem hj'
        generalize ((fzs es).map eK)[j] = kp at hq k'
        have s6 : Stt (rb c (upd H a (.frz od (keyD c.P c.w a kvs))) I) σ τ (hv ++ (kvs.map fun q => V.ref q.2.1) ++ [.ref q]) (hp ++ (fzs es).map eK ++ [kp]) H' := by
          rw [List.append_assoc, List.append_assoc]
          refine s.part l fun B O r => ?_
          have eo := r.nil_of fk
          subst eo
          obtain ⟨u, h1, h2⟩ := r.get hq
          have hu : (kvs.map fun q => V.ref q.2.1)[j]? = some (.ref q) := by rw [List.getElem?_map, hk]; rfl
          rw [hu] at h1
          cases h1
          exact ⟨[], [], .refl _, r.append (.one h2)⟩
        unfold forF at k'
        cases eg : g kp τ with
        | none => rw [eg] at k'; cases k'
        | some τ1 =>
          rw [eg] at k'
          simp only at k'
          refine hg _ _ σ τ τ1 _ _ _ _ H' _ s6 eg fun σ2 H2 s7 => hb _ _ σ2 τ1 _ _ H2 _ s7 ?_
          cases eb : b τ1 with
          | no => rw [eb] at k'; cases k'
          | err x y => rw [eb] at k'; cases k'
          | ok fl =>
            rw [eb] at k'
            cases fl with
            | nx τ2 => exact fun σ3 H3 s8 => ⟨τ2, s8, k'⟩
            | ct τ2 => exact fun σ3 H3 s8 => ⟨τ2, s8, k'⟩
            | bk τ2 =>
              simp only [bnd_ok] at k'
              cases k'
              exact fun σ3 H3 s8 => ⟨(back s8).1, k σ3 _ ((back s8).2.drop l)⟩
            | rt p2 τ2 => simp only [bnd_ok] at k'; cases k'
      · rw [← n0, List.drop_length] at k'
        cases k'
        exact ⟨(back s).1, k σ _ ((back s).2.drop l)⟩
    · exact k.elim
  · exact k.elim
end
end FL

namespace FL
open PySem PySem.Spec PyProof.Rows L2
/-! ### a statement that is never reached -/
def tNev : TS := fun _ _ _ => False
theorem ps_nev {X : Cx} {st : Stmt} : PS X st tNev := ⟨fun pins s σ H D I h => h.elim⟩
def snever (τ : En) : Rs Fl := .no
/-! ### range(j), j any number below 2 ^ 62 -/
section
variable {X : Cx} {tg : Expr}
theorem turn_long {P : Program} {w : World} {K : PySem.W.Frag} {tg : Expr} (it : Addr) (lo : Int) (n : Nat) : Turn P w K tg (Itr lo n) [it] it (fun i h => IsLongIter h it (lo + (i : Nat) * 1) ((n : Int) - (i : Nat)) 1) where
  mem := by simp
  obj := fun i h st b hb => by
    have e : b = it := by simpa using hb
    subst e
    exact ⟨_, st, fun v z => by
      have z' : Data.fields _ = Data.cell v := z
      cases z'⟩
  keep := fun i h h' st k => k it (by simp) _ st
  item := by
    intro X hP hw hK hc i pins s σ H E I hf st hg
    subst hP hw hK
    obtain ⟨f0, f1, f2, f3, f4, f5⟩ := hf it (by simp)
    have W := Walks.longrange (prog := X.prog) (w := X.w) (I.ok.hd hc) it lo 1 n
    refine W.item i s _ _ hg st fun v h' tk hv st' kk => ?_
    obtain ⟨t, rfl⟩ := hv
    have I1 : Inv X pins σ H { s with heap := h', toks := tk } := I.turned (fun b o hb e => kk b o (by simpa using hb) e) f0 f1 f3 f4 f5
    refine ⟨_, rfl, go_of (s := { s with heap := h', toks := tk }) (n := "longrange_iterator") st' rfl rfl (by decide) ⟨.int (lo + i), H, I1, ⟨t, ?_⟩, ⟨rfl, rfl⟩, st', fun b hb => (hf b hb).1⟩⟩
    rw [Int.mul_one]
  done := by
    intro X hP hw hK hc i pins s σ H E I hf st hg
    subst hP hw hK
    obtain ⟨f0, f1, f2, f3, f4, f5⟩ := hf it (by simp)
    exact wpAny_pyNext_long_end (I.ok.hd hc) st (by have : n ≤ i := hg; omega) fun h' eb => ⟨rfl, I.turned (t' := s.toks) (fun b o hb e => eb b o hb e) f0 f1 f3 f4 f5⟩
  self := fun _ _ _ _ _ st h => wpAny_pyIter_longiter st h
theorem range_any {pins : List (Addr × Obj)} {σ : L2.St} {H : Hp} {s : Shared} {R : It → Hp → Prop} {E : Value → Shared → Prop} {lo hi : Int} {t u v : Tok} {tk : Nat} (I : Inv X pins σ H s)
    (q : R (Itr lo (hi - lo).toNat) H) : wpAny (model X.prog X.w) X.A (pyIter (.ref s.heap.objs.size)) (PIE X pins σ tg R) E { s with heap := s.heap.push { cls := .type "range", data := .fields #[.int lo t, .int hi u, .int 1 v] }, toks := tk } := by
  have I1 : Inv X pins σ H { s with heap := s.heap.push { cls := .type "range", data := .fields #[.int lo t, .int hi u, .int 1 v] }, toks := tk } := I.kept fun b o e => Heap.get?_push_of_some _ e
  have e1 : lo + ((0 : Nat) : Int) * 1 = lo := by simp
  have e2 : (((hi - lo).toNat : Nat) : Int) - ((0 : Nat) : Int) = Builtin.Range.rangeSize lo hi 1 := by rw [rangeSize_one]; split <;> omega
  have hb' : ∀ b : Addr, b ∈ [(s.heap.push { cls := .type "range", data := .fields #[.int lo t, .int hi u, .int 1 v] }).objs.size] → b = (s.heap.push { cls := .type "range", data := .fields #[.int lo t, .int hi u, .int 1 v] }).objs.size := fun b hb => by simpa using hb
  cases hs : Builtin.Range.small lo hi 1 with
  | true =>
    refine wpAny_pyIter_range (IsRange.new ..) hs ?_
    refine ⟨(s.heap.push { cls := .type "range", data := .fields #[.int lo t, .int hi u, .int 1 v] }).objs.size, [(s.heap.push { cls := .type "range", data := .fields #[.int lo t, .int hi u, .int 1 v] }).objs.size], _, _, H, rfl,
      I1.kept (t' := tk) fun b o e => Heap.get?_push_of_some _ e, turn_range _ lo (hi - lo).toNat, ?_, fun b hb => ?_, q⟩
    · show IsRangeIter _ _ (lo + ((0 : Nat) : Int) * 1) ((((hi - lo).toNat : Nat) : Int) - ((0 : Nat) : Int)) 1
      rw [e1, e2]
      exact Heap.get?_push_size _ rfl
    · have e := hb' b hb
      subst e
      exact I1.fpOk (Nat.le_refl _) (I1.hok.fresh (Nat.le_refl _))
  | false =>
    refine wpAny_pyIter_longrange (IsRange.new ..) hs ?_
    refine ⟨(s.heap.push { cls := .type "range", data := .fields #[.int lo t, .int hi u, .int 1 v] }).objs.size, [(s.heap.push { cls := .type "range", data := .fields #[.int lo t, .int hi u, .int 1 v] }).objs.size], _, _, H, rfl,
      I1.kept (t' := tk) fun b o e => Heap.get?_push_of_some _ e, turn_long _ lo (hi - lo).toNat, ?_, fun b hb => ?_, q⟩
    · show IsLongIter _ _ (lo + ((0 : Nat) : Int) * 1) ((((hi - lo).toNat : Nat) : Int) - ((0 : Nat) : Int)) 1
      rw [e1, e2]
      exact Heap.get?_push_size _ rfl
    · have e := hb' b hb
      subst e
      exact I1.fpOk (Nat.le_refl _) (I1.hok.fresh (Nat.le_refl _))
/-- range(j), whatever j -/
def iRngW (ta : TA) : TI := fun σ H R => ta σ H fun vs H1 => ∃ j : Int, vs = [.int j] ∧ R (Itr 0 j.toNat) H1
theorem pi_rangeW {a : Expr} {ta : TA} {p pos : Pos} (hg : Gl X "range") (hm : X.mg "range" = none) (ha : PA X [a] ta) (hs : starEach [a] X.env = [(false, eval a X.env)] := by rfl) : PI X tg (.Call (.Name "range" p) [a] [] pos) (iRngW ta) := by
  refine ⟨fun pins s σ H R I h => ?_⟩
  refine Call_ (ld_blt I hg hm boot_range (PyProof.Rows.callWith_type1 (thn (ha.run pos pins s σ H _ I h) fun us s1 ⟨vs, H1, I1, r1, q1⟩ => ?_) hs rfl))
  obtain ⟨j, e, q⟩ := q1
  subst e
  cases r1 with
  | cons r rr =>
    cases rr
    obtain ⟨t, rfl⟩ := r
    exact call_range_1 (range_any I1 (by simpa using q))
end
section
variable {c : Bd}
theorem ms_nev : MS c tNev snever := fun σ τ hv hp H D s k => k.elim
def irngW (f : En → Rs (List PV × En)) (τ : En) : Rs (List PV × En) := bnd (f τ) fun a => match a.1 with
  | [.int j] => .ok (rng 0 j.toNat, a.2)
  | _ => .no
theorem mi_rngW {t : TA} {f : En → Rs (List PV × En)} (h : MA c t f) : MI c (iRngW t) (irngW f) := fun σ τ hv hp H R s k => h σ τ hv hp H _ s (aft_mono (aft_bnd k) fun a k vs H1 s1 => by
  split at k
  · rename_i j e
    rw [e] at s1
    obtain ⟨rfl, s2⟩ := Stt.one s.len s1 rfl
    exact ⟨j, rfl, k _ [] [] H1 (by simpa using s2) wlk_range⟩
  · exact k.elim)
theorem irngW_ok {f : En → Rs (List PV × En)} {τ τ' : En} {j : Int} (h : f τ = .ok ([.int j], τ')) : irngW f τ = .ok (rng 0 j.toNat, τ') := by
  unfold irngW
  rw [h]
  rfl
/-! ### sum -/
def intsOf : List PV → Option (List Int)
  | [] => some []
  | .int i :: ps => (intsOf ps).map (i :: ·)
  | _ :: _ => none
theorem ints_eq : ∀ {ps : List PV} {ns : List Int}, intsOf ps = some ns → ps = ns.map .int
  | [], _, h => by cases h; rfl
  | .int i :: ps, _, h => by
    obtain ⟨ns, e, rfl⟩ := Option.map_eq_some_iff.mp (show (intsOf ps).map (i :: ·) = some _ from h)
    rw [ints_eq e]; rfl
  | .un :: _, _, h => nomatch h
  | .non :: _, _, h => nomatch h
  | .bl _ :: _, _, h => nomatch h
  | .str _ :: _, _, h => nomatch h
  | .tup _ :: _, _, h => nomatch h
  | .lst _ _ :: _, _, h => nomatch h
  | .dct _ _ _ :: _, _, h => nomatch h
  | .ins _ _ _ :: _, _, h => nomatch h
  | .exc _ _ _ _ :: _, _, h => nomatch h
theorem ints_map : ∀ ns : List Int, intsOf (ns.map .int) = some ns
  | [] => rfl
  | n :: ns => by rw [List.map_cons, intsOf, ints_map ns]; rfl
def gSum : Uop
  | .lst _ ps => (intsOf ps).map fun ns => .int ns.sum
  | _ => none
theorem l_sum : LC c (rSum c.K) (on1 gSum) := fun σ τ hv hp H vs ps z Q l s e k => by
  have l2 := Stt.lenL l s (H' := H)
  match ps, vs, l2, e with
  | [p], [x], _, e =>
    have e : gSum p = some z := e
    unfold gSum at e
    split at e
    · rename_i o ps
      obtain ⟨ns, e1, rfl⟩ := Option.map_eq_some_iff.mp e
      obtain rfl := ints_eq e1
      obtain ⟨B, O, r⟩ := s.top
      obtain ⟨a, us, rfl, h, _⟩ := r.lst_at
      obtain ⟨_, _, _, r2⟩ := r.lstI h
      have ex := Rels.svs (f := PV.int) (g := V.int) (fun _ => rfl) r2
      subst ex
      exact ⟨a, ns, rfl, SqL.of h, k _ H (s.pop.sc rfl)⟩
    · cases e
/-! ### x.extend(y) -/
def gExtend : Mop := fun p ps => match p, ps with
  | .lst true xs, [.lst _ ys] => if fits (xs.length + ys.length) = true then some (.lst true (xs ++ fzs ys), .non) else none
  | _, _ => none
theorem lm_extend : LM c rExtend gExtend := fun σ τ hv hp H x vs p ps p' z Q l s e k => by
  unfold gExtend at e
  split at e
  · rename_i xs o ys
    split at e
    · rename_i f
      cases e
      have l2 := Stt.lenL l s (H' := H)
      match vs, l2 with
      | [y], _ =>
        have s0 : Stt c σ τ (hv ++ [x] ++ [y]) (hp ++ [.lst true xs] ++ [.lst false (fzs ys)]) H := Stt.froze (p := .lst o ys) (by simpa using s)
        obtain ⟨B, O, r⟩ := s0.pop.top
        obtain ⟨a, us, rfl, h, lx⟩ := r.lst_at
        obtain ⟨B2, O2, r2⟩ := s0.top
        obtain ⟨b, zs, rfl, hb, lz⟩ := r2.lst_at
        have lz : zs.length = ys.length := by rw [lz, fzs_map, List.length_map]
        refine ⟨a, b, us, zs, rfl, rfl, h, hb, by rw [lx, lz]; exact fits_ok f, k _ _ (Stt.add ?_ rfl)⟩
        have s3 : Stt c σ τ (hv ++ [.ref a] ++ zs) (hp ++ [.lst true xs] ++ fzs ys) H := s0.part (by simp [l]) fun B O r => by
          have r := r.one'
          have eo := r.nil_of (fz_fz (.lst o ys))
          subst eo
          cases r with
          | lstF n h' r => rw [hb] at h'; cases h'; exact ⟨[], [], .refl _, r⟩
        have s4 : Stt c σ τ (hv ++ (.ref a :: zs)) (hp ++ (.lst true xs :: fzs ys)) H := by simpa using s3
        exact s4.writeL l h fun B H' O r => ⟨[], O, by simp, r⟩
    · cases e
  · cases e
/-! ### [*x, ..] -/
def vstar (f : En → Rs (PV × En)) (g : En → Rs (List PV × En)) (τ : En) : Rs (List PV × En) := bnd (f τ) fun a => match a.1 with
  | .lst _ ps => bnd (g a.2) fun b => .ok (fzs ps ++ b.1, b.2)
  | _ => .no
theorem ma_star {t : TE} {u : TA} {f : En → Rs (PV × En)} {g : En → Rs (List PV × En)} (h : ME c t f) (h' : MA c u g) : MA c (StX.tStar c.K t u) (vstar f g) := fun σ τ hv hp H Q s k => h σ τ hv hp H _ s (aft_mono (aft_bnd k) fun a k v H1 s1 => by
  split at k
  · rename_i o ps e
    rw [e] at s1
    have s1 : Stt c σ a.2 (hv ++ [v]) (hp ++ [.lst false (fzs ps)]) H1 := s1.froze
    obtain ⟨B, O, r⟩ := s1.top
    obtain ⟨ad, xs, rfl, hx, lx⟩ := r.lst_at
    refine ⟨ad, xs, rfl, .inr (SqL.of hx), ?_⟩
    have s2 : Stt c σ a.2 (hv ++ xs) (hp ++ fzs ps) H1 := s1.part s.len fun B O r => by
      have r := r.one'
      have eo := r.nil_of (fz_fz (.lst o ps))
      subst eo
      cases r with
      | lstF n h' r => rw [hx] at h'; cases h'; exact ⟨[], [], .refl _, r⟩
    exact h' σ a.2 _ _ H1 _ s2 (aft_mono (aft_bnd k) fun b k vs H2 s3 => k _ H2 (by simpa using s3))
  · exact k.elim)
end
/-! ### t[::-1], t a tuple -/
section
open HT
variable {prog : Program} {w : World} {A : Around} {E : Value → Shared → Prop} {s : Shared}
theorem fmap_congr {α β : Type} {f g : α → Option β} : ∀ {xs : List α}, (∀ x ∈ xs, f x = g x) → xs.filterMap f = xs.filterMap g
  | [], _ => rfl
  | x :: xs, h => by
    rw [List.filterMap_cons, List.filterMap_cons, h x (by simp), fmap_congr fun y hy => h y (by simp [hy])]
theorem rev_pick (xs : Array Value) : ((List.range xs.size).filterMap fun (m : Nat) => xs[(((xs.size : Nat) : Int) - 1 + (m : Int) * (-1)).toNat]?).toArray = xs.toList.reverse.toArray := by
  have e := PySem.W.krv_pick xs
  unfold slicePick at e
  rw [PySem.W.krv_bounds] at e
  have e2 : ((sliceRange ((xs.size : Int) - 1) (-1) (-1)).filterMap (xs[·]?)).toArray = xs.toList.reverse.toArray := e
  rw [PySem.W.krv_sliceRange, List.filterMap_map] at e2
  rw [← e2]
  congr 1
  refine fmap_congr fun m hm => ?_
  have := List.mem_range.mp hm
  show _ = xs[xs.size - 1 - m]?
  congr 1
  omega
theorem adjust_rev (n : Nat) : Builtin.Slice.sliceAdjust none none (-1) (n : Int) = ((n : Int) - 1, -1) := rfl
theorem places_rev (n : Nat) : Builtin.Slice.slicePlaces ((n : Int) - 1) (-1) (-1) = n := by
  unfold Builtin.Slice.slicePlaces
  have h1 : ¬ ((-1 : Int) > 0) := by decide
  have e : ((n : Int) - 1 - -1 - 1) / (- -1) = (n : Int) - 1 := by
    rw [show (- -1 : Int) = 1 by decide, Int.ediv_one]
    omega
  rw [if_neg h1, e]
  split <;> omega
theorem sliceApplied_rev {sl : Addr} {vs : Value} {n : Nat} {Q : Int × Int × Nat → Shared → Prop} (hs : s.heap.IsSliceOf sl .none .none vs) (ps : IsPart vs (some (-1)))
    (h : Q ((n : Int) - 1, -1, n) s) : wpAny (model prog w) A (Builtin.Slice.sliceApplied (.ref sl) (pure (n : Int))) Q E s := by
  obtain ⟨os, hos, hcs, hds⟩ := id hs
  unfold Builtin.Slice.sliceApplied Builtin.Slice.sliceFields
  refine wpAny_bind (wpAny_bind (wpAny_field hos hds (x := .none) rfl (wpAny_bind (wpAny_field hos hds (x := .none) rfl (wpAny_bind (wpAny_field hos hds (x := vs) rfl (wpAny_pure ?_)))))))
  refine wpAny_bind (slicePart_ ps ?_)
  show wpAny _ _ (if ((-1 : Int) == 0) = true then _ else _) _ _ s
  rw [if_neg (by decide)]
  refine wpAny_bind (slicePart_ .none (wpAny_bind (slicePart_ .none (wpAny_bind (wpAny_pure ?_)))))
  show wpAny _ _ (match Builtin.Slice.sliceAdjust none none (-1) (n : Int) with | (lo, hi) => pure (lo, (-1 : Int), Builtin.Slice.slicePlaces lo hi (-1))) _ _ s
  rw [adjust_rev n]
  show wpAny _ _ (pure ((n : Int) - 1, (-1 : Int), Builtin.Slice.slicePlaces ((n : Int) - 1) (-1) (-1))) _ _ s
  rw [places_rev]
  exact wpAny_pure h
theorem getItem_tuple_rev {t sl : Addr} {items : Array Value} {vs : Value} {Q : Value → Shared → Prop} (ht : IsTup s.heap t items) (hs : s.heap.IsSliceOf sl .none .none vs) (ps : IsPart vs (some (-1)))
    (h : Q (.ref s.heap.objs.size) { s with heap := s.heap.push { cls := .type "tuple", data := .seq items.toList.reverse.toArray } })
    (hsz : items.size ≤ sizeLine) : wpAny (model prog w) A (getItem (.ref t) (.ref sl)) Q E s := by
  have htake : sizeOk (.seq items.toList.reverse.toArray) := by
    show items.toList.reverse.toArray.size ≤ sizeLine
    rw [List.size_toArray, List.length_reverse, Array.length_toList]
    exact hsz
  obtain ⟨os, hos, hcs, hds⟩ := id hs
  have hTs : s.TypeIs (.ref sl) "slice" := ⟨os, hos, hcs⟩
  unfold getItem
  try with_reducible refine wpAny_holding ?_
  first | refine wpAny_bind (wpAny_pure ?_) | skip
  refine wpAny_bind (wpAny_sequenceKey ht.typeIs (by decide) ?_)
  refine wpAny_bind (wpAny_callSpecial?_slot (name := Str.ofString "__getitem__") ht.typeIs PyProof.Rows.slot_tuple_getitem
    (wpAny_call_entry PyProof.Rows.slot_tuple_getitem ht.typeIs entry_tuple_getitem ?_ (args_tuple_getitem _ _)))
  show wpAny _ _ (Builtin.Tuple.tupleItemsOf (.ref t) >>= _) _ _ s
  refine wpAny_bind (tupleItemsOf_ ht ?_)
  refine wpAny_bind (wpAny_typeOf hTs ?_)
  rw [if_pos (by decide)]
  refine wpAny_bind (sliceApplied_rev hs ps ?_)
  have hno : ¬ (((((items.size : Nat) : Int) - 1) == 0 && (-1 : Int) == 1 && items.size == items.size) = true) := by
    intro q
    rw [Bool.and_eq_true, Bool.and_eq_true] at q
    exact absurd q.1.2 (by decide)
  show wpAny _ _ (if ((((items.size : Nat) : Int) - 1) == 0 && (-1 : Int) == 1 && items.size == items.size) = true then _ else _) _ _ s
  rw [if_neg hno, rev_pick]
  first
    | exact wpAny_bind (m := Builtin.Tuple.tupleExact _) (wpAny_newObj_type (wpAny_pure ⟨_, rfl, wpAny_pure h⟩) htake)
    | exact wpAny_bind (m := Builtin.Tuple.tupleExact _) (wpAny_newObj_type (wpAny_bind (wpAny_pure (wpAny_pure ⟨_, rfl, wpAny_pure h⟩))) htake)
    | exact wpAny_bind (wpAny_bind (m := Builtin.Tuple.tupleExact _) (wpAny_newObj_type (wpAny_pure (wpAny_pure ⟨_, rfl, wpAny_pure h⟩)) htake))
    | exact wpAny_bind (wpAny_bind (m := Builtin.Tuple.tupleExact _) (wpAny_newObj_type (wpAny_pure ⟨_, rfl, wpAny_pure h⟩) htake))
end
section
variable {X : Cx}
def tRevT (K : PySem.W.Frag) (te : TE) : TE := fun σ H Q => te σ H fun x H1 => ∃ a xs, x = .ref a ∧ SqT K H1 a xs ∧ ∀ p, H1 p = none → Q (.ref p) (upd H1 p (.tup xs.reverse))
theorem pe_revT {e : Expr} {te : TE} {k : Nat} {p1 p2 p3 pos : Pos} (he : PE X e te) : PE X (.Subscript e (.Slice none none (some (.UnaryOp .USub (.Constant (.int 1) k p1) p2)) p3) pos) (tRevT X.K te) := by
  refine ⟨fun pins s σ H Q I h => ?_⟩
  refine Subscript_ (thn (he.run pins s σ H _ I h) fun v s1 ⟨x, H1, I1, r1, q1⟩ => ?_)
  obtain ⟨a, xs, ex, hx, q⟩ := q1
  subst ex
  cases r1
  have hst : PO X (some (.UnaryOp .USub (.Constant (.int 1) k p1) p2)) (tPart (tUn (rU fun i => .int (-i)) (tC (.int 1)))) := po_some (pe_un un_neg pe_int)
  refine wpAny_Slice (thn (po_none.run pins s1 σ H1 (fun o H2 => o = none ∧ H2 = H1) I1 ⟨rfl, rfl⟩) fun vl s2 ⟨l, H2, I2, pl, el, e2⟩ => ?_)
  subst el e2
  refine thn (po_none.run pins s2 σ H2 (fun o H3 => o = none ∧ H3 = H2) I2 ⟨rfl, rfl⟩) fun vu s3 ⟨u, H3, I3, pu, eu, e3⟩ => ?_
  subst eu e3
  refine thn (hst.run pins s3 σ H3 (fun o H4 => o = some (-1) ∧ H4 = H3) I3 ⟨1, rfl, -1, rfl, rfl, rfl⟩) fun vs s4 ⟨o, H4, I4, ps, eo, e4⟩ => ?_
  subst eo e4
  cases pl
  cases pu
  have I5 : Inv X pins σ H4 { s4 with heap := s4.heap.push { cls := .type "slice", data := .fields #[.none, .none, vs] } } := I4.kept (t' := s4.toks) fun b ob q => Heap.get?_push_of_some _ q
  obtain ⟨its, r, ht, hz⟩ := I5.tuple hx
  have hlen := r.length
  show wpAny (model X.prog X.w) X.A (subscriptTail e (.Slice none none (some (.UnaryOp .USub (.Constant (.int 1) k p1) p2)) p3) (.ref a) (.ref s4.heap.objs.size)) (EP X pins σ Q) X.xe { s4 with heap := s4.heap.push { cls := .type "slice", data := .fields #[.none, .none, vs] } }
  refine tail_any (ops := [.ref a, .ref s4.heap.objs.size]) ht.typeIs (PyProof.Rows.slot_tuple_getitem.lookup) ?_ (by with_unfolding_all rfl)
  refine getItem_tuple_rev ht (Heap.IsSliceOf.new _ .none .none vs) ps ?_ (by rw [List.size_toArray]; omega)
  refine ⟨.ref _, _, I5.laid (t' := s4.toks) (o := .tup xs.reverse) (fun b ob q => Heap.get?_push_of_some _ q) (Nat.le_refl _) ?_, rfl, q _ (I5.hok.fresh (Nat.le_refl _))⟩
  exact ⟨by rw [List.length_reverse]; exact hz, _, r.reverse, IsTup.new _ _⟩
end
section
variable {c : Bd}
def revT (f : En → Rs (PV × En)) (τ : En) : Rs (PV × En) := bnd (f τ) fun a => match a.1 with
  | .tup ps => .ok (.tup ps.reverse, a.2)
  | _ => .no
theorem te_revT {t : TE} {f : En → Rs (PV × En)} (h : ME c t f) : ME c (tRevT c.K t) (revT f) := fun σ τ hv hp H Q s k => h σ τ hv hp H _ s (aft_mono (aft_bnd k) fun a k x H1 s1 => by
  split at k
  · rename_i ps e
    rw [e] at s1
    obtain ⟨B, O, r⟩ := s1.top
    obtain ⟨ad, xs, rfl, hx, _⟩ := r.tup_at
    refine ⟨ad, xs, rfl, SqT.of hx, fun D nD => k _ _ (Stt.newT (s1.part s1.lenT fun B O r => ?_) s1.lenT nD)⟩
    have q1 := r.one'.tupI hx
    obtain ⟨O', p2, q2⟩ := q1.rev
    exact ⟨[], O', by simpa using p2, q2⟩
  · exact k.elim)
end
end FL

namespace FL
open PySem PySem.Spec PyProof.Rows L2
/-! ### two dicts of numbers that are the same -/
def gEqK (ne : Bool) : Bop := fun p q => match p, q with
  | .dct _ true es, .dct _ true fs => match intsOf (es.map eVal), intsOf (fs.map eVal) with
    | some ns, some ms => if ns = ms ∧ es.map eKey = fs.map eKey then some (.bl (!ne)) else none
    | _, _ => none
  | _, _ => none
theorem gEqK_eq {ne : Bool} {p q z : PV} (h : gEqK ne p q = some z) : ∃ o o' es fs ns, p = .dct o true es ∧ q = .dct o' true fs ∧ intsOf (es.map eVal) = some ns ∧ intsOf (fs.map eVal) = some ns ∧ es.map eKey = fs.map eKey ∧ z = .bl (!ne) := by
  unfold gEqK at h
  split at h
  · split at h
    · split at h
      · rename_i e1 e2 e3
        cases h
        obtain ⟨rfl, e3⟩ := e3
        exact ⟨_, _, _, _, _, rfl, rfl, e1, e2, e3, rfl⟩
      · cases h
    · cases h
  · cases h
section
variable {P : Program} {w : World} {B : Addr → Prop} {H : Hp}
theorem RelK.nums : ∀ {kvs : KEs} {es : List PV} {O : List Addr} {ns : List Int}, RelK P w B H kvs es O → intsOf (es.map eVal) = some ns → kvs.map (fun q => q.2.2) = ns.map V.int
  | _, _, _, _, .nil, h => by cases h; rfl
  | _, _, _, _, .cons (kp := kp) (p := p) x ek dk y r, h => by
    rw [List.map_cons] at h
    have h : intsOf (p :: _) = some _ := h
    cases p with
    | int i =>
      obtain ⟨ms, e, rfl⟩ := Option.map_eq_some_iff.mp (show (intsOf _).map (i :: ·) = some _ from h)
      rw [List.map_cons, List.map_cons, RelK.nums r e, y.sv rfl]
    | _ => cases h
theorem keq_all {ks ls : KEs} {ns : List Int} (h1 : ks.map (fun q => q.2.2) = ns.map V.int) (h2 : ls.map (fun q => q.2.2) = ns.map V.int) (h3 : ks.map (·.1) = ls.map (·.1)) :
    ks.length = ls.length ∧ ∀ k q v, (k, q, v) ∈ ks → ∃ (j : Nat) (q' : Addr) (i : Int), ls[j]? = some (k, q', .int i) ∧ v = .int i := by
  have l1 := congrArg List.length h1
  have l2 := congrArg List.length h2
  simp only [List.length_map] at l1 l2
  refine ⟨by omega, fun k q v hm => ?_⟩
  obtain ⟨j, hj⟩ := List.mem_iff_getElem?.mp hm
  have lj := (List.getElem?_eq_some_iff.mp hj).1
  have a1 : (ns.map V.int)[j]? = some v := by rw [← h1, List.getElem?_map, hj]; rfl
  have lj2 : j < ls.length := by omega
  have hl : ls[j]? = some ls[j] := List.getElem?_eq_getElem lj2
  have a2 : (ns.map V.int)[j]? = some ls[j].2.2 := by rw [← h2, List.getElem?_map, hl]; rfl
  have a3 : (ls.map (·.1))[j]? = some k := by rw [← h3, List.getElem?_map, hj]; rfl
  rw [List.getElem?_map, hl] at a3
  have e3 : ls[j].1 = k := Option.some.inj a3
  rw [a1] at a2
  have e2 : v = ls[j].2.2 := Option.some.inj a2
  rw [List.getElem?_map] at a1
  obtain ⟨i, _, e1⟩ := Option.map_eq_some_iff.mp a1
  refine ⟨j, ls[j].2.1, i, ?_, e1.symm⟩
  rw [hl, ← e3, e1, e2]
end
theorem somes_inj {α : Type} : ∀ {xs ys : List α}, xs.map some = ys.map some → xs = ys
  | [], [], _ => rfl
  | [], _ :: _, h => nomatch h
  | _ :: _, [], h => nomatch h
  | x :: xs, y :: ys, h => by
    rw [List.map_cons, List.map_cons] at h
    injection h with h1 h2
    rw [Option.some.inj h1, somes_inj h2]
section
variable {c : Bd}
theorem l_eqK {ne : Bool} : L2op c (rKEq c.P c.w ne) (gEqK ne) := fun σ τ hv hp H x y p q z Q s e k => by
  obtain ⟨o, o', es, fs, ns, rfl, rfl, e1, e2, e3, rfl⟩ := gEqK_eq e
  obtain ⟨B, O, r1⟩ := s.pop.top
  obtain ⟨B2, O2, r2⟩ := s.top
  obtain ⟨a, ks, rfl, d1, _, O3, k1⟩ := r1.dcu_at
  obtain ⟨b, ls, rfl, d2, _, O4, k2⟩ := r2.dcu_at
  have h3 : ks.map (·.1) = ls.map (·.1) := by
    have f1 := k1.ekeys
    have f2 := k2.ekeys
    rw [e3, f2] at f1
    have f3 : (ls.map (·.1)).map some = (ks.map (·.1)).map some := by rw [List.map_map, List.map_map]; exact f1
    exact (somes_inj f3).symm
  obtain ⟨h4, h5⟩ := keq_all (k1.nums e1) (k2.nums e2) h3
  exact ⟨a, b, ks, ls, rfl, rfl, d1, d2, h4, h5, k _ H (s.pop.pop.sc rfl)⟩
end
end FL

namespace HK
open PySem PySem.Spec PyProof.Rows L2
section
variable {prog : Program} {w : World} {A : Around} {E : Value → Shared → Prop} {s : Shared} {a b : Str} {t u : Tok} {Q : Value → Shared → Prop}
theorem strsT_min {T : Addr} (hh : A.handled = none) (hT : s.heap.IsTuple T #[.str a t, .str b u]) (h : ∀ h' tk, (∀ c o, s.heap.get? c = some o → h'.get? c = some o) → Q (if decide (b.cps.toList < a.cps.toList) = true then .str b u else .str a t) { s with heap := h', toks := tk }) :
    wpAny (model prog w) A (call (.builtin "min") [.ref T]) Q E s := by
  have lT : T < s.heap.objs.size := by obtain ⟨o, ho, _⟩ := hT; exact Heap.lt_size ho
  refine call_min_walk (wpAny_pyIter_tuple hT ?_)
  refine ⟨_, [_, T], [_], 2, _, _, _, rfl, Walks.tuple (A := A.in1) hh _ T (Nat.ne_of_lt lT) #[.str a t, .str b u], ⟨⟨_, Heap.get?_push_size _ rfl, rfl, rfl⟩, hT.push _⟩, fun c hc => ?_, by decide, cmp_str_lt (pairAt a b) pair_at, fun v h' tk hP hk => ?_⟩
  · show c < (s.heap.push _).objs.size
    rw [Heap.size_push]
    rcases List.mem_cons.mp hc with rfl | hc
    · exact Nat.lt_succ_self _
    · rw [List.mem_singleton.mp hc]; exact Nat.lt_succ_of_lt lT
  · rw [pair_best _ hP]
    refine h h' tk fun c o e => hk c o (fun hm => ?_) (Heap.get?_push_of_some _ e)
    have z := Heap.lt_size e
    rw [List.mem_singleton.mp hm] at z
    exact Nat.lt_irrefl _ z
theorem strsT_max {T : Addr} (hh : A.handled = none) (hT : s.heap.IsTuple T #[.str a t, .str b u]) (h : ∀ h' tk, (∀ c o, s.heap.get? c = some o → h'.get? c = some o) → Q (if decide (a.cps.toList < b.cps.toList) = true then .str b u else .str a t) { s with heap := h', toks := tk }) :
    wpAny (model prog w) A (call (.builtin "max") [.ref T]) Q E s := by
  have lT : T < s.heap.objs.size := by obtain ⟨o, ho, _⟩ := hT; exact Heap.lt_size ho
  refine call_max_walk (wpAny_pyIter_tuple hT ?_)
  refine ⟨_, [_, T], [_], 2, _, _, _, rfl, Walks.tuple (A := A.in1) hh _ T (Nat.ne_of_lt lT) #[.str a t, .str b u], ⟨⟨_, Heap.get?_push_size _ rfl, rfl, rfl⟩, hT.push _⟩, fun c hc => ?_, by decide, cmp_str_gt (pairAt a b) pair_at, fun v h' tk hP hk => ?_⟩
  · show c < (s.heap.push _).objs.size
    rw [Heap.size_push]
    rcases List.mem_cons.mp hc with rfl | hc
    · exact Nat.lt_succ_self _
    · rw [List.mem_singleton.mp hc]; exact Nat.lt_succ_of_lt lT
  · rw [pair_best _ hP]
    refine h h' tk fun c o e => hk c o (fun hm => ?_) (Heap.get?_push_of_some _ e)
    have z := Heap.lt_size e
    rw [List.mem_singleton.mp hm] at z
    exact Nat.lt_irrefl _ z
end
def rMinT (K : PySem.W.Frag) : List V → Hp → VK → Prop := fun xs H Q => ∃ (p : Addr) (a b : Str), xs = [V.ref p] ∧ SqT K H p [.str a, .str b] ∧ Q (.str (minS a b)) H
def rMaxT (K : PySem.W.Frag) : List V → Hp → VK → Prop := fun xs H Q => ∃ (p : Addr) (a b : Str), xs = [V.ref p] ∧ SqT K H p [.str a, .str b] ∧ Q (.str (maxS a b)) H
section
variable {X : Cx}
theorem call_minT (hc : X.calm = true) : CallR X (.builtin "min") (rMinT X.K) := by
  intro pins s σ H xs us Q I r h
  obtain ⟨p, a, b, rfl, hs, q⟩ := h
  obtain ⟨its, rv, hl, _⟩ := I.tuple hs
  rw [Vals.ref1 r]
  obtain ⟨u, v, rfl, ⟨t, rfl⟩, ⟨t', rfl⟩⟩ := vals2 rv
  refine strsT_min (I.ok.hd hc) (show s.heap.IsTuple p #[.str a t, .str b t'] from hl) fun h' tk k => ⟨_, H, I.kept k, ?_, q⟩
  unfold minS
  by_cases g : b.cps.toList < a.cps.toList
  · rw [if_pos (decide_eq_true g), if_pos g]; exact ⟨_, rfl⟩
  · rw [decide_eq_false g, if_neg Bool.false_ne_true, if_neg g]; exact ⟨_, rfl⟩
theorem call_maxT (hc : X.calm = true) : CallR X (.builtin "max") (rMaxT X.K) := by
  intro pins s σ H xs us Q I r h
  obtain ⟨p, a, b, rfl, hs, q⟩ := h
  obtain ⟨its, rv, hl, _⟩ := I.tuple hs
  rw [Vals.ref1 r]
  obtain ⟨u, v, rfl, ⟨t, rfl⟩, ⟨t', rfl⟩⟩ := vals2 rv
  refine strsT_max (I.ok.hd hc) (show s.heap.IsTuple p #[.str a t, .str b t'] from hl) fun h' tk k => ⟨_, H, I.kept k, ?_, q⟩
  unfold maxS
  by_cases g : a.cps.toList < b.cps.toList
  · rw [if_pos (decide_eq_true g), if_pos g]; exact ⟨_, rfl⟩
  · rw [decide_eq_false g, if_neg Bool.false_ne_true, if_neg g]; exact ⟨_, rfl⟩
end
end HK
namespace FL
open PySem PySem.Spec PyProof.Rows L2
section
variable {c : Bd}
def gMinT : Uop
  | .tup [.str a, .str b] => some (.str (HK.minS a b))
  | _ => none
def gMaxT : Uop
  | .tup [.str a, .str b] => some (.str (HK.maxS a b))
  | _ => none
theorem strs2 {P : Program} {w : World} {B : Addr → Prop} {H : Hp} {xs : List V} {a b : Str} {O : List Addr} (r : Rels P w B H xs [.str a, .str b] O) : xs = [.str a, .str b] := by
  cases r with
  | cons x r =>
    cases r with
    | cons y r =>
      cases r
      rw [x.sv rfl, y.sv rfl]
theorem l_minT : LC c (HK.rMinT c.K) (on1 gMinT) := fun σ τ hv hp H vs ps z Q l s e k => by
  have l2 := Stt.lenL l s (H' := H)
  match ps, vs, l2, e with
  | [p], [x], _, e =>
    have e : gMinT p = some z := e
    unfold gMinT at e
    split at e
    · cases e
      obtain ⟨B, O, r⟩ := s.top
      obtain ⟨a, us, rfl, h, r2⟩ := r.tup_at
      cases strs2 r2
      exact ⟨a, _, _, rfl, SqT.of h, k _ H (s.pop.sc rfl)⟩
    · cases e
theorem l_maxT : LC c (HK.rMaxT c.K) (on1 gMaxT) := fun σ τ hv hp H vs ps z Q l s e k => by
  have l2 := Stt.lenL l s (H' := H)
  match ps, vs, l2, e with
  | [p], [x], _, e =>
    have e : gMaxT p = some z := e
    unfold gMaxT at e
    split at e
    · cases e
      obtain ⟨B, O, r⟩ := s.top
      obtain ⟨a, us, rfl, h, r2⟩ := r.tup_at
      cases strs2 r2
      exact ⟨a, _, _, rfl, SqT.of h, k _ H (s.pop.sc rfl)⟩
    · cases e
end
end FL

namespace FL
open PySem PySem.Spec PyProof.Rows L2
/-- is_integer(thing), slots thing -/
def b_is_integer : En → Rs Fl :=
    (sret (vand (isi "int" (rd 0)) (vnot (isi "bool" (rd 0)))))
def F_is_integer : FnF := runF 1 [false] b_is_integer
/-- is_number(least, thing), slots least thing -/
def b_is_number : En → Rs Fl :=
    (sret (vand (cal [false] F_is_integer [] (vcons (rd 1) vnil)) (bin gGe (rd 1) (rd 0))))
def F_is_number : FnF := runF 2 [false, false] b_is_number
/-- about(step), slots step cart turned -/
def b_n_about : En → Rs Fl :=
    (sseq (sasg (rd 0) (stTup 2 (stCons (stN 1) (stCons (stN 2) stNil))))
    (sseq (sif (tnot (tst (opB ixAb 1 (cst (.int 2)))))
       snever
       snx)
    (sret (vif (tst (cal [false] F_has_two_steps [] (vcons (rd 1) vnil))) (vtup (vcons (rd 1) (vcons (vnot (rd 2)) vnil))) (vtup (vcons (rd 1) (vcons (rd 2) vnil)))))))
def F_n_about : FnF := runF 3 [false] b_n_about
/-- couple(step, other), slots step other -/
def b_couple : En → Rs Fl :=
    (sret (bin (gEqA false) (cal [false] F_end_of [] (vcons (rd 0) vnil)) (cal [false] F_begin_of [] (vcons (rd 1) vnil))))
def F_couple : FnF := runF 2 [false, false] b_couple
/-- row_about(row), slots row index step -/
def b_n_row_about : En → Rs Fl :=
    (sseq (sasg (cal [false] F_first_fixed [] (vcons (rd 0) vnil)) (stN 1))
    (sseq (sif (tst (bin (gIsN true) (rd 1) (cst .non)))
       snever
       snx)
    (sret (vlc (ilst (revL (rd 0))) (stN 2) tyes (cal [false] F_n_about [] (vcons (rd 2) vnil)) [2]))))
def F_n_row_about : FnF := runF 3 [false] b_n_row_about
/-- _parts_couple(part, other), slots part other -/
def b__parts_couple : En → Rs Fl :=
    (sret (cal [false, false] F_couple [] (vcons (bin ixA (opB ixAb 0 (cst (.int 1))) (un1 gNeg (cst (.int 1)))) (vcons (bin ixA (opB ixAb 1 (cst (.int 1))) (cst (.int 0))) vnil))))
def F__parts_couple : FnF := runF 2 [false, false] b__parts_couple
/-- train_ends(train), slots train -/
def b_train_ends : En → Rs Fl :=
    (sret (vtup (vcons (bin ixA (cal [false] F_row_ends [] (vcons (bin ixA (opB ixAb 0 (cst (.int 0))) (cst (.int 1))) vnil)) (cst (.int 0))) (vcons (bin ixA (cal [false] F_row_ends [] (vcons (bin ixA (opB ixAb 0 (un1 gNeg (cst (.int 1)))) (cst (.int 1))) vnil)) (cst (.int 1))) vnil))))
def F_train_ends : FnF := runF 1 [false] b_train_ends
/-- carts_of(train), slots train found many row numbers cart -/
def b_carts_of : En → Rs Fl :=
    (sseq (sasg dnew (stN 1))
    (sseq (sfor (ilst (rd 0)) (stTup 2 (stCons (stN 2) (stCons (stN 3) stNil)))
       (sseq (sasg (cal [false] F_carts_in [] (vcons (rd 3) vnil)) (stN 4))
      (sforD 4 (stN 5)
         (sasg (bin gAddA (dg2 1 (rd 5) (cst (.int 0))) (bin gMulA (rd 2) (opB dget1 4 (rd 5)))) (stS dset 1 (rd 5))))))
    (sret (vdc (ilst (cbB gSortedD 1)) (stN 5) tyes (rd 5) (opB dget1 1 (rd 5)) [5]))))
def F_carts_of : FnF := runF 6 [false] b_carts_of
/-- length(train), slots train many row -/
def b_length : En → Rs Fl :=
    (sret (cb (on1 gSum) (vcons (vlc (ilst (rd 0)) (stTup 2 (stCons (stN 1) (stCons (stN 2) stNil))) tyes (bin gMulA (rd 1) (cbB gLenA 2)) [1, 2]) vnil)))
def F_length : FnF := runF 3 [false] b_length
/-- stretch(train, first, many), slots train first many found skipped times row size taken start index -/
def b_stretch : En → Rs Fl :=
    (sseq (sif (tor (tnot (tst (cal [false, false] F_is_number [] (vcons (cst (.int 0)) (vcons (rd 1) vnil))))) (tst (bin gGtA (bin gAddA (rd 1) (rd 2)) (cal [false] F_length [] (vcons (rd 0) vnil)))))
       snever
       snx)
    (sseq (sasg (vlst vnil) (stN 3))
    (sseq (sasg (rd 1) (stN 4))
    (sseq (sfor (ilst (rd 0)) (stTup 2 (stCons (stN 5) (stCons (stN 6) stNil)))
       (sseq (sasg (bin gMulA (rd 5) (cbB gLenA 6)) (stN 7))
      (sseq (sasg (cb gMinA (vcons (bin gSub' (rd 2) (cbB gLenA 3)) (vcons (bin gSub' (rd 7) (rd 4)) vnil))) (stN 8))
      (sseq (sasg (bin gMod (rd 4) (cbB gLenA 6)) (stN 9))
      (sseq (sdrop (mutM "list" gExtend 3 (vcons (vlc (irngW (vcons (rd 8) vnil)) (stN 10) tyes (opB ixAb 6 (bin gMod (bin gAddA (rd 9) (rd 10)) (cbB gLenA 6))) [10]) vnil)))
      (sasg (cb gMaxA (vcons (cst (.int 0)) (vcons (bin gSub' (rd 4) (rd 7)) vnil))) (stN 4)))))))
    (sret (mv 3))))))
def F_stretch : FnF := runF 11 [false, false, false] b_stretch
/-- step_at(train, index), slots train index -/
def b_step_at : En → Rs Fl :=
    (sret (bin ixA (cal [false, false, false] F_stretch [] (vcons (rd 0) (vcons (rd 1) (vcons (cst (.int 1)) vnil)))) (cst (.int 0))))
def F_step_at : FnF := runF 2 [false, false] b_step_at
/-- joined(one, other), slots one other many row -/
def b_joined : En → Rs Fl :=
    (sseq (sif (tnot (tst (cal [false, false] F__parts_couple [] (vcons (opB ixAb 0 (un1 gNeg (cst (.int 1)))) (vcons (opB ixAb 1 (cst (.int 0))) vnil)))))
       snever
       snx)
    (sret (vlc (ilst (vlst (vstar (rd 0) (vstar (rd 1) vnil)))) (stTup 2 (stCons (stN 2) (stCons (stN 3) stNil))) tyes (vtup (vcons (rd 2) (vcons (cb gList (vcons (rd 3) vnil)) vnil))) [2, 3])))
def F_joined : FnF := runF 4 [false, false] b_joined
/-- train_about(train), slots train passed many row index -/
def b_train_about : En → Rs Fl :=
    (sseq (sasg (cst (.int 0)) (stN 1))
    (sseq (sfor (ilst (rd 0)) (stTup 2 (stCons (stN 2) (stCons (stN 3) stNil)))
       (sseq (sasg (cal [false] F_first_fixed [] (vcons (rd 3) vnil)) (stN 4))
      (sseq (sif (tst (bin (gIsN true) (rd 4) (cst .non)))
         snever
         snx)
      (sasg (bin gAddA (rd 1) (bin gMulA (rd 2) (cbB gLenA 3))) (stN 1)))))
    (sret (vlc (ilst (revL (rd 0))) (stTup 2 (stCons (stN 2) (stCons (stN 3) stNil))) tyes (vtup (vcons (rd 2) (vcons (cal [false] F_n_row_about [] (vcons (rd 3) vnil)) vnil))) [2, 3]))))
def F_train_about : FnF := runF 5 [false] b_train_about
/-- _law_number(_law_bag_here), slots _law_bag_here _law_way -/
def b_l_number : En → Rs Fl :=
    (sseq (sasg (cal [true, false] F_l_take [0] (has 0 (vcons (cst (.int 8)) vnil))) (stN 1))
    (sseq (sif (tst (bin gLtA (rd 1) (cst (.int 6))))
       (sret (bin gAddA (cst (.int 1)) (cal [true, false] F_l_take [0] (has 0 (vcons (bin ixA (vlst (vcons (cst (.int 1)) (vcons (cst (.int 2)) (vcons (cst (.int 3)) (vcons (cst (.int 4)) (vcons (cst (.int 6)) (vcons (cst (.int 12)) vnil))))))) (rd 1)) vnil)))))
       snx)
    (sret (bin gAddA (bin ixA (vlst (vcons (bin gPow (cst (.int 10)) (cst (.int 3))) (vcons (bin gPow (cst (.int 10)) (cst (.int 9))) (vcons (bin gPow (cst (.int 10)) (cst (.int 17))) (vcons (bin gPow (cst (.int 10)) (cst (.int 29))) vnil))))) (cal [true, false] F_l_take [0] (has 0 (vcons (cst (.int 4)) vnil)))) (cal [true, false] F_l_take [0] (has 0 (vcons (cst (.int 7)) vnil)))))))
def F_l_number : FnF := runF 2 [true] b_l_number
/-- _law_round(_law_bag_here, _law_kinds_here, _law_here, _law_upto), slots _law_bag_here _law_kinds_here _law_here _law_upto _law_found -/
def b_l_round : En → Rs Fl :=
    (sseq (sasg (cal [true, false, false, false] F_l_row_from [0] (has 0 (vcons (rd 1) (vcons (rd 2) (vcons (rd 3) vnil))))) (stN 4))
    (sseq (sif (tst (bin (gEqA true) (cal [false] F_l_end [] (vcons (opB ixAb 4 (un1 gNeg (cst (.int 1)))) vnil)) (rd 2)))
       (sdrop (mutM "list" gAppend 4 (vcons (cal [true, false, false] F_l_step_on [0] (has 0 (vcons (cal [false] F_l_end [] (vcons (opB ixAb 4 (un1 gNeg (cst (.int 1)))) vnil)) (vcons (rd 2) vnil)))) vnil)))
       snx)
    (sret (mv 4))))
def F_l_round : FnF := runF 5 [true, false, false, false] b_l_round
/-- _law_train(_law_bag_here, _law_kinds_here, _law_upto), slots _law_bag_here _law_kinds_here _law_upto _law_here _law_found _law_k -/
def b_l_train : En → Rs Fl :=
    (sseq (spar 3 4 (vcons (cal [true, false] F_l_one [0] (has 0 (vcons (rd 1) vnil))) (vcons (vlst vnil) vnil)))
    (sseq (sfor (irng1 (vcons (bin gAddA (cst (.int 1)) (cal [true, false] F_l_take [0] (has 0 (vcons (rd 2) vnil)))) vnil)) (stN 5)
       (sif (tst (bin (gEqA false) (cal [true, false] F_l_take [0] (has 0 (vcons (cst (.int 2)) vnil))) (cst (.int 0))))
         (sdrop (mutM "list" gAppendF 4 (vcons (vtup (vcons (cal [true] F_l_number [0] (has 0 vnil)) (vcons (cal [true, false, false, false] F_l_round [0] (has 0 (vcons (rd 1) (vcons (rd 3) (vcons (cst (.int 3)) vnil))))) vnil))) vnil)))
         (sseq (sdrop (mutM "list" gAppendF 4 (vcons (vtup (vcons (cst (.int 1)) (vcons (cal [true, false, false, false] F_l_row_from [0] (has 0 (vcons (rd 1) (vcons (rd 3) (vcons (cst (.int 4)) vnil))))) vnil))) vnil)))
        (sasg (cal [false] F_l_end [] (vcons (bin ixA (bin ixA (opB ixAb 4 (un1 gNeg (cst (.int 1)))) (cst (.int 1))) (un1 gNeg (cst (.int 1)))) vnil)) (stN 3)))))
    (sret (mv 4))))
def F_l_train : FnF := runF 6 [true, false, false] b_l_train
/-- _law_freed(_law_train_here), slots _law_train_here _law_found _law_many _law_row _law_some _law_step _law_pair -/
def b_l_freed : En → Rs Fl :=
    (sseq (sasg (vlst vnil) (stN 1))
    (sseq (sfor (ilst (rd 0)) (stTup 2 (stCons (stN 2) (stCons (stN 3) stNil)))
       (sseq (sasg (vlc (ilst (rd 3)) (stN 5) tyes (vtup (vcons (cal [false] F_l_begin [] (vcons (rd 5) vnil)) (vcons (cal [false] F_l_end [] (vcons (rd 5) vnil)) vnil))) [5]) (stN 4))
      (sdrop (mutM "list" gAppendF 1 (vcons (vtup (vcons (rd 2) (vcons (vlc (ilst (rd 4)) (stN 6) tyes (vtup (vcons (vtup (vcons (cb (on1 gMinT) (vcons (rd 6) vnil)) (vcons (cb (on1 gMaxT) (vcons (rd 6) vnil)) (vcons (cst (.bl true)) vnil)))) (vcons (bin gGtA (opB ixAb 6 (cst (.int 0))) (opB ixAb 6 (cst (.int 1)))) vnil))) [6]) vnil))) vnil)))))
    (sret (mv 1))))
def F_l_freed : FnF := runF 7 [false] b_l_freed
/-- _law_same(_law_bag_here, _law_one_here, _law_other), slots _law_bag_here _law_one_here _law_other _law_places _law_k _law_place -/
def b_l_same : En → Rs Fl :=
    (sseq (sif (tor (tst (bin (gEqA true) (cal [false] F_length [] (vcons (rd 1) vnil)) (cal [false] F_length [] (vcons (rd 2) vnil)))) (tor (tst (bin (gEqK true) (cal [false] F_carts_of [] (vcons (rd 1) vnil)) (cal [false] F_carts_of [] (vcons (rd 2) vnil)))) (tst (bin (gEqA true) (cal [false] F_train_ends [] (vcons (rd 1) vnil)) (cal [false] F_train_ends [] (vcons (rd 2) vnil))))))
       (sret (cst (.bl false)))
       snx)
    (sseq (sasg (bin gAddA (vlst (vcons (cst (.int 0)) (vcons (bin gSub' (cal [false] F_length [] (vcons (rd 1) vnil)) (cst (.int 1))) vnil))) (vlc (irng1 (vcons (cst (.int 6)) vnil)) (stN 4) tyes (cal [true, false] F_l_take [0] (has 0 (vcons (cal [false] F_length [] (vcons (rd 1) vnil)) vnil))) [4])) (stN 3))
    (sret (bin (gEqA false) (vlc (ilst (rd 3)) (stN 5) (tst (bin (gEqA true) (cal [false, false] F_step_at [] (vcons (rd 1) (vcons (rd 5) vnil))) (cal [false, false] F_step_at [] (vcons (rd 2) (vcons (rd 5) vnil))))) (rd 5) [5]) (vlst vnil)))))
def F_l_same : FnF := runF 6 [true, false, false] b_l_same
/-- law(_law_script), slots _law_script _law_bag_here _law_turn _law_kinds_here _law_train_here _law_row _law_many _law_some _law_far _law_step _law_more -/
def b_law : En → Rs Fl :=
    (sseq (sasg (cal [false] F_l_bag [] (vcons (rd 0) vnil)) (stN 1))
    (sseq (sfor (irng1 (vcons (cst (.int 6)) vnil)) (stN 2)
       (sseq (sasg (cal [true, false] F_l_kinds [1] (has 1 (vcons (bin gAddA (cst (.int 1)) (cal [true, false] F_l_take [1] (has 1 (vcons (cst (.int 4)) vnil)))) vnil))) (stN 3))
      (sseq (spar 4 5 (vcons (cal [false] F_l_freed [] (vcons (fzE (cal [true, false, false] F_l_train [1] (has 1 (vcons (rd 3) (vcons (cst (.int 4)) vnil))))) vnil)) (vcons (vlst vnil) vnil)))
      (sseq (sfor (ilst (rd 4)) (stTup 2 (stCons (stN 6) (stCons (stN 7) stNil)))
         (sasg (bin gAddA (rd 5) (rd 7)) (stN 5)))
      (sseq (sasg (cal [false] F_train_about [] (vcons (rd 4) vnil)) (stN 8))
      (sseq (sif (tor (tnot (tst (cal [true, false, false] F_l_same [1] (has 1 (vcons (fzE (cal [false] F_train_about [] (vcons (rd 8) vnil))) (vcons (rd 4) vnil)))))) (tst (bin (gEqA true) (cal [false] F_train_ends [] (vcons (rd 8) vnil)) (revT (cal [false] F_train_ends [] (vcons (rd 4) vnil))))))
         (sret (cst (.bl false)))
         snx)
      (sseq (sif (tor (tst (bin (gEqK true) (cal [false] F_carts_of [] (vcons (rd 8) vnil)) (cal [false] F_carts_of [] (vcons (rd 4) vnil)))) (tst (bin (gEqA true) (cal [false] F_n_row_about [] (vcons (fzE (cal [false] F_n_row_about [] (vcons (rd 5) vnil))) vnil)) (rd 5))))
         (sret (cst (.bl false)))
         snx)
      (sseq (sif (tor (tst (bin (gEqA true) (cal [false] F_row_ends [] (vcons (fzE (cal [false] F_n_row_about [] (vcons (rd 5) vnil))) vnil)) (revT (cal [false] F_row_ends [] (vcons (rd 5) vnil))))) (tst (bin (gEqK true) (cal [false] F_carts_in [] (vcons (fzE (cal [false] F_n_row_about [] (vcons (rd 5) vnil))) vnil)) (cal [false] F_carts_in [] (vcons (rd 5) vnil)))))
         (sret (cst (.bl false)))
         snx)
      (sseq (sif (tor (tst (bin (gEqA true) (vlc (ilst (rd 5)) (stN 9) tyes (cal [false] F_n_about [] (vcons (cal [false] F_n_about [] (vcons (rd 9) vnil)) vnil)) [9]) (rd 5))) (tst (bin (gEqA true) (cal [false] F_n_row_about [] (vcons (rd 5) vnil)) (vlc (ilst (revL (rd 5))) (stN 9) tyes (cal [false] F_n_about [] (vcons (rd 9) vnil)) [9]))))
         (sret (cst (.bl false)))
         snx)
      (sseq (sasg (cal [false] F_l_freed [] (vcons (fzE (vlst (vcons (vtup (vcons (cst (.int 3)) (vcons (cal [true, false, false, false] F_l_round [1] (has 1 (vcons (rd 3) (vcons (bin ixA (cal [false] F_train_ends [] (vcons (rd 4) vnil)) (cst (.int 1))) (vcons (cst (.int 3)) vnil))))) vnil))) vnil))) vnil)) (stN 10))
      (sif (tnot (tst (cal [true, false, false] F_l_same [1] (has 1 (vcons (fzE (cal [false] F_train_about [] (vcons (fzE (cal [false, false] F_joined [] (vcons (rd 4) (vcons (rd 10) vnil)))) vnil))) (vcons (fzE (cal [false, false] F_joined [] (vcons (fzE (cal [false] F_train_about [] (vcons (rd 10) vnil))) (vcons (rd 8) vnil)))) vnil))))))
         (sret (cst (.bl false)))
         snx)))))))))))
    (sret (cst (.bl true)))))
def F_law : FnF := runF 11 [false] b_law
end FL

namespace FL
open PySem PySem.Spec PyProof.Rows L2
def bagP (a b i : Int) (cs : List Int) : PV := .lst true [.int a, .int b, .int i, .lst false (cs.map .int)]
def IsBag (p : PV) : Prop := ∃ a b i cs, p = bagP a b i cs ∧ 0 ≤ a ∧ 0 ≤ b ∧ 0 ≤ i ∧ ∀ c ∈ cs, (0 : Int) ≤ c
theorem fm {x m : Int} (h : 0 < m) : 0 ≤ x.fmod m ∧ x.fmod m < m := by
  rw [Int.fmod_eq_emod_of_nonneg _ (by omega)]
  exact ⟨Int.emod_nonneg _ (by omega), Int.emod_lt_of_pos _ h⟩
theorem take_ok {g : PV} {m : Int} (hg : IsBag g) (hm : 1 ≤ m) (hm2 : m < 340282366920938463463374607431768211456) :
    OK (F_l_take [g, .int m]) fun r => ∃ x g', r = (.int x, [g']) ∧ IsBag g' ∧ 0 ≤ x ∧ x < m := by
  obtain ⟨a, b, i, cs, rfl, ha, hb, hi, hc⟩ := hg
  have m0 : ¬ m = 0 := by omega
  have mn : m.natAbs < bigB := show m.natAbs < 340282366920938463463374607431768211456 by omega
  refine OK_run (OK_seq (OK_mono (Q := fun fl => ∃ a b i v2 v3, fl = .nx [.lst true [.int a, .int b, .int i, .lst false (cs.map .int)], .int m, v2, v3, .un, .un, .un] ∧ 0 ≤ a ∧ 0 ≤ b ∧ 0 ≤ i) (OK_if (by unfold bagP; (push_cast <;> rfl)) (fun h => ?_) fun h => ?_) ?_))
  · refine OK_seq (OK_asg (by (push_cast <;> rfl)) (by (push_cast <;> rfl)) (sq_nx ?_))
    refine OK_seq (OK_mono (Q := fun fl => ∃ v, 0 ≤ v ∧ fl = .nx [.lst true [.int a, .int b, .int i, .lst false (cs.map .int)], .int m, .int v, .un, .un, .un, .un]) (OK_if (by (push_cast <;> rfl)) (fun h => ?_) fun h => ?_) ?_)
    · have hl : i < (cs.map PV.int).length := of_decide_eq_true h
      rw [List.length_map] at hl
      have hx : (cs.map PV.int)[i.toNat]? = some (.int cs[i.toNat]) := by rw [List.getElem?_map, List.getElem?_eq_getElem (by omega)]; rfl
      have hat := atI_ofNat hx
      rw [Int.toNat_of_nonneg hi] at hat
      exact OK_asg (by (push_cast [hat] <;> rfl)) (by (push_cast <;> rfl)) ⟨_, hc _ (List.getElem_mem _), rfl⟩
    · exact OK_next ⟨0, Int.le_refl _, rfl⟩
    · rintro _ ⟨v, hv, rfl⟩
      refine sq_nx (OK_seq (OK_aug (τ' := [.lst true [.int a, .int b, .int (i + 1), .lst false (cs.map .int)], .int m, .int v, .un, .un, .un, .un]) (by (push_cast <;> rfl)) (sq_nx ?_)))
      refine OK_seq (OK_mono (Q := fun fl => ∃ a, 0 ≤ a ∧ fl = .nx [.lst true [.int a, .int b, .int (i + 1), .lst false (cs.map .int)], .int m, .int v, .un, .un, .un, .un]) (OK_if (by (push_cast <;> rfl)) (fun h => ?_) fun h => ?_) ?_)
      · exact OK_asg (by (push_cast <;> rfl)) (by (push_cast <;> rfl)) ⟨v, hv, rfl⟩
      · exact OK_next ⟨a, ha, rfl⟩
      · rintro _ ⟨a, ha, rfl⟩
        refine sq_nx ?_
        refine OK_seq (OK_asg (by (push_cast <;> rfl)) (by (push_cast <;> rfl)) (sq_nx ?_))
        refine OK_asg (by (push_cast <;> rfl)) (by (push_cast <;> rfl)) ⟨_, _, _, _, _, rfl, ha, (fm (by omega)).1, by omega⟩
  · exact OK_next ⟨_, _, _, _, _, rfl, ha, hb, hi⟩
  · rintro _ ⟨a, b, i, v2, v3, rfl, ha, hb, hi⟩
    refine sq_nx (OK_seq (OK_if (by (push_cast <;> rfl)) (fun h => ?_) fun h => ?_))
    · refine OK_seq (OK_asg (by (push_cast [m0] <;> rfl)) (by (push_cast <;> rfl)) (sq_nx ?_))
      refine OK_seq (OK_asg (by (push_cast [m0, mn] <;> rfl)) (by (push_cast <;> rfl)) (sq_nx ?_))
      exact OK_ret (by (push_cast <;> rfl)) ⟨_, _, rfl, ⟨_, _, _, cs, rfl, Int.fdiv_nonneg ha (by omega), hb, hi, hc⟩, fm (by omega)⟩
    · refine OK_next (sq_nx ?_)
      refine OK_seq (OK_asg (by (push_cast <;> rfl)) (by (push_cast <;> rfl)) (sq_nx ?_))
      have q5 := fm (x := (b + 1) * 39373) (m := 1000000007) (by omega)
      generalize ((b + 1) * 39373).fmod 1000000007 = e5 at q5 ⊢
      refine OK_seq (OK_asg (by (push_cast [mulA_int (cMul_r (i := e5) (j := e5) (by omega) (by omega))] <;> rfl)) (by (push_cast <;> rfl)) (sq_nx ?_))
      exact OK_ret (by (push_cast [m0] <;> rfl)) ⟨_, _, rfl, ⟨_, _, _, cs, rfl, ha, hb, hi, hc⟩, fm (by omega)⟩
end FL

namespace FL
open PySem PySem.Spec PyProof.Rows L2
open HK (SX SXs Asc)
/-! ### a comprehension's run -/
theorem lc_run {gg : PV → En → Option En} {t : En → Rs (Bool × En)} {e : En → Rs (PV × En)} {vs : List Nat} {f : En → Rs (List PV × En)} {xs : List PV} {τ τ1 : En} (Iv : List PV → En → List PV → Prop) (hf : f τ = .ok (xs, τ1)) (h0 : Iv [] τ1 [])
    (hs : ∀ done x rest τ acc, xs = done ++ x :: rest → Iv done τ acc → ∃ τ1 b τ2, gg x (wip τ vs) = some τ1 ∧ t τ1 = .ok (b, τ2) ∧ (b = false → Iv (done ++ [x]) τ2 acc) ∧ (b = true → ∃ y τ3, e τ2 = .ok (y, τ3) ∧ fits (acc.length + 1) = true ∧ Iv (done ++ [x]) τ3 (acc ++ [y]))) :
    ∃ acc τ', vlc f gg t e vs τ = .ok (.lst true acc, wip τ' vs) ∧ Iv xs τ' acc := by
  have go : ∀ rest done τ acc, xs = done ++ rest → Iv done τ acc → ∃ acc' τ', lcF gg t e vs rest τ acc = .ok (acc', wip τ' vs) ∧ Iv xs τ' acc' := by
    intro rest
    induction rest with
    | nil =>
      intro done τ acc ex iv
      rw [List.append_nil] at ex
      subst ex
      exact ⟨acc, τ, rfl, iv⟩
    | cons x rest ih =>
      intro done τ acc ex iv
      obtain ⟨τ1, b, τ2, h1, h2, h3, h4⟩ := hs done x rest τ acc ex iv
      have ex' : xs = (done ++ [x]) ++ rest := by rw [ex]; simp
      unfold lcF
      simp only [h1, h2]
      cases b with
      | false => exact ih _ _ _ ex' (h3 rfl)
      | true =>
        obtain ⟨y, τ3, h5, h6, h7⟩ := h4 rfl
        simp only [h5, h6, if_true]
        exact ih _ _ _ ex' h7
  obtain ⟨acc, τ', h1, h2⟩ := go xs [] τ1 [] rfl h0
  refine ⟨acc, τ', ?_, h2⟩
  unfold vlc
  rw [hf]
  simp only [bnd_ok, h1]
/-- .. of all, each by itself; Ev: what holds of the slots -/
theorem lc_map {gg : PV → En → Option En} {e : En → Rs (PV × En)} {vs : List Nat} {f : En → Rs (List PV × En)} {xs : List PV} {τ τ1 : En} (Ev : En → Prop) (y : PV → PV) (hf : f τ = .ok (xs, τ1)) (hl : fits xs.length = true) (h0 : Ev τ1)
    (hs : ∀ x ∈ xs, ∀ τ, Ev τ → ∃ τ1 τ3, gg x (wip τ vs) = some τ1 ∧ e τ1 = .ok (y x, τ3) ∧ Ev τ3) :
    ∃ τ', vlc f gg tyes e vs τ = .ok (.lst true (xs.map y), wip τ' vs) ∧ Ev τ' := by
  obtain ⟨acc, τ', h1, h2, h3⟩ := lc_run (gg := gg) (t := tyes) (e := e) (vs := vs) (f := f) (xs := xs) (τ := τ) (τ1 := τ1) (fun done τ acc => Ev τ ∧ acc = done.map y) hf ⟨h0, rfl⟩ fun done x rest τ acc ex iv => by
    obtain ⟨iv, ea⟩ := iv
    obtain ⟨τ1, τ3, q1, q2, q3⟩ := hs x (by rw [ex]; simp) τ iv
    refine ⟨τ1, true, τ1, q1, rfl, (fun z => Bool.noConfusion z), fun _ => ⟨y x, τ3, q2, ?_, q3, by rw [ea]; simp⟩⟩
    have hl : xs.length ≤ 16777216 := of_decide_eq_true hl
    refine decide_eq_true ?_
    rw [ea, List.length_map]
    rw [ex, List.length_append, List.length_cons] at hl
    omega
  exact ⟨τ', by rw [h1, h3], h2⟩
local macro_rules
  | `(tactic| push_cast [$ls,*] at $h:ident) => `(tactic| simp only [FL.stN, FL.stNil, FL.stCons, FL.stTup, FL.spar, FL.bnd_ok, FL.bnd_err, FL.bnd_no, FL.opt_some, FL.opt_none, FL.cst, FL.bin, FL.un1, FL.tst, FL.asB, FL.tnot, FL.tand, FL.tor, FL.bval, FL.vand, FL.vor, FL.vnot, FL.vif, FL.vnil, FL.vcons, FL.vtup, FL.vlst, FL.fzE, FL.cb, FL.has, FL.mutM, FL.aug, FL.augN, FL.stS, FL.tyes, FL.isi, FL.isi2, FL.oso, FL.ono, FL.slL, FL.slS, FL.dg2, FL.opC, List.length_cons, List.length_nil, List.set_cons_zero, List.set_cons_succ, List.getElem?_cons_zero, List.getElem?_cons_succ, if_true, if_false, Bool.false_eq_true, reduceCtorEq, List.nil_append, List.cons_append, List.length_append, List.length_replicate, List.replicate_zero, List.replicate_succ, FL.fz_int, FL.fz_str, FL.fz_bl, FL.fz_non, FL.fz_un, FL.fz_tup, FL.fz_lst, FL.fzs_nil, FL.fzs_cons, FL.addA_int, FL.sub_int, FL.gt_int, FL.lt_int, FL.le_int, FL.ge_int, FL.lt_str', FL.gInt_int, FL.gInt_bl, FL.eqA_int, FL.neA_int, FL.mod_int, FL.thing_non, FL.thing_bl, FL.thing_int, FL.thing_str, FL.thing_tup, FL.thing_lst, FL.thing_dct, FL.opB_O, FL.opB1_some, FL.opB2_some, FL.rd_O, FL.mv_O, FL.cb_O, FL.rdO_some, FL.mvO_some, FL.cbO_some, FL.atI_0, FL.atI_1, FL.atI_2, FL.atI_3, FL.ixA_lst, FL.ixA_tup, FL.isFz_int, FL.isFz_str, FL.isFz_bl, FL.isFz_non, FL.isFz_tup, FL.isFz_lstF, FL.isFzs_nil, FL.isFzs_cons, FL.lenA_lst, FL.lenA_tup, FL.on1_eq, FL.ixAb_lst', FL.ixAb_tup', FL.fzs_mapS, FL.isFzs_mapS, FL.isFzs_mapI, FL.ixL_lst, FL.ixSet_eq, Option.bind_some, Option.bind_none, Option.map_some, Option.map_none, FL.fzs_mapI, Bool.and_true, Bool.true_and, FL.mulA_48271, FL.mulA_39373, FL.mulA_30011, FL.mulA_7919, FL.mulA_2, FL.mulA_3, FL.mod_2147483647, FL.mod_1000000007, FL.mod_998244353, FL.mod_26, FL.div_7, FL.tyP_lst, FL.tyP_tup, FL.gList_lst, FL.gList_tup, FL.gTuple_lst, decide_false, FL.tyM_lst, FL.gAppend_eq, FL.gInsert_eq, FL.minA_str, FL.maxA_str, FL.addA_str, FL.addA_lst, FL.fits_n0, FL.fits_n1, FL.fits_n2, FL.fits_n3, FL.fits_n4, FL.fits_n5, FL.fits_n6, FL.fits_n7, FL.fits_n8, FL.fits_n9, FL.fits_n10, FL.fits_n11, FL.fits_n12, FL.fits_n13, FL.fits_n14, FL.fits_n15, FL.fits_n16, FL.fits_n17, FL.fits_n18, FL.fits_n19, FL.fits_n20, FL.fits_n21, FL.fits_n22, FL.fits_n23, FL.fits_n24, FL.fits_n25, FL.fits_n26, FL.fits_n27, FL.fits_n28, FL.fits_n29, FL.fits_n30, FL.cal, FL.takes, FL.puts, FL.weave, FL.selL, Bool.or_true, Bool.true_or, and_true, true_and, decide_true, and_self, eq_self, ne_eq, not_false_eq_true, FL.div_int, FL.wip, $ls,*] at $h:ident)
  | `(tactic| push_cast [$ls,*]) => `(tactic| simp only [FL.stN, FL.stNil, FL.stCons, FL.stTup, FL.spar, FL.bnd_ok, FL.bnd_err, FL.bnd_no, FL.opt_some, FL.opt_none, FL.cst, FL.bin, FL.un1, FL.tst, FL.asB, FL.tnot, FL.tand, FL.tor, FL.bval, FL.vand, FL.vor, FL.vnot, FL.vif, FL.vnil, FL.vcons, FL.vtup, FL.vlst, FL.fzE, FL.cb, FL.has, FL.mutM, FL.aug, FL.augN, FL.stS, FL.tyes, FL.isi, FL.isi2, FL.oso, FL.ono, FL.slL, FL.slS, FL.dg2, FL.opC, List.length_cons, List.length_nil, List.set_cons_zero, List.set_cons_succ, List.getElem?_cons_zero, List.getElem?_cons_succ, if_true, if_false, Bool.false_eq_true, reduceCtorEq, List.nil_append, List.cons_append, List.length_append, List.length_replicate, List.replicate_zero, List.replicate_succ, FL.fz_int, FL.fz_str, FL.fz_bl, FL.fz_non, FL.fz_un, FL.fz_tup, FL.fz_lst, FL.fzs_nil, FL.fzs_cons, FL.addA_int, FL.sub_int, FL.gt_int, FL.lt_int, FL.le_int, FL.ge_int, FL.lt_str', FL.gInt_int, FL.gInt_bl, FL.eqA_int, FL.neA_int, FL.mod_int, FL.thing_non, FL.thing_bl, FL.thing_int, FL.thing_str, FL.thing_tup, FL.thing_lst, FL.thing_dct, FL.opB_O, FL.opB1_some, FL.opB2_some, FL.rd_O, FL.mv_O, FL.cb_O, FL.rdO_some, FL.mvO_some, FL.cbO_some, FL.atI_0, FL.atI_1, FL.atI_2, FL.atI_3, FL.ixA_lst, FL.ixA_tup, FL.isFz_int, FL.isFz_str, FL.isFz_bl, FL.isFz_non, FL.isFz_tup, FL.isFz_lstF, FL.isFzs_nil, FL.isFzs_cons, FL.lenA_lst, FL.lenA_tup, FL.on1_eq, FL.ixAb_lst', FL.ixAb_tup', FL.fzs_mapS, FL.isFzs_mapS, FL.isFzs_mapI, FL.ixL_lst, FL.ixSet_eq, Option.bind_some, Option.bind_none, Option.map_some, Option.map_none, FL.fzs_mapI, Bool.and_true, Bool.true_and, FL.mulA_48271, FL.mulA_39373, FL.mulA_30011, FL.mulA_7919, FL.mulA_2, FL.mulA_3, FL.mod_2147483647, FL.mod_1000000007, FL.mod_998244353, FL.mod_26, FL.div_7, FL.tyP_lst, FL.tyP_tup, FL.gList_lst, FL.gList_tup, FL.gTuple_lst, decide_false, FL.tyM_lst, FL.gAppend_eq, FL.gInsert_eq, FL.minA_str, FL.maxA_str, FL.addA_str, FL.addA_lst, FL.fits_n0, FL.fits_n1, FL.fits_n2, FL.fits_n3, FL.fits_n4, FL.fits_n5, FL.fits_n6, FL.fits_n7, FL.fits_n8, FL.fits_n9, FL.fits_n10, FL.fits_n11, FL.fits_n12, FL.fits_n13, FL.fits_n14, FL.fits_n15, FL.fits_n16, FL.fits_n17, FL.fits_n18, FL.fits_n19, FL.fits_n20, FL.fits_n21, FL.fits_n22, FL.fits_n23, FL.fits_n24, FL.fits_n25, FL.fits_n26, FL.fits_n27, FL.fits_n28, FL.fits_n29, FL.fits_n30, FL.cal, FL.takes, FL.puts, FL.weave, FL.selL, Bool.or_true, Bool.true_or, and_true, true_and, decide_true, and_self, eq_self, ne_eq, not_false_eq_true, FL.div_int, FL.wip, $ls,*])
  | `(tactic| push_cast) => `(tactic| simp only [FL.stN, FL.stNil, FL.stCons, FL.stTup, FL.spar, FL.bnd_ok, FL.bnd_err, FL.bnd_no, FL.opt_some, FL.opt_none, FL.cst, FL.bin, FL.un1, FL.tst, FL.asB, FL.tnot, FL.tand, FL.tor, FL.bval, FL.vand, FL.vor, FL.vnot, FL.vif, FL.vnil, FL.vcons, FL.vtup, FL.vlst, FL.fzE, FL.cb, FL.has, FL.mutM, FL.aug, FL.augN, FL.stS, FL.tyes, FL.isi, FL.isi2, FL.oso, FL.ono, FL.slL, FL.slS, FL.dg2, FL.opC, List.length_cons, List.length_nil, List.set_cons_zero, List.set_cons_succ, List.getElem?_cons_zero, List.getElem?_cons_succ, if_true, if_false, Bool.false_eq_true, reduceCtorEq, List.nil_append, List.cons_append, List.length_append, List.length_replicate, List.replicate_zero, List.replicate_succ, FL.fz_int, FL.fz_str, FL.fz_bl, FL.fz_non, FL.fz_un, FL.fz_tup, FL.fz_lst, FL.fzs_nil, FL.fzs_cons, FL.addA_int, FL.sub_int, FL.gt_int, FL.lt_int, FL.le_int, FL.ge_int, FL.lt_str', FL.gInt_int, FL.gInt_bl, FL.eqA_int, FL.neA_int, FL.mod_int, FL.thing_non, FL.thing_bl, FL.thing_int, FL.thing_str, FL.thing_tup, FL.thing_lst, FL.thing_dct, FL.opB_O, FL.opB1_some, FL.opB2_some, FL.rd_O, FL.mv_O, FL.cb_O, FL.rdO_some, FL.mvO_some, FL.cbO_some, FL.atI_0, FL.atI_1, FL.atI_2, FL.atI_3, FL.ixA_lst, FL.ixA_tup, FL.isFz_int, FL.isFz_str, FL.isFz_bl, FL.isFz_non, FL.isFz_tup, FL.isFz_lstF, FL.isFzs_nil, FL.isFzs_cons, FL.lenA_lst, FL.lenA_tup, FL.on1_eq, FL.ixAb_lst', FL.ixAb_tup', FL.fzs_mapS, FL.isFzs_mapS, FL.isFzs_mapI, FL.ixL_lst, FL.ixSet_eq, Option.bind_some, Option.bind_none, Option.map_some, Option.map_none, FL.fzs_mapI, Bool.and_true, Bool.true_and, FL.mulA_48271, FL.mulA_39373, FL.mulA_30011, FL.mulA_7919, FL.mulA_2, FL.mulA_3, FL.mod_2147483647, FL.mod_1000000007, FL.mod_998244353, FL.mod_26, FL.div_7, FL.tyP_lst, FL.tyP_tup, FL.gList_lst, FL.gList_tup, FL.gTuple_lst, decide_false, FL.tyM_lst, FL.gAppend_eq, FL.gInsert_eq, FL.minA_str, FL.maxA_str, FL.addA_str, FL.addA_lst, FL.fits_n0, FL.fits_n1, FL.fits_n2, FL.fits_n3, FL.fits_n4, FL.fits_n5, FL.fits_n6, FL.fits_n7, FL.fits_n8, FL.fits_n9, FL.fits_n10, FL.fits_n11, FL.fits_n12, FL.fits_n13, FL.fits_n14, FL.fits_n15, FL.fits_n16, FL.fits_n17, FL.fits_n18, FL.fits_n19, FL.fits_n20, FL.fits_n21, FL.fits_n22, FL.fits_n23, FL.fits_n24, FL.fits_n25, FL.fits_n26, FL.fits_n27, FL.fits_n28, FL.fits_n29, FL.fits_n30, FL.cal, FL.takes, FL.puts, FL.weave, FL.selL, Bool.or_true, Bool.true_or, and_true, true_and, decide_true, and_self, eq_self, ne_eq, not_false_eq_true, FL.div_int, FL.wip])
theorem bag_ok {ns : List Int} (hl : ns.length ≤ 63) : OK (F_l_bag [.lst false (ns.map .int)]) fun r => ∃ g, r = (g, []) ∧ IsBag g := by
  obtain ⟨τ', h1, h2⟩ := lc_map (gg := stN 1) (e := cb (on1 gAbs) (vcons (rd 1) vnil)) (vs := [1]) (f := ilst (slL (rd 0) ono (oso (cst (.int 63))))) (xs := ns.map PV.int) (τ := [.lst false (ns.map .int), .un]) (τ1 := [.lst false (ns.map .int), .un])
    (fun τ => ∃ v, τ = [.lst false (ns.map .int), v]) (fun p => match p with | .int i => .int (if i < 0 then -i else i) | p => p)
    (by
      have e1 : cutL (ns.map PV.int) none (some 63) = ns.map PV.int := by
        unfold cutL
        simp only [List.length_map]
        have : HT.sIx ns.length 0 none = 0 := rfl
        rw [this]
        have h2 : HT.sIx ns.length ns.length (some 63) = ns.length := by
          unfold HT.sIx
          simp
          omega
        rw [h2, List.drop_zero, Nat.sub_zero, List.take_of_length_le (by rw [List.length_map]; exact Nat.le_refl _)]
      push_cast [ilst, e1])
    (decide_eq_true (by rw [List.length_map]; omega)) ⟨_, rfl⟩ fun x hx τ ⟨v, e⟩ => by
      obtain ⟨i, hi, rfl⟩ := List.mem_map.mp hx
      subst e
      exact ⟨[.lst false (ns.map .int), .int i], [.lst false (ns.map .int), .int i], by (push_cast <;> rfl), by push_cast [gAbs], _, rfl⟩
  obtain ⟨v, rfl⟩ := h2
  refine OK_run (OK_ret (p := .lst true [.int 0, .int 1234567891, .int 0, .lst false (ns.map fun i => .int (if i < 0 then -i else i))]) (τ' := [.lst false (ns.map .int), .un]) ?_ ?_)
  · have e2 : fzs ((ns.map PV.int).map fun p => match p with | .int i => .int (if i < 0 then -i else i) | p => p) = ns.map fun i => .int (if i < 0 then -i else i) := by
      rw [List.map_map]
      exact fzs_of (isFzs_map (fun _ => rfl) ns)
    have h1' : vlc (ilst (slL (rd 0) ono (oso (cst (.int 63))))) (stN 1) tyes (cb (on1 gAbs) (vcons (rd 1) vnil)) [1] ([.lst false (ns.map .int)] ++ List.replicate (2 - [PV.lst false (ns.map .int)].length) .un) = _ := h1
    simp only [vlst, vcons, vnil, cst, fzE, bnd_ok, h1', fz_lst, e2]
    rfl
  · refine ⟨_, rfl, 0, 1234567891, 0, ns.map fun i => if i < 0 then -i else i, ?_, by decide, by decide, by decide, fun c hc => ?_⟩
    · unfold bagP
      rw [List.map_map]
      rfl
    · obtain ⟨i, _, rfl⟩ := List.mem_map.mp hc
      split <;> omega
theorem IsBag.lst {g : PV} (h : IsBag g) : ∃ ps, g = .lst true ps := by
  obtain ⟨a, b, i, cs, rfl, _⟩ := h
  exact ⟨_, rfl⟩
/-! one of some things -/
theorem one_ok {g : PV} {o : Bool} {xs : List PV} (hg : IsBag g) (l1 : 1 ≤ xs.length) (l2 : xs.length < 1073741824) (hf : isFzs xs = true) : OK (F_l_one [g, .lst o xs]) fun r => ∃ x g', r = (x, [g']) ∧ IsBag g' ∧ x ∈ xs := by
  obtain ⟨⟨_, _⟩, hF, x, g', e, hg', x0, x1⟩ := OK_ex (take_ok hg (m := (xs.length : Int)) (by omega) (by omega))
  cases e
  obtain ⟨ps, rfl⟩ := hg.lst
  obtain ⟨ps', rfl⟩ := hg'.lst
  have hx : xs[x.toNat]? = some xs[x.toNat] := List.getElem?_eq_getElem (by omega)
  have hat := atI_ofNat hx
  rw [Int.toNat_of_nonneg x0] at hat
  have fx : isFz xs[x.toNat] = true := by
    rw [isFzs_all] at hf
    exact List.all_eq_true.mp hf _ (List.getElem_mem _)
  refine OK_run (OK_ret (p := xs[x.toNat]) (τ' := [.lst true ps', .lst o xs]) ?_ ⟨_, _, rfl, hg', List.getElem_mem _⟩)
  (push_cast [hF, hat, fx] <;> rfl)
end FL

local macro_rules
  | `(tactic| push_cast [$ls,*] at $h:ident) => `(tactic| simp only [FL.stN, FL.stNil, FL.stCons, FL.stTup, FL.spar, FL.bnd_ok, FL.bnd_err, FL.bnd_no, FL.opt_some, FL.opt_none, FL.cst, FL.bin, FL.un1, FL.tst, FL.asB, FL.tnot, FL.tand, FL.tor, FL.bval, FL.vand, FL.vor, FL.vnot, FL.vif, FL.vnil, FL.vcons, FL.vtup, FL.vlst, FL.fzE, FL.cb, FL.has, FL.mutM, FL.aug, FL.augN, FL.stS, FL.tyes, FL.isi, FL.isi2, FL.oso, FL.ono, FL.slL, FL.slS, FL.dg2, FL.opC, List.length_cons, List.length_nil, List.set_cons_zero, List.set_cons_succ, List.getElem?_cons_zero, List.getElem?_cons_succ, if_true, if_false, Bool.false_eq_true, reduceCtorEq, List.nil_append, List.cons_append, List.length_append, List.length_replicate, List.replicate_zero, List.replicate_succ, FL.fz_int, FL.fz_str, FL.fz_bl, FL.fz_non, FL.fz_un, FL.fz_tup, FL.fz_lst, FL.fzs_nil, FL.fzs_cons, FL.addA_int, FL.sub_int, FL.gt_int, FL.lt_int, FL.le_int, FL.ge_int, FL.lt_str', FL.gInt_int, FL.gInt_bl, FL.eqA_int, FL.neA_int, FL.mod_int, FL.thing_non, FL.thing_bl, FL.thing_int, FL.thing_str, FL.thing_tup, FL.thing_lst, FL.thing_dct, FL.opB_O, FL.opB1_some, FL.opB2_some, FL.rd_O, FL.mv_O, FL.cb_O, FL.rdO_some, FL.mvO_some, FL.cbO_some, FL.atI_0, FL.atI_1, FL.atI_2, FL.atI_3, FL.ixA_lst, FL.ixA_tup, FL.isFz_int, FL.isFz_str, FL.isFz_bl, FL.isFz_non, FL.isFz_tup, FL.isFz_lstF, FL.isFzs_nil, FL.isFzs_cons, FL.lenA_lst, FL.lenA_tup, FL.on1_eq, FL.ixAb_lst', FL.ixAb_tup', FL.fzs_mapS, FL.isFzs_mapS, FL.isFzs_mapI, FL.ixL_lst, FL.ixSet_eq, Option.bind_some, Option.bind_none, Option.map_some, Option.map_none, FL.fzs_mapI, Bool.and_true, Bool.true_and, FL.mulA_48271, FL.mulA_39373, FL.mulA_30011, FL.mulA_7919, FL.mulA_2, FL.mulA_3, FL.mod_2147483647, FL.mod_1000000007, FL.mod_998244353, FL.mod_26, FL.div_7, FL.tyP_lst, FL.tyP_tup, FL.gList_lst, FL.gList_tup, FL.gTuple_lst, decide_false, FL.tyM_lst, FL.gAppend_eq, FL.gInsert_eq, FL.minA_str, FL.maxA_str, FL.addA_str, FL.addA_lst, FL.fits_n0, FL.fits_n1, FL.fits_n2, FL.fits_n3, FL.fits_n4, FL.fits_n5, FL.fits_n6, FL.fits_n7, FL.fits_n8, FL.fits_n9, FL.fits_n10, FL.fits_n11, FL.fits_n12, FL.fits_n13, FL.fits_n14, FL.fits_n15, FL.fits_n16, FL.fits_n17, FL.fits_n18, FL.fits_n19, FL.fits_n20, FL.fits_n21, FL.fits_n22, FL.fits_n23, FL.fits_n24, FL.fits_n25, FL.fits_n26, FL.fits_n27, FL.fits_n28, FL.fits_n29, FL.fits_n30, FL.cal, FL.takes, FL.puts, FL.weave, FL.selL, Bool.or_true, Bool.true_or, and_true, true_and, decide_true, and_self, eq_self, ne_eq, not_false_eq_true, FL.div_int, FL.wip, $ls,*] at $h:ident)
  | `(tactic| push_cast [$ls,*]) => `(tactic| simp only [FL.stN, FL.stNil, FL.stCons, FL.stTup, FL.spar, FL.bnd_ok, FL.bnd_err, FL.bnd_no, FL.opt_some, FL.opt_none, FL.cst, FL.bin, FL.un1, FL.tst, FL.asB, FL.tnot, FL.tand, FL.tor, FL.bval, FL.vand, FL.vor, FL.vnot, FL.vif, FL.vnil, FL.vcons, FL.vtup, FL.vlst, FL.fzE, FL.cb, FL.has, FL.mutM, FL.aug, FL.augN, FL.stS, FL.tyes, FL.isi, FL.isi2, FL.oso, FL.ono, FL.slL, FL.slS, FL.dg2, FL.opC, List.length_cons, List.length_nil, List.set_cons_zero, List.set_cons_succ, List.getElem?_cons_zero, List.getElem?_cons_succ, if_true, if_false, Bool.false_eq_true, reduceCtorEq, List.nil_append, List.cons_append, List.length_append, List.length_replicate, List.replicate_zero, List.replicate_succ, FL.fz_int, FL.fz_str, FL.fz_bl, FL.fz_non, FL.fz_un, FL.fz_tup, FL.fz_lst, FL.fzs_nil, FL.fzs_cons, FL.addA_int, FL.sub_int, FL.gt_int, FL.lt_int, FL.le_int, FL.ge_int, FL.lt_str', FL.gInt_int, FL.gInt_bl, FL.eqA_int, FL.neA_int, FL.mod_int, FL.thing_non, FL.thing_bl, FL.thing_int, FL.thing_str, FL.thing_tup, FL.thing_lst, FL.thing_dct, FL.opB_O, FL.opB1_some, FL.opB2_some, FL.rd_O, FL.mv_O, FL.cb_O, FL.rdO_some, FL.mvO_some, FL.cbO_some, FL.atI_0, FL.atI_1, FL.atI_2, FL.atI_3, FL.ixA_lst, FL.ixA_tup, FL.isFz_int, FL.isFz_str, FL.isFz_bl, FL.isFz_non, FL.isFz_tup, FL.isFz_lstF, FL.isFzs_nil, FL.isFzs_cons, FL.lenA_lst, FL.lenA_tup, FL.on1_eq, FL.ixAb_lst', FL.ixAb_tup', FL.fzs_mapS, FL.isFzs_mapS, FL.isFzs_mapI, FL.ixL_lst, FL.ixSet_eq, Option.bind_some, Option.bind_none, Option.map_some, Option.map_none, FL.fzs_mapI, Bool.and_true, Bool.true_and, FL.mulA_48271, FL.mulA_39373, FL.mulA_30011, FL.mulA_7919, FL.mulA_2, FL.mulA_3, FL.mod_2147483647, FL.mod_1000000007, FL.mod_998244353, FL.mod_26, FL.div_7, FL.tyP_lst, FL.tyP_tup, FL.gList_lst, FL.gList_tup, FL.gTuple_lst, decide_false, FL.tyM_lst, FL.gAppend_eq, FL.gInsert_eq, FL.minA_str, FL.maxA_str, FL.addA_str, FL.addA_lst, FL.fits_n0, FL.fits_n1, FL.fits_n2, FL.fits_n3, FL.fits_n4, FL.fits_n5, FL.fits_n6, FL.fits_n7, FL.fits_n8, FL.fits_n9, FL.fits_n10, FL.fits_n11, FL.fits_n12, FL.fits_n13, FL.fits_n14, FL.fits_n15, FL.fits_n16, FL.fits_n17, FL.fits_n18, FL.fits_n19, FL.fits_n20, FL.fits_n21, FL.fits_n22, FL.fits_n23, FL.fits_n24, FL.fits_n25, FL.fits_n26, FL.fits_n27, FL.fits_n28, FL.fits_n29, FL.fits_n30, FL.cal, FL.takes, FL.puts, FL.weave, FL.selL, Bool.or_true, Bool.true_or, and_true, true_and, decide_true, and_self, eq_self, ne_eq, not_false_eq_true, FL.div_int, FL.wip, $ls,*])
  | `(tactic| push_cast) => `(tactic| simp only [FL.stN, FL.stNil, FL.stCons, FL.stTup, FL.spar, FL.bnd_ok, FL.bnd_err, FL.bnd_no, FL.opt_some, FL.opt_none, FL.cst, FL.bin, FL.un1, FL.tst, FL.asB, FL.tnot, FL.tand, FL.tor, FL.bval, FL.vand, FL.vor, FL.vnot, FL.vif, FL.vnil, FL.vcons, FL.vtup, FL.vlst, FL.fzE, FL.cb, FL.has, FL.mutM, FL.aug, FL.augN, FL.stS, FL.tyes, FL.isi, FL.isi2, FL.oso, FL.ono, FL.slL, FL.slS, FL.dg2, FL.opC, List.length_cons, List.length_nil, List.set_cons_zero, List.set_cons_succ, List.getElem?_cons_zero, List.getElem?_cons_succ, if_true, if_false, Bool.false_eq_true, reduceCtorEq, List.nil_append, List.cons_append, List.length_append, List.length_replicate, List.replicate_zero, List.replicate_succ, FL.fz_int, FL.fz_str, FL.fz_bl, FL.fz_non, FL.fz_un, FL.fz_tup, FL.fz_lst, FL.fzs_nil, FL.fzs_cons, FL.addA_int, FL.sub_int, FL.gt_int, FL.lt_int, FL.le_int, FL.ge_int, FL.lt_str', FL.gInt_int, FL.gInt_bl, FL.eqA_int, FL.neA_int, FL.mod_int, FL.thing_non, FL.thing_bl, FL.thing_int, FL.thing_str, FL.thing_tup, FL.thing_lst, FL.thing_dct, FL.opB_O, FL.opB1_some, FL.opB2_some, FL.rd_O, FL.mv_O, FL.cb_O, FL.rdO_some, FL.mvO_some, FL.cbO_some, FL.atI_0, FL.atI_1, FL.atI_2, FL.atI_3, FL.ixA_lst, FL.ixA_tup, FL.isFz_int, FL.isFz_str, FL.isFz_bl, FL.isFz_non, FL.isFz_tup, FL.isFz_lstF, FL.isFzs_nil, FL.isFzs_cons, FL.lenA_lst, FL.lenA_tup, FL.on1_eq, FL.ixAb_lst', FL.ixAb_tup', FL.fzs_mapS, FL.isFzs_mapS, FL.isFzs_mapI, FL.ixL_lst, FL.ixSet_eq, Option.bind_some, Option.bind_none, Option.map_some, Option.map_none, FL.fzs_mapI, Bool.and_true, Bool.true_and, FL.mulA_48271, FL.mulA_39373, FL.mulA_30011, FL.mulA_7919, FL.mulA_2, FL.mulA_3, FL.mod_2147483647, FL.mod_1000000007, FL.mod_998244353, FL.mod_26, FL.div_7, FL.tyP_lst, FL.tyP_tup, FL.gList_lst, FL.gList_tup, FL.gTuple_lst, decide_false, FL.tyM_lst, FL.gAppend_eq, FL.gInsert_eq, FL.minA_str, FL.maxA_str, FL.addA_str, FL.addA_lst, FL.fits_n0, FL.fits_n1, FL.fits_n2, FL.fits_n3, FL.fits_n4, FL.fits_n5, FL.fits_n6, FL.fits_n7, FL.fits_n8, FL.fits_n9, FL.fits_n10, FL.fits_n11, FL.fits_n12, FL.fits_n13, FL.fits_n14, FL.fits_n15, FL.fits_n16, FL.fits_n17, FL.fits_n18, FL.fits_n19, FL.fits_n20, FL.fits_n21, FL.fits_n22, FL.fits_n23, FL.fits_n24, FL.fits_n25, FL.fits_n26, FL.fits_n27, FL.fits_n28, FL.fits_n29, FL.fits_n30, FL.cal, FL.takes, FL.puts, FL.weave, FL.selL, Bool.or_true, Bool.true_or, and_true, true_and, decide_true, and_self, eq_self, ne_eq, not_false_eq_true, FL.div_int, FL.wip])
namespace FL
open PySem PySem.Spec PyProof.Rows L2
open HK (SX SXs Asc)
/-! ### kinds, steps, rows -/
def KindOK (x : Str) : Prop := Asc x ∧ x.cps.size ≤ 8
structure St3 where
  a : Str
  b : Str
  t : Bool
  u : Bool
def cartP (s : St3) : PV := .tup [.str s.a, .str s.b, .bl s.t]
def stepP (s : St3) : PV := .tup [cartP s, .bl s.u]
def St3.ok (s : St3) : Prop := KindOK s.a ∧ KindOK s.b
theorem stepP_fz (s : St3) : isFz (stepP s) = true := rfl
theorem stepP_ne (s : St3) : stepP s ≠ .un := fun h => nomatch h
theorem min_ok {a b : Str} (ha : KindOK a) (hb : KindOK b) : KindOK (HK.minS a b) := by unfold HK.minS; split <;> assumption
theorem max_ok {a b : Str} (ha : KindOK a) (hb : KindOK b) : KindOK (HK.maxS a b) := by unfold HK.maxS; split <;> assumption
theorem step_on_ok {g : PV} {a b : Str} (hg : IsBag g) (ha : KindOK a) (hb : KindOK b) : OK (F_l_step_on [g, .str a, .str b]) fun r => ∃ s g', r = (stepP s, [g']) ∧ IsBag g' ∧ s.ok := by
  obtain ⟨⟨_, _⟩, hF, x, g', e, hg', x0, x1⟩ := OK_ex (take_ok hg (m := 2) (by omega) (by omega))
  cases e
  obtain ⟨ps, rfl⟩ := hg.lst
  obtain ⟨ps', rfl⟩ := hg'.lst
  refine OK_run (OK_seq (OK_if (by (push_cast [hF] <;> rfl)) (fun h => ?_) fun h => ?_))
  · exact OK_ret (p := stepP ⟨a, b, false, false⟩) (by (push_cast <;> rfl)) ⟨_, _, rfl, hg', ha, hb⟩
  · refine OK_next (sq_nx ?_)
    exact OK_ret (p := stepP ⟨HK.minS a b, HK.maxS a b, true, ltS b a⟩) (by (push_cast <;> rfl)) ⟨_, _, rfl, hg', min_ok ha hb, max_ok ha hb⟩
theorem row_from_ok {g : PV} {o : Bool} {ks : List Str} {a : Str} {n : Int} (hg : IsBag g) (hk : ∀ k ∈ ks, KindOK k) (l1 : 1 ≤ ks.length) (l2 : ks.length ≤ 8) (ha : KindOK a) (n1 : 1 ≤ n) (n2 : n ≤ 100) :
    OK (F_l_row_from [g, .lst o (ks.map .str), .str a, .int n]) fun r => ∃ (ss : List St3) (g' : PV), r = (.lst true (ss.map stepP), [g']) ∧ IsBag g' ∧ (∀ s ∈ ss, s.ok) ∧ 1 ≤ ss.length ∧ (ss.length : Int) ≤ n := by
  obtain ⟨⟨_, _⟩, hF, x, g1, e, hg1, x0, x1⟩ := OK_ex (take_ok hg (m := n) (by omega) (by omega))
  cases e
  obtain ⟨ps, rfl⟩ := hg.lst
  obtain ⟨ps1, rfl⟩ := hg1.lst
  have hfk : isFzs (ks.map PV.str) = true := isFzs_map (fun _ => rfl) ks
  have fzk : fzs (ks.map PV.str) = ks.map PV.str := fzs_of hfk
  refine OK_run ?_
  refine OK_seq (OK_asg (by (push_cast <;> rfl)) (by (push_cast <;> rfl)) (sq_nx ?_))
  refine OK_seq (OK_for (τ1 := [.lst true ps1, .lst o (ks.map .str), .str a, .int n, .lst true [], .un, .un]) (fun done τ => ∃ (g' : PV) (o' : Bool) (a' : Str) (ss : List St3) (v w : PV), τ = [g', .lst o' (ks.map .str), .str a', .int n, .lst true (ss.map stepP), v, w] ∧ IsBag g' ∧ KindOK a' ∧ (∀ s ∈ ss, s.ok) ∧ ss.length = done.length)
    (irng1_ok (by (push_cast [hF] <;> rfl)) (by omega) (by omega)) ⟨_, _, _, [], _, _, rfl, hg1, ha, fun s h => (List.not_mem_nil h).elim, rfl⟩ ?_ ?_)
  · rintro done y rest τ ex ⟨g', o', a', ss, v, w, rfl, hg', ha', hss, ls⟩
    obtain ⟨rfl, ly⟩ := rng_at ex
    refine ⟨_, by (push_cast <;> rfl), ?_⟩
    obtain ⟨⟨_, _⟩, hF1, b, g2, e, hg2, hb⟩ := OK_ex (one_ok (o := false) (xs := ks.map PV.str) hg' (by rw [List.length_map]; omega) (by rw [List.length_map]; omega) hfk)
    cases e
    obtain ⟨k, hk', rfl⟩ := List.mem_map.mp hb
    obtain ⟨⟨_, _⟩, hF2, s, g3, e, hg3, hs⟩ := OK_ex (step_on_ok hg2 ha' (hk k hk'))
    cases e
    obtain ⟨q1, rfl⟩ := hg'.lst
    obtain ⟨q2, rfl⟩ := hg2.lst
    obtain ⟨q3, rfl⟩ := hg3.lst
    refine OK_seq (OK_asg (by (push_cast [fzk, hF1] <;> rfl)) (by (push_cast <;> rfl)) (sq_nx ?_))
    have hfit : fits ((ss.map stepP).length + 1) = true := fits_of (by rw [List.length_map]; omega)
    refine OK_seq (OK_drop (by (push_cast [hF2, hfit] <;> rfl)) (sq_nx ?_))
    refine OK_asg (by (push_cast <;> rfl)) (by (push_cast <;> rfl)) ⟨_, _, _, ss ++ [s], _, _, by rw [List.map_append]; rfl, hg3, hk k hk', fun s' h => ?_, by simp [ls]⟩
    rcases List.mem_append.mp h with h | h
    · exact hss s' h
    · cases List.mem_singleton.mp h; exact hs
  · rintro τ ⟨g', o', a', ss, v, w, rfl, hg', ha', hss, ls⟩
    obtain ⟨q1, rfl⟩ := hg'.lst
    rw [rng_len] at ls
    exact sq_nx (OK_ret (by (push_cast <;> rfl)) ⟨ss, _, rfl, hg', hss, by omega, by omega⟩)
end FL

namespace FL
open PySem PySem.Spec PyProof.Rows L2
open HK (SX SXs Asc)
theorem cutL_nat {α : Type} {xs : List α} {i j : Nat} (h : i ≤ j) (h2 : j ≤ xs.length) : cutL xs (some (i : Int)) (some (j : Int)) = (xs.drop i).take (j - i) := by
  unfold cutL
  rw [HT.sIx_nat, HT.sIx_nat, Nat.min_eq_left (a := i) (b := xs.length) (by omega), Nat.min_eq_left (a := j) h2]
theorem cutL_to {α : Type} {xs : List α} {j : Nat} (h2 : j ≤ xs.length) : cutL xs none (some (j : Int)) = xs.take j := by
  unfold cutL
  have e1 : HT.sIx xs.length 0 none = 0 := rfl
  rw [e1, HT.sIx_nat, Nat.min_eq_left h2, List.drop_zero, Nat.sub_zero]
theorem toDs_strs : ∀ ks : List Str, toDs (ks.map .str) = some (ks.map .str)
  | [] => rfl
  | k :: ks => by rw [List.map_cons, toDs, toDs_strs ks]; rfl
theorem sorted_strs (o : Bool) (ks : List Str) : ∃ ks' : List Str, gSorted (.lst o (ks.map .str)) = some (.lst true (ks'.map .str)) ∧ ks'.Perm ks := by
  have pm : (sortP (ks.map PV.str)).Perm (ks.map PV.str) := List.mergeSort_perm _ _
  have e : (sortP (ks.map PV.str)).map (fun p => match p with | .str x => PV.str x | p => p) = sortP (ks.map PV.str) := by
    refine List.map_id'' (fun p => ?_) _
    cases p <;> rfl
  refine ⟨(sortP (ks.map PV.str)).map (fun p => match p with | .str x => x | _ => ""), ?_, ?_⟩
  · have e2 : ((sortP (ks.map PV.str)).map (fun p => match p with | .str x => x | _ => "")).map PV.str = sortP (ks.map PV.str) := by
      rw [List.map_map]
      conv => rhs; rw [← List.map_id (sortP (ks.map PV.str))]
      refine List.map_congr_left fun p hp => ?_
      obtain ⟨k, _, rfl⟩ := List.mem_map.mp (pm.mem_iff.mp hp)
      rfl
    unfold gSorted
    simp only [toDs_strs]
    rw [if_pos, e2]
    simp only [Bool.and_eq_true]
    refine ⟨⟨⟨?_, ?_⟩, ?_⟩, isFzs_map (fun _ => rfl) ks⟩
    · refine List.all_eq_true.mpr fun d hd => List.all_eq_true.mpr fun d' hd' => ?_
      obtain ⟨k, _, rfl⟩ := List.mem_map.mp hd
      obtain ⟨k', _, rfl⟩ := List.mem_map.mp hd'
      rfl
    · unfold sortB
      rw [Bool.or_eq_true]
      refine .inr (List.all_eq_true.mpr fun d hd => ?_)
      obtain ⟨k, _, rfl⟩ := List.mem_map.mp hd
      rfl
    · refine List.all_eq_true.mpr fun d hd => ?_
      obtain ⟨k, _, rfl⟩ := List.mem_map.mp hd
      exact decide_eq_true (by simp [PyData.depth])
  · have := pm.map (fun p => match p with | PV.str x => x | _ => "")
    rw [List.map_map] at this
    have e3 : ks.map ((fun p => match p with | PV.str x => x | _ => "") ∘ PV.str) = ks := by
      conv => rhs; rw [← List.map_id ks]
      rfl
    rwa [e3] at this
/-! ### the kinds that are drawn -/
def menuS : List Str := ["a", "aa", "b", "ab", "ba", "z", "zz", "hook", "end", "zzzzzzzz", "true", "mm"]
def abc8 : List Str := ["a", "b", "c", "d", "e", "f", "g", "h"]
def abcS : Str := "abcdefghijklmnopqrstuvwxyz"
def kindB (x : Str) : Bool := x.cps.toList.all (fun c => decide (c < 128)) && decide (x.cps.size ≤ 8)
theorem kindB_ok {x : Str} (h : kindB x = true) : KindOK x := by
  unfold kindB at h
  rw [Bool.and_eq_true] at h
  exact ⟨fun c hc => of_decide_eq_true (List.all_eq_true.mp h.1 c hc), of_decide_eq_true h.2⟩
theorem menu_ok : ∀ k ∈ menuS, KindOK k := fun k hk => kindB_ok (List.all_eq_true.mp (show menuS.all kindB = true by decide +kernel) k hk)
theorem abc8_ok : ∀ k ∈ abc8, KindOK k := fun k hk => kindB_ok (List.all_eq_true.mp (show abc8.all kindB = true by decide +kernel) k hk)
theorem abc_at : ∀ j : Nat, j < 26 → abcS.cps.toList[j]? = some (97 + j) := by decide +kernel
theorem ixS_ok {z : Str} {j : Nat} {c : Nat} (hf : fits z.length = true) (h : z.cps.toList[j]? = some c) : ixA (.str z) (.int (j : Int)) = some (.str ⟨#[c]⟩) := by
  show (if fits z.length = true then (L2.atI z.cps.toList (j : Int)).map (fun c => PV.str ⟨#[c]⟩) else none) = _
  rw [if_pos hf, atI_ofNat h]
  rfl
theorem stem_ok (t : Nat) (ht : t < 3) : ∃ x : Str, cutS "xq" none (some (t : Int)) = x ∧ Asc x ∧ x.cps.size ≤ 2 := by
  refine ⟨_, rfl, ?_⟩
  have : ∀ t : Nat, t < 3 → (cutS "xq" none (some (t : Int))).cps.toList.all (fun c => decide (c < 128)) = true ∧ (cutS "xq" none (some (t : Int))).cps.size ≤ 2 := by decide +kernel
  obtain ⟨h1, h2⟩ := this t ht
  exact ⟨fun c hc => of_decide_eq_true (List.all_eq_true.mp h1 c hc), h2⟩
theorem letter_ok {x : Str} {c : Nat} (h : Asc x) (l : x.cps.size ≤ 2) (hc : c < 128) : KindOK (x ++ ⟨#[c]⟩) := by
  refine ⟨h.app (fun d hd => ?_), ?_⟩
  · have : d = c := by simpa using hd
    omega
  · have e : (x ++ (⟨#[c]⟩ : Str)).cps = x.cps ++ #[c] := rfl
    rw [e, Array.size_append]
    simp
    omega
theorem kinds_ok {g : PV} {n : Int} (hg : IsBag g) (n1 : 1 ≤ n) (n2 : n ≤ 8) : OK (F_l_kinds [g, .int n]) fun r => ∃ (ks : List Str) (g' : PV), r = (.lst true (ks.map .str), [g']) ∧ IsBag g' ∧ (∀ k ∈ ks, KindOK k) ∧ (ks.length : Int) = n := by
  obtain ⟨⟨_, _⟩, hF, x, g1, e, hg1, x0, x1⟩ := OK_ex (take_ok hg (m := 4) (by omega) (by omega))
  cases e
  obtain ⟨⟨_, _⟩, hF2, y, g2, e, hg2, y0, y1⟩ := OK_ex (take_ok hg1 (m := 12) (by omega) (by omega))
  cases e
  obtain ⟨ps, rfl⟩ := hg.lst
  obtain ⟨ps1, rfl⟩ := hg1.lst
  obtain ⟨ps2, rfl⟩ := hg2.lst
  refine OK_run ?_
  refine OK_seq (OK_asg (by (push_cast [hF, hF2] <;> rfl)) (by (push_cast <;> rfl)) (sq_nx ?_))
  refine OK_seq (OK_asg (p := .lst true (menuS.map .str)) (τ' := [.lst true ps2, .int n, .int x, .int y, .lst true (menuS.map .str), .un, .un]) (by (push_cast <;> rfl)) (by (push_cast <;> rfl)) (sq_nx ?_))
  refine OK_seq (OK_if (by (push_cast <;> rfl)) (fun h => ?_) fun h => ?_)
  · have hc : cutL (menuS.map PV.str ++ menuS.map PV.str) (some y) (some (y + n)) = (((menuS ++ menuS).drop y.toNat).take n.toNat).map PV.str := by
      rw [← List.map_append]
      have h1 := cutL_nat (xs := (menuS ++ menuS).map PV.str) (i := y.toNat) (j := (y + n).toNat) (by omega) (by rw [List.length_map]; show _ ≤ 24; omega)
      rw [Int.toNat_of_nonneg y0, Int.toNat_of_nonneg (by omega)] at h1
      rw [h1, List.map_take, List.map_drop]
      congr 1
      omega
    obtain ⟨ks', hs, pm⟩ := sorted_strs true (((menuS ++ menuS).drop y.toNat).take n.toNat)
    have hfit : fits ((menuS.map PV.str).length + (menuS.map PV.str).length) = true := rfl
    refine OK_ret (p := .lst true (ks'.map .str)) (by (push_cast [hfit, hc, hs] <;> rfl)) ⟨ks', _, rfl, hg2, fun k hk => ?_, ?_⟩
    · have := List.mem_of_mem_drop (List.mem_of_mem_take (pm.mem_iff.mp hk))
      rcases List.mem_append.mp this with h | h <;> exact menu_ok k h
    · rw [pm.length_eq, List.length_take, List.length_drop]
      have : (menuS ++ menuS).length = 24 := rfl
      omega
  · refine OK_next (sq_nx ?_)
    refine OK_seq (OK_if (by (push_cast <;> rfl)) (fun h => ?_) fun h => ?_)
    · have hc : cutL (abc8.map PV.str) none (some n) = (abc8.take n.toNat).map PV.str := by
        have h1 := cutL_to (xs := abc8.map PV.str) (j := n.toNat) (by rw [List.length_map]; show _ ≤ 8; omega)
        rw [Int.toNat_of_nonneg (by omega)] at h1
        rw [h1, List.map_take]
      refine OK_ret (p := .lst true ((abc8.take n.toNat).map .str)) (by
        have hc' : cutL [PV.str "a", .str "b", .str "c", .str "d", .str "e", .str "f", .str "g", .str "h"] none (some n) = _ := hc
        (push_cast [hc'] <;> rfl)) ⟨_, _, rfl, hg2, fun k hk => abc8_ok k (List.mem_of_mem_take hk), ?_⟩
      rw [List.length_take]
      have : abc8.length = 8 := rfl
      omega
    · refine OK_next (sq_nx ?_)
      obtain ⟨⟨_, _⟩, hF3, z, g3, e, hg3, z0, z1⟩ := OK_ex (take_ok hg2 (m := 3) (by omega) (by omega))
      cases e
      obtain ⟨ps3, rfl⟩ := hg3.lst
      obtain ⟨stem, hst, as, ls⟩ := stem_ok z.toNat (by omega)
      rw [Int.toNat_of_nonneg z0] at hst
      refine OK_seq (OK_asg (p := .str stem) (by (push_cast [hF3, hst] <;> rfl)) (by (push_cast <;> rfl)) (sq_nx ?_))
      have hmul : ∀ j : Nat, (2 * y + 3 * (0 + (j : Int))).fmod 26 = ((((2 * y + 3 * (j : Int)).fmod 26).toNat : Nat) : Int) := fun j => by
        have := (fm (x := 2 * y + 3 * (j : Int)) (m := 26) (by omega)).1
        rw [Int.toNat_of_nonneg this, Int.zero_add]
      obtain ⟨τ', h1, v, h2⟩ := lc_map (gg := stN 6) (e := bin gAddA (rd 5) (bin ixA (cst (.str "abcdefghijklmnopqrstuvwxyz")) (bin gMod (cb (on1 gInt) (vcons (bin gAddA (bin gMulA (cst (.int 2)) (rd 3)) (bin gMulA (cst (.int 3)) (rd 6))) vnil)) (cst (.int 26))))) (vs := [6]) (f := irng1 (vcons (rd 1) vnil)) (xs := rng 0 n.toNat)
        (τ := [.lst true ps3, .int n, .int x, .int y, .lst true (menuS.map .str), .str stem, .un]) (τ1 := [.lst true ps3, .int n, .int x, .int y, .lst true (menuS.map .str), .str stem, .un])
        (fun τ => ∃ v, τ = [.lst true ps3, .int n, .int x, .int y, .lst true (menuS.map .str), .str stem, v]) (fun p => match p with | .int i => .str (stem ++ ⟨#[97 + ((2 * y + 3 * i).fmod 26).toNat]⟩) | p => p)
        (irng1_ok (by (push_cast <;> rfl)) (by omega) (by omega)) (fits_of (by rw [rng_len]; omega)) ⟨_, rfl⟩ fun q hq τ ⟨v, e⟩ => by
          obtain ⟨j, rfl, hj⟩ := rng_mem hq
          subst e
          have q26 := fm (x := 2 * y + 3 * (0 + (j : Int))) (m := 26) (by omega)
          have hx := ixS_ok (z := abcS) (j := ((2 * y + 3 * (0 + (j : Int))).fmod 26).toNat) rfl (abc_at _ (by omega))
          rw [Int.toNat_of_nonneg q26.1] at hx
          have hx : ixA (.str "abcdefghijklmnopqrstuvwxyz") (.int ((2 * y + 3 * (0 + (j : Int))).fmod 26)) = _ := hx
          have hfit : fits (stem.length + (⟨#[97 + ((2 * y + 3 * (0 + (j : Int))).fmod 26).toNat]⟩ : Str).length) = true := fits_of (by
            have : stem.length = stem.cps.size := rfl
            have e2 : (⟨#[97 + ((2 * y + 3 * (0 + (j : Int))).fmod 26).toNat]⟩ : Str).length = 1 := rfl
            omega)
          refine ⟨_, [.lst true ps3, .int n, .int x, .int y, .lst true (menuS.map .str), .str stem, .int (0 + (j : Int))], by (push_cast <;> rfl), ?_, _, rfl⟩
          push_cast [hx, hfit]
      subst h2
      have e5 : (rng 0 n.toNat).map (fun p => match p with | .int i => PV.str (stem ++ ⟨#[97 + ((2 * y + 3 * i).fmod 26).toNat]⟩) | p => p) = ((List.range n.toNat).map fun j => stem ++ ⟨#[97 + ((2 * y + 3 * (0 + (j : Int))).fmod 26).toNat]⟩).map PV.str := by
        unfold rng
        rw [List.map_map, List.map_map]
        rfl
      rw [e5] at h1
      obtain ⟨ks', hs, pm⟩ := sorted_strs true ((List.range n.toNat).map fun j => stem ++ ⟨#[97 + ((2 * y + 3 * (0 + (j : Int))).fmod 26).toNat]⟩)
      refine OK_ret (p := .lst true (ks'.map .str)) (by (push_cast [h1, hs] <;> rfl)) ⟨ks', _, rfl, hg3, fun k hk => ?_, ?_⟩
      · obtain ⟨j, _, rfl⟩ := List.mem_map.mp (pm.mem_iff.mp hk)
        have := fm (x := 2 * y + 3 * (0 + (j : Int))) (m := 26) (by omega)
        exact letter_ok as ls (by omega)
      · rw [pm.length_eq, List.length_map, List.length_range]
        omega
end FL

namespace FL
open PySem PySem.Spec PyProof.Rows L2
open HK (SX SXs Asc)
/-! ### data of some room -/
def PX (p : PV) (n m : Nat) : Prop := isFz p = true ∧ ∃ d, toX p = some d ∧ SX d n m
def PXs (ps : List PV) (n m : Nat) : Prop := isFzs ps = true ∧ ∃ ds, toXs ps = some ds ∧ SXs ds n m
theorem PX.u {p : PV} {n m : Nat} (h : PX p n m) : Thing p := by
  obtain ⟨_, d, e, _⟩ := h
  cases p with
  | un => cases e
  | _ => rfl
theorem PX.fz {p : PV} {n m : Nat} (h : PX p n m) : FL.fz p = p := fz_of h.1
theorem PXs.nil {m : Nat} : PXs [] 0 m := ⟨rfl, [], rfl, .nil⟩
theorem PXs.cons {p : PV} {ps : List PV} {n k m : Nat} (h : PX p n m) (r : PXs ps k m) : PXs (p :: ps) (n + 1 + k) m := by
  obtain ⟨f, d, e, s⟩ := h
  obtain ⟨f', ds, e', s'⟩ := r
  exact ⟨by rw [isFzs, f, f']; rfl, d :: ds, by rw [toXs, e, e']; rfl, SXs.cons s s'⟩
theorem PX.mono {p : PV} {n k m j : Nat} (h : PX p n m) (a : n ≤ k) (c : m ≤ j) : PX p k j := let ⟨f, d, e, s⟩ := h; ⟨f, d, e, s.mono a c⟩
theorem PXs.mono {p : List PV} {n k m j : Nat} (h : PXs p n m) (a : n ≤ k) (c : m ≤ j) : PXs p k j := let ⟨f, d, e, s⟩ := h; ⟨f, d, e, s.mono a c⟩
theorem PXs.lst {ps : List PV} {n m : Nat} (h : PXs ps n m) : PX (.lst false ps) n (m + 1) := by
  obtain ⟨f, ds, e, s⟩ := h
  exact ⟨f, .list ds, by rw [toX, e]; rfl, s.list⟩
theorem PXs.tup {ps : List PV} {n m : Nat} (h : PXs ps n m) : PX (.tup ps) n (m + 1) := by
  obtain ⟨f, ds, e, s⟩ := h
  exact ⟨f, .tuple ds, by rw [toX, e]; rfl, s.tuple⟩
theorem PX.lstI {ps : List PV} {o : Bool} {n m : Nat} (h : PX (.lst o ps) n m) : o = false ∧ 1 ≤ m ∧ PXs ps n (m - 1) := by
  obtain ⟨f, d, e, s⟩ := h
  rw [isFz, Bool.and_eq_true] at f
  obtain ⟨ds, e1, rfl⟩ := Option.map_eq_some_iff.mp e
  obtain ⟨a, b⟩ := SX.items (.inl s)
  exact ⟨by simpa using f.1, a, f.2, ds, e1, b⟩
theorem PX.tupI {ps : List PV} {n m : Nat} (h : PX (.tup ps) n m) : 1 ≤ m ∧ PXs ps n (m - 1) := by
  obtain ⟨f, d, e, s⟩ := h
  obtain ⟨ds, e1, rfl⟩ := Option.map_eq_some_iff.mp e
  obtain ⟨a, b⟩ := SX.items (.inr s)
  exact ⟨a, f, ds, e1, b⟩
theorem toXs_mem : ∀ {ps : List PV} {ds : List PyData}, toXs ps = some ds → ∀ p ∈ ps, ∃ d ∈ ds, toX p = some d
  | p :: ps, _, h, q, m => by
    obtain ⟨d, e1, e2⟩ := Option.bind_eq_some_iff.mp h
    obtain ⟨ds, e3, rfl⟩ := Option.map_eq_some_iff.mp e2
    rcases List.mem_cons.mp m with m | m
    · subst m; exact ⟨d, List.mem_cons_self, e1⟩
    · obtain ⟨d', hd, e⟩ := toXs_mem e3 q m
      exact ⟨d', List.mem_cons_of_mem _ hd, e⟩
theorem PXs.get {ps : List PV} {n m : Nat} (h : PXs ps n m) {p : PV} (hp : p ∈ ps) : PX p (n - 1) m := by
  obtain ⟨f, ds, e, s⟩ := h
  obtain ⟨d, hd, e1⟩ := toXs_mem e p hp
  rw [isFzs_all] at f
  exact ⟨List.all_eq_true.mp f p hp, d, e1, s.get hd⟩
theorem PXs.unc {p : PV} {ps : List PV} {n m : Nat} (h : PXs (p :: ps) n m) : ∃ i k, PX p i m ∧ PXs ps k m ∧ i + 1 + k ≤ n := by
  obtain ⟨f, ds, e, s⟩ := h
  rw [isFzs, Bool.and_eq_true] at f
  obtain ⟨d, e1, e2⟩ := Option.bind_eq_some_iff.mp e
  obtain ⟨ds, e3, rfl⟩ := Option.map_eq_some_iff.mp e2
  have w := s.w
  rw [List.map_cons, List.sum_cons] at w
  obtain ⟨a, b, c, x⟩ := s.each d List.mem_cons_self
  exact ⟨d.weight, (ds.map fun d => d.weight + 1).sum, ⟨f.1, d, e1, a, b, c, Nat.le_refl _, x⟩, ⟨f.2, ds, e3, fun d' h' => s.each d' (List.mem_cons_of_mem _ h'), Nat.le_refl _⟩, w⟩
theorem PXs.app {ps qs : List PV} {n k m : Nat} (h : PXs ps n m) (r : PXs qs k m) : PXs (ps ++ qs) (n + k) m := by
  induction ps generalizing n with
  | nil => exact r.mono (by omega) (Nat.le_refl _)
  | cons p ps ih =>
    obtain ⟨i, j, h1, h2, l⟩ := h.unc
    exact (PXs.cons h1 (ih h2)).mono (by omega) (Nat.le_refl _)
theorem PXs.sub : ∀ {ps qs : List PV} {n m : Nat}, qs.Sublist ps → PXs ps n m → PXs qs n m
  | _, _, n, m, .slnil, h => h
  | _, _, n, m, .cons a s, h => by
    obtain ⟨i, j, h1, h2, l⟩ := h.unc
    exact (PXs.sub s h2).mono (by omega) (Nat.le_refl _)
  | _, _, n, m, .cons₂ a s, h => by
    obtain ⟨i, j, h1, h2, l⟩ := h.unc
    exact (PXs.cons h1 (PXs.sub s h2)).mono (by omega) (Nat.le_refl _)
theorem PXs.perm {ps qs : List PV} (s : ps.Perm qs) : ∀ {n m : Nat}, PXs ps n m → PXs qs n m := by
  induction s with
  | nil => exact id
  | cons a s ih =>
    intro n m h
    obtain ⟨i, j, h1, h2, l⟩ := h.unc
    exact (PXs.cons h1 (ih h2)).mono (by omega) (Nat.le_refl _)
  | swap a b l =>
    intro n m h
    obtain ⟨i, j, h1, h2, l⟩ := h.unc
    obtain ⟨i', j', h1', h2', l'⟩ := h2.unc
    exact (PXs.cons h1' (PXs.cons h1 h2')).mono (by omega) (Nat.le_refl _)
  | trans _ _ ih ih' => exact fun h => ih' (ih h)
/-- one item exchanged -/
theorem PXs.set {ps : List PV} {i : Nat} {p : PV} {n k m : Nat} (h : PXs ps n m) (hp : PX p k m) : PXs (ps.set i p) (n + (k + 1)) m := by
  induction ps generalizing n i with
  | nil => exact h.mono (by omega) (Nat.le_refl _)
  | cons q ps ih =>
    obtain ⟨a, b, h1, h2, l⟩ := h.unc
    cases i with
    | zero => exact (PXs.cons hp h2).mono (by omega) (Nat.le_refl _)
    | succ i => exact (PXs.cons h1 (ih h2)).mono (by omega) (Nat.le_refl _)
theorem PX.str {x : Str} {n : Nat} (h : Asc x) (l : x.cps.size ≤ n) : PX (.str x) n 0 := ⟨rfl, _, rfl, SX.str h l⟩
theorem PX.bl (b : Bool) : PX (.bl b) 0 0 := ⟨rfl, _, rfl, SX.bool b⟩
theorem PX.non : PX .non 0 0 := ⟨rfl, _, rfl, SX.none⟩
theorem PX.int {i : Int} (h : i.natAbs < 10 ^ 39) : PX (.int i) 130 0 := ⟨rfl, _, rfl, SX.int h⟩
theorem step_px {s : St3} (h : s.ok) : PX (stepP s) 24 2 := by
  have c : PX (cartP s) 19 1 := (PXs.cons (PX.str h.1.1 h.1.2) (PXs.cons (PX.str h.2.1 h.2.2) (PXs.cons (PX.bl s.t) .nil))).tup.mono (by omega) (Nat.le_refl _)
  exact (PXs.cons (m := 1) c (PXs.cons ((PX.bl s.u).mono (Nat.le_refl _) (by omega)) .nil)).tup.mono (by omega) (Nat.le_refl _)
theorem steps_px : ∀ {ss : List St3}, (∀ s ∈ ss, s.ok) → PXs (ss.map stepP) (25 * ss.length) 2
  | [], _ => .nil
  | s :: ss, h => (PXs.cons (step_px (h s List.mem_cons_self)) (steps_px fun s hs => h s (List.mem_cons_of_mem _ hs))).mono (by rw [List.length_cons]; omega) (Nat.le_refl _)
theorem toX_txt {p : PV} {n m : Nat} (h : PX p n m) (a : n ≤ 300000) (c : m ≤ 60) : ∃ x, gRepr p = some (.str x) := by
  obtain ⟨f, d, e, s⟩ := h
  have t := s.tx a c
  refine ⟨d.shown, ?_⟩
  unfold gRepr
  rw [e]
  simp only
  rw [if_pos]
  unfold txB
  obtain ⟨t1, t2, t3⟩ := t
  rw [sizeLine_eq] at t2
  simp only [Bool.and_eq_true, decide_eq_true_eq]
  exact ⟨⟨t1, decide_eq_true t2⟩, t3⟩
/-! ### mixed -/
theorem mixed_ok {g : PV} {o : Bool} {ps : List PV} (hg : IsBag g) (l : ps.length ≤ 1000) (hf : isFzs ps = true) (hu : ∀ p ∈ ps, Thing p) : OK (F_l_mixed [g, .lst o ps]) fun r => ∃ (qs : List PV) (g' : PV), r = (.lst true qs, [g']) ∧ IsBag g' ∧ qs.Perm ps := by
  obtain ⟨ps1, rfl⟩ := hg.lst
  have fp := fzs_of hf
  refine OK_run ?_
  refine OK_seq (OK_asg (by (push_cast <;> rfl)) (by (push_cast <;> rfl)) (sq_nx ?_))
  refine OK_seq (OK_for (τ1 := [.lst true ps1, .lst false ps, .lst true [], .un]) (xs := ps) (fun done τ => ∃ (g' : PV) (qs : List PV) (v : PV), τ = [g', .lst false ps, .lst true qs, v] ∧ IsBag g' ∧ qs.Perm done)
    (by push_cast [ilst, fp]) ⟨_, [], _, rfl, hg, .refl _⟩ ?_ ?_)
  · rintro done y rest τ ex ⟨g', qs, v, rfl, hg', pm⟩
    have hy : y ∈ ps := by rw [ex]; simp
    have uy := hu y hy
    have fy : fz y = y := fz_of (by rw [isFzs_all] at hf; exact List.all_eq_true.mp hf y hy)
    have lq := pm.length_eq
    have lp := congrArg List.length ex
    rw [List.length_append, List.length_cons] at lp
    refine ⟨_, by (push_cast <;> rfl), ?_⟩
    obtain ⟨⟨_, _⟩, hF, x, g2, e, hg2, x0, x1⟩ := OK_ex (take_ok hg' (m := (qs.length : Int) + 1) (by omega) (by omega))
    cases e
    obtain ⟨q1, rfl⟩ := hg'.lst
    obtain ⟨q2, rfl⟩ := hg2.lst
    have hc : (fits (qs.length + 1) && decide (0 ≤ x) && decide (x < 9223372036854775808)) = true := by
      simp only [Bool.and_eq_true, decide_eq_true_eq]
      exact ⟨⟨fits_of (by omega), x0⟩, by omega⟩
    refine OK_drop (by (push_cast [hF, uy, fy, hc] <;> rfl)) ⟨_, _, _, rfl, hg2, ?_⟩
    have e : qs = qs.take x.toNat ++ qs.drop x.toNat := (List.take_append_drop _ _).symm
    have : (qs.take x.toNat ++ [y] ++ qs.drop x.toNat).Perm (qs ++ [y]) := by
      conv => rhs; rw [e]
      rw [List.append_assoc, List.append_assoc]
      exact List.Perm.append_left _ List.perm_append_comm
    exact this.trans (pm.append_right _)
  · rintro τ ⟨g', qs, v, rfl, hg', pm⟩
    obtain ⟨q1, rfl⟩ := hg'.lst
    exact sq_nx (OK_ret (by (push_cast <;> rfl)) ⟨_, _, rfl, hg', pm⟩)
end FL

namespace FL
open PySem PySem.Spec PyProof.Rows L2
open HK (SX SXs Asc)
def pxB (p : PV) (n m : Nat) : Bool := isFz p && match toX p with
  | some d => HK.ascD d && d.leavesShort 40 && d.showable && decide (d.weight ≤ n) && decide (d.depth ≤ m)
  | none => false
theorem pxB_ok {p : PV} {n m : Nat} (h : pxB p n m = true) : PX p n m := by
  unfold pxB at h
  rw [Bool.and_eq_true] at h
  obtain ⟨h1, h2⟩ := h
  split at h2
  · rename_i d e
    simp only [Bool.and_eq_true, decide_eq_true_eq] at h2
    obtain ⟨⟨⟨⟨a, b⟩, c⟩, w⟩, dp⟩ := h2
    exact ⟨h1, d, e, a, b, c, w, dp⟩
  · cases h2
def deepP : Nat → PV
  | 0 => .lst false []
  | n + 1 => .lst false [deepP n]
def odd1 : List PV := [.non, .bl true, .bl false, .int 0, .int 1, .int (-1), .int 2, .int (10 ^ 31), .str "", .str "a", .str "A", .str "ab", .str "abcdefghi", .str "a b", .str "aaaaaaaa", .tup [], .lst false [], .dct false false []]
def odd2 : List PV := [.tup [.str "a", .str "b", .bl true], .tup [.str "b", .str "a", .bl true], .tup [.str "a", .str "b", .int 1], .tup [.str "a", .str "a", .bl true], .tup [.tup [.str "a", .str "b", .bl true], .bl true]]
def nones : List PV := List.replicate 900 .non
theorem nones_fz : fzs nones = nones := by
  rw [fzs_map]
  unfold nones
  rw [List.map_replicate]
  rfl
def odd3 : List PV := [.tup [.tup [.str "a", .str "b", .bl false], .bl true], .tup [.tup [.str "a", .str "a", .bl true], .bl true], .lst false [.str "a", .str "b", .bl false], .lst false (nones), deepP 9]
def oddS : List PV := odd1 ++ odd2 ++ odd3
theorem odd_px : ∀ p ∈ oddS, PX p 6000 20 := fun p hp => pxB_ok (List.all_eq_true.mp (show oddS.all (fun p => pxB p 6000 20) = true by decide +kernel) p hp)
theorem odd_fz : isFzs oddS = true := by decide +kernel
theorem rep900 : gMulA (.lst true [.non]) (.int 900) = some (.lst true (nones)) := by
  have e : gMulA (.lst true [.non]) (.int 900) = some (.lst true (List.replicate 900 [PV.non]).flatten) := rfl
  rw [e, List.flatten_replicate_singleton]
  rfl
theorem pow31 : gPow (.int 10) (.int 31) = some (.int (10 ^ 31)) := rfl
theorem odd_ok {g : PV} (hg : IsBag g) : OK (F_l_odd_value [g]) fun r => ∃ (p g' : PV), r = (p, [g']) ∧ IsBag g' ∧ PX p 6000 20 := by
  have ⟨ps, eg⟩ := hg.lst
  subst eg
  refine OK_run ?_
  refine OK_seq (OK_asg (by (push_cast <;> rfl)) (by (push_cast <;> rfl)) (sq_nx ?_))
  refine OK_seq (OK_for (τ1 := [.lst true ps, .lst true [], .un, .un]) (xs := rng 0 9) (fun done τ => ∃ (o : Bool) (v q : PV), τ = [.lst true ps, q, v, .un] ∧ fz q = deepP done.length ∧ Thing q) (irng1_ok (j := 9) (by (push_cast <;> rfl)) (by omega) (by omega)) ⟨true, .un, .lst true [], rfl, rfl, rfl⟩ ?_ ?_)
  · rintro done y rest τ ex ⟨o, v, q, rfl, eq, u⟩
    refine ⟨_, by (push_cast <;> rfl), ?_⟩
    refine OK_asg (p := .lst true [deepP done.length]) (by (push_cast [u, eq] <;> rfl)) (by (push_cast <;> rfl)) ⟨true, _, .lst true [deepP done.length], rfl, ?_, rfl⟩
    have : fz (deepP done.length) = deepP done.length := by rw [← eq, fz_fz]
    rw [List.length_append]
    simp only [fz, fzs, this]
    rfl
  · rintro τ ⟨o, v, q, rfl, eq, u⟩
    have eq : fz q = deepP 9 := eq
    refine sq_nx ?_
    refine OK_seq (OK_asg (p := .lst true odd1) (τ' := [.lst true ps, q, v, .lst true odd1]) (by push_cast [dnewE, pow31, gNeg]; rfl) (by (push_cast <;> rfl)) (sq_nx ?_))
    have f1 : fzs odd1 = odd1 := fzs_of (by decide +kernel)
    have f2 : fzs (odd1 ++ odd2) = odd1 ++ odd2 := fzs_of (by decide +kernel)
    have f3 : fzs (odd1 ++ odd2 ++ [.tup [.tup [.str "a", .str "b", .bl false], .bl true], .tup [.tup [.str "a", .str "a", .bl true], .bl true], .lst false [.str "a", .str "b", .bl false], .lst true (nones), deepP 9]) = oddS := by
      rw [fzs_map, List.map_append, ← fzs_map, ← fzs_map, f2]
      simp only [fzs, fz, nones_fz]
      rfl
    refine OK_seq (OK_asg (p := .lst true (odd1 ++ odd2)) (τ' := [.lst true ps, q, v, .lst true (odd1 ++ odd2)]) (by push_cast [f1]; rfl) (by (push_cast <;> rfl)) (sq_nx ?_))
    refine OK_seq (OK_asg (p := .lst true (odd1 ++ odd2 ++ [.tup [.tup [.str "a", .str "b", .bl false], .bl true], .tup [.tup [.str "a", .str "a", .bl true], .bl true], .lst false [.str "a", .str "b", .bl false], .lst true (nones), deepP 9])) (by push_cast [f2, rep900, u, eq]; rfl) (by (push_cast <;> rfl)) (sq_nx ?_))
    obtain ⟨⟨_, _⟩, hF, z, g1, e, hg1, hx⟩ := OK_ex (one_ok (o := false) (xs := oddS) hg (by decide) (by decide) odd_fz)
    cases e
    obtain ⟨q1, rfl⟩ := hg1.lst
    exact OK_ret (by push_cast [f3, hF]; rfl) ⟨_, _, rfl, hg1, odd_px _ hx⟩
end FL

namespace FL
open PySem PySem.Spec PyProof.Rows L2
open HK (SX SXs Asc)
theorem PXs.len : ∀ {ps : List PV} {n m : Nat}, PXs ps n m → ps.length ≤ n
  | [], _, _, _ => Nat.zero_le _
  | p :: ps, _, _, h => by
    obtain ⟨i, k, h1, h2, l⟩ := h.unc
    have := PXs.len h2
    rw [List.length_cons]
    omega
theorem PXs.fzs {ps : List PV} {n m : Nat} (h : PXs ps n m) : FL.fzs ps = ps := fzs_of h.1
/-- what data is -/
theorem PX.cases {p : PV} {n m : Nat} (h : PX p n m) : (∃ ps, p = .lst false ps ∧ 1 ≤ m ∧ PXs ps n (m - 1)) ∨ (∃ ps, p = .tup ps ∧ 1 ≤ m ∧ PXs ps n (m - 1)) ∨ (∃ T, tyP p = some T ∧ kb T "list" = false ∧ kb T "tuple" = false) := by
  have h0 := h
  obtain ⟨f, d, e, s⟩ := h
  cases p with
  | un => cases e
  | non => exact .inr (.inr ⟨_, rfl, rfl, rfl⟩)
  | bl b => exact .inr (.inr ⟨_, rfl, rfl, rfl⟩)
  | int i => exact .inr (.inr ⟨_, rfl, rfl, rfl⟩)
  | str x => exact .inr (.inr ⟨_, rfl, rfl, rfl⟩)
  | tup ps => exact .inr (.inl ⟨ps, rfl, h0.tupI.1, h0.tupI.2⟩)
  | lst o ps =>
    obtain ⟨e, a, b⟩ := h0.lstI
    subst e
    exact .inl ⟨ps, rfl, a, b⟩
  | dct o t es =>
    rw [toX] at e
    split at e
    · rename_i z
      refine .inr (.inr ⟨"dict", ?_, rfl, rfl⟩)
      unfold tyP
      rw [z.1]
      rfl
    · cases e
  | ins _ _ _ => cases e
  | exc _ _ _ _ => cases e
theorem ixN_ok {n : Nat} {x : Int} (h : 0 ≤ x) (h2 : x < n) : ixN n x = some x.toNat := by
  have := ixN_nat (n := n) (j := x.toNat) (by omega)
  rwa [Int.toNat_of_nonneg h] at this
theorem cutL_one {α : Type} {xs : List α} {y : Int} (h : 0 ≤ y) (h2 : y < xs.length) : cutL xs (some y) (some (y + 1)) = (xs.drop y.toNat).take 1 := by
  obtain ⟨n, rfl⟩ := Int.eq_ofNat_of_zero_le h
  have e : ((n : Int) + 1) = ((n + 1 : Nat) : Int) := by omega
  rw [e, cutL_nat (by omega) (by omega), Int.toNat_natCast, Nat.add_sub_cancel_left]
/-- one item exchanged for a greater one -/
theorem PXs.set_of : ∀ {ps : List PV} {i : Nat} {e : PV} {n m : Nat}, PXs ps n m → ps[i]? = some e → ∃ a, a + 1 ≤ n ∧ PX e a m ∧ ∀ (p : PV) (k m' : Nat), m ≤ m' → PX p (a + k) m' → PXs (ps.set i p) (n + k) m'
  | [], i, _, _, _, _, he => by simp at he
  | q :: ps, 0, e, n, m, h, he => by
    simp only [List.getElem?_cons_zero, Option.some.injEq] at he
    subst he
    obtain ⟨a, b, h1, h2, l⟩ := h.unc
    exact ⟨a, by omega, h1, fun p k m' hm hp => (PXs.cons hp (h2.mono (Nat.le_refl _) hm)).mono (by omega) (Nat.le_refl _)⟩
  | q :: ps, i + 1, e, n, m, h, he => by
    obtain ⟨a, b, h1, h2, l⟩ := h.unc
    obtain ⟨a', l', h', k'⟩ := PXs.set_of (i := i) h2 (by simpa using he)
    exact ⟨a', by omega, h', fun p k m' hm hp => (PXs.cons (h1.mono (Nat.le_refl _) hm) (k' p k m' hm hp)).mono (by omega) (Nat.le_refl _)⟩
theorem bent_ok : ∀ (n : Nat) {g p : PV} {w m : Nat}, IsBag g → PX p w m → m ≤ n → w ≤ 100000 → OK (F_l_bent (n + 1) [g, p]) fun r => ∃ (q g' : PV), r = (q, [g']) ∧ IsBag g' ∧ PX q (2 * w + 6001) (20 + m) := by
  intro n
  induction n with
  | zero =>
    intro g p w m hg hp hm hw
    have hm0 : m = 0 := by omega
    subst hm0
    have up := hp.u
    have fp := hp.fz
    obtain ⟨_, hF, x, g1, rfl, hg1, x0, x1⟩ := OK_ex (take_ok hg (m := 8) (by omega) (by omega))
    obtain ⟨_, hO, od, g2, rfl, hg2, hod⟩ := OK_ex (odd_ok hg1)
    obtain ⟨q0, rfl⟩ := hg.lst
    obtain ⟨q1, rfl⟩ := hg1.lst
    obtain ⟨q2, rfl⟩ := hg2.lst
    have odd_out : PX od (2 * w + 6001) (20 + 0) := hod.mono (by omega) (by omega)
    refine OK_run ?_
    refine OK_seq (OK_asg (by (push_cast [hF] <;> rfl)) (by (push_cast <;> rfl)) (sq_nx ?_))
    by_cases hx0 : x = 0
    · refine OK_seq (OK_if (b := true) (τ' := [.lst true q1, p, .int x, .un, .un]) (by push_cast [hx0] <;> rfl) (fun _ => ?_) fun h => nomatch h)
      exact OK_ret (p := od) (by (push_cast [hO] <;> rfl)) ⟨_, _, rfl, hg2, odd_out⟩
    · rcases hp.cases with ⟨ps, rfl, m1, hps⟩ | ⟨ps, rfl, m1, hps⟩ | ⟨T, hT, k1, k2⟩
      · omega
      · omega
      · refine OK_seq (OK_if (b := true) (by push_cast [hx0, hT, up, fp, k1, k2, Bool.or_false, Bool.not_false] <;> rfl) (fun _ => ?_) fun h => nomatch h)
        exact OK_ret (p := od) (by (push_cast [hO] <;> rfl)) ⟨_, _, rfl, hg2, odd_out⟩
  | succ n ih =>
    intro g p w m hg hp hm hw
    have up := hp.u
    have fp := hp.fz
    obtain ⟨_, hF, x, g1, rfl, hg1, x0, x1⟩ := OK_ex (take_ok hg (m := 8) (by omega) (by omega))
    obtain ⟨_, hO, od, g2, rfl, hg2, hod⟩ := OK_ex (odd_ok hg1)
    obtain ⟨q0, rfl⟩ := hg.lst
    obtain ⟨q1, rfl⟩ := hg1.lst
    obtain ⟨q2, rfl⟩ := hg2.lst
    have odd_out : PX od (2 * w + 6001) (20 + m) := hod.mono (by omega) (by omega)
    refine OK_run ?_
    refine OK_seq (OK_asg (by (push_cast [hF] <;> rfl)) (by (push_cast <;> rfl)) (sq_nx ?_))
    by_cases hx0 : x = 0
    · refine OK_seq (OK_if (b := true) (τ' := [.lst true q1, p, .int x, .un, .un]) (by push_cast [hx0] <;> rfl) (fun _ => ?_) fun h => nomatch h)
      exact OK_ret (p := od) (by (push_cast [hO] <;> rfl)) ⟨_, _, rfl, hg2, odd_out⟩
    · have hseq : (∃ (ps : List PV) (T : String) (isl : Bool), 1 ≤ m ∧ PXs ps w (m - 1) ∧ gLenA p = some (.int ps.length) ∧ gList [p] = some (.lst true ps) ∧ tyP p = some T ∧ (kb T "list" || kb T "tuple") = true ∧ kb T "list" = isl) ∨ (∃ T, tyP p = some T ∧ kb T "list" = false ∧ kb T "tuple" = false) := by
        rcases hp.cases with ⟨ps, rfl, m1, hps⟩ | ⟨ps, rfl, m1, hps⟩ | h
        · exact .inl ⟨ps, "list", true, m1, hps, rfl, rfl, rfl, rfl, rfl⟩
        · exact .inl ⟨ps, "tuple", false, m1, hps, rfl, rfl, rfl, rfl, rfl⟩
        · exact .inr h
      rcases hseq with ⟨ps, T, isl, m1, hps, eL, eS, eT, k2, k1⟩ | ⟨T, hT, k1, k2⟩
      · have lp := hps.len
        by_cases hl0 : ps.length = 0
        · have hl1 : ((ps.length : Int) = 0) := by omega
          refine OK_seq (OK_if (b := true) (by push_cast [hx0, up, fp, eL, eT, k2, hl1, Bool.not_true] <;> rfl) (fun _ => ?_) fun h => nomatch h)
          exact OK_ret (p := od) (by (push_cast [hO] <;> rfl)) ⟨_, _, rfl, hg2, odd_out⟩
        · have hl1 : ¬ ((ps.length : Int) = 0) := by omega
          obtain ⟨_, hF2, y, g3, rfl, hg3, y0, y1⟩ := OK_ex (take_ok hg1 (m := (ps.length : Int)) (by omega) (by omega))
          obtain ⟨q3, rfl⟩ := hg3.lst
          have hyn := ixN_ok (n := ps.length) (x := y) y0 y1
          have hyl : y.toNat < ps.length := by omega
          have hy : ps[y.toNat]? = some ps[y.toNat] := List.getElem?_eq_getElem hyl
          have hat := atI_ofNat hy
          rw [Int.toNat_of_nonneg y0] at hat
          have hit := hps.get (List.getElem_mem hyl)
          refine OK_seq (OK_if (b := false) (by push_cast [hx0, up, fp, eL, eT, k2, hl1, Bool.not_true] <;> rfl) (fun h => nomatch h) fun _ => ?_)
          refine OK_next (sq_nx ?_)
          refine OK_seq (OK_par (p := .lst true ps) (q := .int y) (τ1 := [.lst true q3, p, .int x, .un, .un]) (by push_cast [up, fp, eL, eS, hF2] <;> rfl) (show 3 < 5 ∧ 4 < 5 by decide) (sq_nx ?_))
          obtain ⟨wa, wl, hwa, hset⟩ := hps.set_of hy
          refine OK_seq (OK_mono (Q := fun fl => ∃ (g' : PV) (qs : List PV), fl = .nx [g', p, .int x, .lst true qs, .int y] ∧ IsBag g' ∧ PXs qs (2 * w + 6001) (19 + m) ∧ (¬ x < 5 → qs = ps)) (OK_if (by (push_cast <;> rfl)) (fun h => ?_) fun h => ?_) ?_)
          · obtain ⟨_, hR, b, g4, rfl, hg4, hb⟩ := OK_ex (ih hg3 hwa (by omega) (by omega))
            obtain ⟨q4, rfl⟩ := hg4.lst
            exact OK_asg (p := b) (by (push_cast [hat, hR, hwa.1] <;> rfl)) (by (push_cast [hyn] <;> rfl)) ⟨_, _, rfl, hg4, (hset b (wa + 6001) (19 + m) (by omega) (hb.mono (by omega) (by omega))).mono (by omega) (Nat.le_refl _), fun h' => absurd (of_decide_eq_true h) h'⟩
          · exact OK_next ⟨_, _, rfl, hg3, hps.mono (by omega) (by omega), fun _ => rfl⟩
          · rintro _ ⟨g5, qs, rfl, hg5, hqs, hx5⟩
            obtain ⟨q5, rfl⟩ := hg5.lst
            refine sq_nx (OK_seq (OK_mono (Q := fun fl => ∃ (g' : PV) (rs : List PV), fl = .nx [g', p, .int x, .lst true rs, .int y] ∧ IsBag g' ∧ PXs rs (2 * w + 6001) (19 + m) ∧ (¬ x < 6 → rs = ps)) (OK_if (by (push_cast <;> rfl)) (fun h => ?_) fun h => ?_) ?_))
            · have hx : x = 5 := of_decide_eq_true h
              have eqs := hx5 (by omega)
              subst eqs
              obtain ⟨_, hF6, z, g6, rfl, hg6, z0, z1⟩ := OK_ex (take_ok hg5 (m := 2) (by omega) (by omega))
              obtain ⟨_, hO7, od7, g7, rfl, hg7, hod7⟩ := OK_ex (odd_ok hg6)
              obtain ⟨q6, rfl⟩ := hg6.lst
              obtain ⟨q7, rfl⟩ := hg7.lst
              have hc : (fits (qs.length + 1) && decide (0 ≤ y + z) && decide (y + z < 9223372036854775808)) = true := by
                simp only [Bool.and_eq_true, decide_eq_true_eq]
                exact ⟨⟨fits_of (by omega), by omega⟩, by omega⟩
              refine OK_drop (by (push_cast [hF6, hO7, hc] <;> rfl)) ⟨_, _, rfl, hg7, ?_, fun h' => absurd (by omega : x < 6) h'⟩
              have pm : (qs.take (y + z).toNat ++ [od7] ++ qs.drop (y + z).toNat).Perm (od7 :: qs) := by
                conv => rhs; rw [← List.take_append_drop (y + z).toNat qs]
                rw [List.append_assoc]
                exact List.perm_middle
              exact (PXs.perm pm.symm (PXs.cons (m := 19 + m) (hod7.mono (Nat.le_refl _) (by omega)) (hps.mono (Nat.le_refl _) (by omega)))).mono (by omega) (Nat.le_refl _)
            · exact OK_next ⟨_, _, rfl, hg5, hqs, fun h' => by
                have : ¬ x = 5 := of_decide_eq_false h
                exact hx5 (by omega)⟩
            · rintro _ ⟨g8, rs, rfl, hg8, hrs, hx6⟩
              obtain ⟨q8, rfl⟩ := hg8.lst
              refine sq_nx (OK_seq (OK_mono (Q := fun fl => ∃ (g' : PV) (ts : List PV), fl = .nx [g', p, .int x, .lst true ts, .int y] ∧ IsBag g' ∧ PXs ts (2 * w + 6001) (19 + m) ∧ (¬ x < 7 → ts = ps)) (OK_if (by (push_cast <;> rfl)) (fun h => ?_) fun h => ?_) ?_))
              · have hx : x = 6 := of_decide_eq_true h
                have eqs := hx6 (by omega)
                subst eqs
                have hp6 : gPop (.lst true rs) [.int y] = some (.lst true (rs.eraseIdx y.toNat), rs[y.toNat]) := by
                  show (if (decide (0 ≤ y) && decide (y < 2 ^ 63)) = true then (rs[y.toNat]?).bind fun y' => if isFz y' = true then some (PV.lst true (rs.eraseIdx y.toNat), y') else none else none) = _
                  rw [if_pos (by simp only [Bool.and_eq_true, decide_eq_true_eq]; exact ⟨y0, by omega⟩), hy]
                  simp only [Option.bind_some]
                  rw [if_pos hit.1]
                exact OK_drop (by (push_cast [hp6] <;> rfl)) ⟨_, _, rfl, hg8, (PXs.sub (List.eraseIdx_sublist _ _) hps).mono (by omega) (by omega), fun h' => absurd (by omega : x < 7) h'⟩
              · exact OK_next ⟨_, _, rfl, hg8, hrs, fun h' => by
                  have : ¬ x = 6 := of_decide_eq_false h
                  exact hx6 (by omega)⟩
              · rintro _ ⟨g9, ts, rfl, hg9, hts, hx7⟩
                obtain ⟨q9, rfl⟩ := hg9.lst
                refine sq_nx (OK_seq (OK_mono (Q := fun fl => ∃ (g' : PV) (us : List PV) (o : Bool), fl = .nx [g', p, .int x, .lst o us, .int y] ∧ IsBag g' ∧ PXs us (2 * w + 6001) (19 + m)) (OK_if (by (push_cast <;> rfl)) (fun h => ?_) fun h => ?_) ?_))
                · have hx : x = 7 := of_decide_eq_true h
                  have eqs := hx7 (by omega)
                  subst eqs
                  have hcut := cutL_one (xs := ts) y0 y1
                  have hfit : fits (ts.length + ((ts.drop y.toNat).take 1).length) = true := fits_of (by rw [List.length_take]; omega)
                  refine OK_asg (by (push_cast [hps.fzs, hcut, hfit] <;> rfl)) (by (push_cast <;> rfl)) ⟨_, _, _, rfl, hg9, (PXs.app hps (PXs.sub (List.Sublist.trans (List.take_sublist _ _) (List.drop_sublist _ _)) hps)).mono (by omega) (by omega)⟩
                · exact OK_next ⟨_, _, _, rfl, hg9, hts⟩
                · rintro _ ⟨g10, us, o, rfl, hg10, hus⟩
                  obtain ⟨_, hF11, z, g11, rfl, hg11, z0, z1⟩ := OK_ex (take_ok hg10 (m := 6) (by omega) (by omega))
                  obtain ⟨q10, rfl⟩ := hg10.lst
                  obtain ⟨q11, rfl⟩ := hg11.lst
                  have o1 : PX (.lst false us) (2 * w + 6001) (20 + m) := hus.lst.mono (Nat.le_refl _) (by omega)
                  have o2 : PX (.tup us) (2 * w + 6001) (20 + m) := hus.tup.mono (Nat.le_refl _) (by omega)
                  refine sq_nx (OK_seq (OK_if (by (push_cast [hF11] <;> rfl)) (fun h => ?_) fun h => ?_))
                  · cases isl with
                    | true => exact OK_ret (p := .tup us) (by (push_cast [up, fp, eT, k1, hus.fzs] <;> rfl)) ⟨_, _, rfl, hg11, o2⟩
                    | false => exact OK_ret (p := .lst false us) (by (push_cast [up, fp, eT, k1, hus.fzs] <;> rfl)) ⟨_, _, rfl, hg11, o1⟩
                  · refine OK_next (sq_nx ?_)
                    cases isl with
                    | true => exact OK_ret (p := .lst false us) (by (push_cast [up, fp, eT, k1, hus.fzs] <;> rfl)) ⟨_, _, rfl, hg11, o1⟩
                    | false => exact OK_ret (p := .tup us) (by (push_cast [up, fp, eT, k1, hus.fzs] <;> rfl)) ⟨_, _, rfl, hg11, o2⟩
      · refine OK_seq (OK_if (b := true) (by push_cast [hx0, hT, up, fp, k1, k2, Bool.or_false, Bool.not_false] <;> rfl) (fun _ => ?_) fun h => nomatch h)
        exact OK_ret (p := od) (by (push_cast [hO] <;> rfl)) ⟨_, _, rfl, hg2, odd_out⟩
end FL

namespace FL
open PySem PySem.Spec PyProof.Rows L2
open HK (SX SXs Asc)
/-! ### a step's ends -/
def begS (s : St3) : Str := if s.u = true then s.b else s.a
def endS (s : St3) : Str := if s.u = true then s.a else s.b
theorem begin_eq (s : St3) : F_begin_of [stepP s] = .ok (.str (begS s), []) := by
  obtain ⟨a, b, t, u⟩ := s
  cases u <;> rfl
theorem end_eq (s : St3) : F_end_of [stepP s] = .ok (.str (endS s), []) := by
  obtain ⟨a, b, t, u⟩ := s
  cases u <;> rfl
theorem lbegin_eq (s : St3) : F_l_begin [stepP s] = .ok (.str (begS s), []) := by
  obtain ⟨a, b, t, u⟩ := s
  cases u <;> rfl
theorem lend_eq (s : St3) : F_l_end [stepP s] = .ok (.str (endS s), []) := by
  obtain ⟨a, b, t, u⟩ := s
  cases u <;> rfl
theorem fzs_steps (ss : List St3) : fzs (ss.map stepP) = ss.map stepP := fzs_of (isFzs_map (fun _ => rfl) ss)
theorem isFzs_steps (ss : List St3) : isFzs (ss.map stepP) = true := isFzs_map (fun _ => rfl) ss
theorem fz_step (s : St3) : fz (stepP s) = stepP s := rfl
theorem isFz_step (s : St3) : isFz (stepP s) = true := rfl
theorem thing_step (s : St3) : Thing (stepP s) = True := eq_true rfl
theorem fz_cart (s : St3) : fz (cartP s) = cartP s := rfl
theorem isFz_cart (s : St3) : isFz (cartP s) = true := rfl
theorem thing_cart (s : St3) : Thing (cartP s) = True := eq_true rfl
local macro_rules
  | `(tactic| push_cast [$ls,*] at $h:ident) => `(tactic| simp only [FL.stN, FL.stNil, FL.stCons, FL.stTup, FL.spar, FL.bnd_ok, FL.bnd_err, FL.bnd_no, FL.opt_some, FL.opt_none, FL.cst, FL.bin, FL.un1, FL.tst, FL.asB, FL.tnot, FL.tand, FL.tor, FL.bval, FL.vand, FL.vor, FL.vnot, FL.vif, FL.vnil, FL.vcons, FL.vtup, FL.vlst, FL.fzE, FL.cb, FL.has, FL.mutM, FL.aug, FL.augN, FL.stS, FL.tyes, FL.isi, FL.isi2, FL.oso, FL.ono, FL.slL, FL.slS, FL.dg2, FL.opC, List.length_cons, List.length_nil, List.set_cons_zero, List.set_cons_succ, List.getElem?_cons_zero, List.getElem?_cons_succ, if_true, if_false, Bool.false_eq_true, reduceCtorEq, List.nil_append, List.cons_append, List.length_append, List.length_replicate, List.replicate_zero, List.replicate_succ, FL.fz_int, FL.fz_str, FL.fz_bl, FL.fz_non, FL.fz_un, FL.fz_tup, FL.fz_lst, FL.fzs_nil, FL.fzs_cons, FL.addA_int, FL.sub_int, FL.gt_int, FL.lt_int, FL.le_int, FL.ge_int, FL.lt_str', FL.gInt_int, FL.gInt_bl, FL.eqA_int, FL.neA_int, FL.mod_int, FL.thing_non, FL.thing_bl, FL.thing_int, FL.thing_str, FL.thing_tup, FL.thing_lst, FL.thing_dct, FL.opB_O, FL.opB1_some, FL.opB2_some, FL.rd_O, FL.mv_O, FL.cb_O, FL.rdO_some, FL.mvO_some, FL.cbO_some, FL.atI_0, FL.atI_1, FL.atI_2, FL.atI_3, FL.ixA_lst, FL.ixA_tup, FL.isFz_int, FL.isFz_str, FL.isFz_bl, FL.isFz_non, FL.isFz_tup, FL.isFz_lstF, FL.isFzs_nil, FL.isFzs_cons, FL.lenA_lst, FL.lenA_tup, FL.on1_eq, FL.ixAb_lst', FL.ixAb_tup', FL.fzs_mapS, FL.isFzs_mapS, FL.isFzs_mapI, FL.ixL_lst, FL.ixSet_eq, Option.bind_some, Option.bind_none, Option.map_some, Option.map_none, FL.fzs_mapI, Bool.and_true, Bool.true_and, FL.mulA_48271, FL.mulA_39373, FL.mulA_30011, FL.mulA_7919, FL.mulA_2, FL.mulA_3, FL.mod_2147483647, FL.mod_1000000007, FL.mod_998244353, FL.mod_26, FL.div_7, FL.tyP_lst, FL.tyP_tup, FL.gList_lst, FL.gList_tup, FL.gTuple_lst, decide_false, FL.tyM_lst, FL.gAppend_eq, FL.gInsert_eq, FL.minA_str, FL.maxA_str, FL.addA_str, FL.addA_lst, FL.fits_n0, FL.fits_n1, FL.fits_n2, FL.fits_n3, FL.fits_n4, FL.fits_n5, FL.fits_n6, FL.fits_n7, FL.fits_n8, FL.fits_n9, FL.fits_n10, FL.fits_n11, FL.fits_n12, FL.fits_n13, FL.fits_n14, FL.fits_n15, FL.fits_n16, FL.fits_n17, FL.fits_n18, FL.fits_n19, FL.fits_n20, FL.fits_n21, FL.fits_n22, FL.fits_n23, FL.fits_n24, FL.fits_n25, FL.fits_n26, FL.fits_n27, FL.fits_n28, FL.fits_n29, FL.fits_n30, FL.cal, FL.takes, FL.puts, FL.weave, FL.selL, Bool.or_true, Bool.true_or, and_true, true_and, decide_true, and_self, eq_self, ne_eq, not_false_eq_true, FL.div_int, FL.wip, FL.fzs_steps, FL.isFzs_steps, FL.fz_step, FL.isFz_step, FL.thing_step, FL.fz_cart, FL.isFz_cart, FL.thing_cart, $ls,*] at $h:ident)
  | `(tactic| push_cast [$ls,*]) => `(tactic| simp only [FL.stN, FL.stNil, FL.stCons, FL.stTup, FL.spar, FL.bnd_ok, FL.bnd_err, FL.bnd_no, FL.opt_some, FL.opt_none, FL.cst, FL.bin, FL.un1, FL.tst, FL.asB, FL.tnot, FL.tand, FL.tor, FL.bval, FL.vand, FL.vor, FL.vnot, FL.vif, FL.vnil, FL.vcons, FL.vtup, FL.vlst, FL.fzE, FL.cb, FL.has, FL.mutM, FL.aug, FL.augN, FL.stS, FL.tyes, FL.isi, FL.isi2, FL.oso, FL.ono, FL.slL, FL.slS, FL.dg2, FL.opC, List.length_cons, List.length_nil, List.set_cons_zero, List.set_cons_succ, List.getElem?_cons_zero, List.getElem?_cons_succ, if_true, if_false, Bool.false_eq_true, reduceCtorEq, List.nil_append, List.cons_append, List.length_append, List.length_replicate, List.replicate_zero, List.replicate_succ, FL.fz_int, FL.fz_str, FL.fz_bl, FL.fz_non, FL.fz_un, FL.fz_tup, FL.fz_lst, FL.fzs_nil, FL.fzs_cons, FL.addA_int, FL.sub_int, FL.gt_int, FL.lt_int, FL.le_int, FL.ge_int, FL.lt_str', FL.gInt_int, FL.gInt_bl, FL.eqA_int, FL.neA_int, FL.mod_int, FL.thing_non, FL.thing_bl, FL.thing_int, FL.thing_str, FL.thing_tup, FL.thing_lst, FL.thing_dct, FL.opB_O, FL.opB1_some, FL.opB2_some, FL.rd_O, FL.mv_O, FL.cb_O, FL.rdO_some, FL.mvO_some, FL.cbO_some, FL.atI_0, FL.atI_1, FL.atI_2, FL.atI_3, FL.ixA_lst, FL.ixA_tup, FL.isFz_int, FL.isFz_str, FL.isFz_bl, FL.isFz_non, FL.isFz_tup, FL.isFz_lstF, FL.isFzs_nil, FL.isFzs_cons, FL.lenA_lst, FL.lenA_tup, FL.on1_eq, FL.ixAb_lst', FL.ixAb_tup', FL.fzs_mapS, FL.isFzs_mapS, FL.isFzs_mapI, FL.ixL_lst, FL.ixSet_eq, Option.bind_some, Option.bind_none, Option.map_some, Option.map_none, FL.fzs_mapI, Bool.and_true, Bool.true_and, FL.mulA_48271, FL.mulA_39373, FL.mulA_30011, FL.mulA_7919, FL.mulA_2, FL.mulA_3, FL.mod_2147483647, FL.mod_1000000007, FL.mod_998244353, FL.mod_26, FL.div_7, FL.tyP_lst, FL.tyP_tup, FL.gList_lst, FL.gList_tup, FL.gTuple_lst, decide_false, FL.tyM_lst, FL.gAppend_eq, FL.gInsert_eq, FL.minA_str, FL.maxA_str, FL.addA_str, FL.addA_lst, FL.fits_n0, FL.fits_n1, FL.fits_n2, FL.fits_n3, FL.fits_n4, FL.fits_n5, FL.fits_n6, FL.fits_n7, FL.fits_n8, FL.fits_n9, FL.fits_n10, FL.fits_n11, FL.fits_n12, FL.fits_n13, FL.fits_n14, FL.fits_n15, FL.fits_n16, FL.fits_n17, FL.fits_n18, FL.fits_n19, FL.fits_n20, FL.fits_n21, FL.fits_n22, FL.fits_n23, FL.fits_n24, FL.fits_n25, FL.fits_n26, FL.fits_n27, FL.fits_n28, FL.fits_n29, FL.fits_n30, FL.cal, FL.takes, FL.puts, FL.weave, FL.selL, Bool.or_true, Bool.true_or, and_true, true_and, decide_true, and_self, eq_self, ne_eq, not_false_eq_true, FL.div_int, FL.wip, FL.fzs_steps, FL.isFzs_steps, FL.fz_step, FL.isFz_step, FL.thing_step, FL.fz_cart, FL.isFz_cart, FL.thing_cart, $ls,*])
  | `(tactic| push_cast) => `(tactic| simp only [FL.stN, FL.stNil, FL.stCons, FL.stTup, FL.spar, FL.bnd_ok, FL.bnd_err, FL.bnd_no, FL.opt_some, FL.opt_none, FL.cst, FL.bin, FL.un1, FL.tst, FL.asB, FL.tnot, FL.tand, FL.tor, FL.bval, FL.vand, FL.vor, FL.vnot, FL.vif, FL.vnil, FL.vcons, FL.vtup, FL.vlst, FL.fzE, FL.cb, FL.has, FL.mutM, FL.aug, FL.augN, FL.stS, FL.tyes, FL.isi, FL.isi2, FL.oso, FL.ono, FL.slL, FL.slS, FL.dg2, FL.opC, List.length_cons, List.length_nil, List.set_cons_zero, List.set_cons_succ, List.getElem?_cons_zero, List.getElem?_cons_succ, if_true, if_false, Bool.false_eq_true, reduceCtorEq, List.nil_append, List.cons_append, List.length_append, List.length_replicate, List.replicate_zero, List.replicate_succ, FL.fz_int, FL.fz_str, FL.fz_bl, FL.fz_non, FL.fz_un, FL.fz_tup, FL.fz_lst, FL.fzs_nil, FL.fzs_cons, FL.addA_int, FL.sub_int, FL.gt_int, FL.lt_int, FL.le_int, FL.ge_int, FL.lt_str', FL.gInt_int, FL.gInt_bl, FL.eqA_int, FL.neA_int, FL.mod_int, FL.thing_non, FL.thing_bl, FL.thing_int, FL.thing_str, FL.thing_tup, FL.thing_lst, FL.thing_dct, FL.opB_O, FL.opB1_some, FL.opB2_some, FL.rd_O, FL.mv_O, FL.cb_O, FL.rdO_some, FL.mvO_some, FL.cbO_some, FL.atI_0, FL.atI_1, FL.atI_2, FL.atI_3, FL.ixA_lst, FL.ixA_tup, FL.isFz_int, FL.isFz_str, FL.isFz_bl, FL.isFz_non, FL.isFz_tup, FL.isFz_lstF, FL.isFzs_nil, FL.isFzs_cons, FL.lenA_lst, FL.lenA_tup, FL.on1_eq, FL.ixAb_lst', FL.ixAb_tup', FL.fzs_mapS, FL.isFzs_mapS, FL.isFzs_mapI, FL.ixL_lst, FL.ixSet_eq, Option.bind_some, Option.bind_none, Option.map_some, Option.map_none, FL.fzs_mapI, Bool.and_true, Bool.true_and, FL.mulA_48271, FL.mulA_39373, FL.mulA_30011, FL.mulA_7919, FL.mulA_2, FL.mulA_3, FL.mod_2147483647, FL.mod_1000000007, FL.mod_998244353, FL.mod_26, FL.div_7, FL.tyP_lst, FL.tyP_tup, FL.gList_lst, FL.gList_tup, FL.gTuple_lst, decide_false, FL.tyM_lst, FL.gAppend_eq, FL.gInsert_eq, FL.minA_str, FL.maxA_str, FL.addA_str, FL.addA_lst, FL.fits_n0, FL.fits_n1, FL.fits_n2, FL.fits_n3, FL.fits_n4, FL.fits_n5, FL.fits_n6, FL.fits_n7, FL.fits_n8, FL.fits_n9, FL.fits_n10, FL.fits_n11, FL.fits_n12, FL.fits_n13, FL.fits_n14, FL.fits_n15, FL.fits_n16, FL.fits_n17, FL.fits_n18, FL.fits_n19, FL.fits_n20, FL.fits_n21, FL.fits_n22, FL.fits_n23, FL.fits_n24, FL.fits_n25, FL.fits_n26, FL.fits_n27, FL.fits_n28, FL.fits_n29, FL.fits_n30, FL.cal, FL.takes, FL.puts, FL.weave, FL.selL, Bool.or_true, Bool.true_or, and_true, true_and, decide_true, and_self, eq_self, ne_eq, not_false_eq_true, FL.div_int, FL.wip, FL.fzs_steps, FL.isFzs_steps, FL.fz_step, FL.isFz_step, FL.thing_step, FL.fz_cart, FL.isFz_cart, FL.thing_cart])
theorem atI_neg1 {α : Type} {xs : List α} {x : α} (h : xs[xs.length - 1]? = some x) : L2.atI xs (-1) = some x := by
  have l := (List.getElem?_eq_some_iff.mp h).1
  unfold L2.atI ixN
  rw [if_neg (by decide), if_pos (by omega)]
  have e : (-1 + (xs.length : Int)).toNat = xs.length - 1 := by omega
  rw [e]
  exact h
theorem row_ends_ok {o : Bool} {ss : List St3} {x y : St3} (h0 : ss[0]? = some x) (h1 : ss[ss.length - 1]? = some y) : F_row_ends [.lst o (ss.map stepP)] = .ok (.tup [.str (begS x), .str (endS y)], []) := by
  have e0 : L2.atI (ss.map stepP) 0 = some (stepP x) := atI_ofNat (j := 0) (by rw [List.getElem?_map, h0]; rfl)
  have e1 : L2.atI (ss.map stepP) (-1) = some (stepP y) := atI_neg1 (by rw [List.length_map, List.getElem?_map, h1]; rfl)
  refine runF_rt (τ' := [.lst o (ss.map stepP)]) (sret_ok ?_)
  push_cast [e0, e1, gNeg, begin_eq, end_eq] <;> rfl
/-! ### the first fixed cart -/
def FF (ss : List St3) (n : Nat) : Prop := (∃ s, ss[n]? = some s ∧ s.t = false) ∧ ∀ k s, k < n → ss[k]? = some s → s.t = true
def AllT (ss : List St3) : Prop := ∀ s ∈ ss, s.t = true
theorem FF.inj {ss : List St3} {n m : Nat} (h : FF ss n) (h' : FF ss m) : n = m := by
  obtain ⟨⟨s, a, b⟩, c⟩ := h
  obtain ⟨⟨s', a', b'⟩, c'⟩ := h'
  rcases Nat.lt_trichotomy n m with l | l | l
  · have := c' n s l a; rw [b] at this; cases this
  · exact l
  · have := c m s' l a'; rw [b'] at this; cases this
theorem FF.notAll {ss : List St3} {n : Nat} (h : FF ss n) : ¬ AllT ss := fun z => by
  obtain ⟨⟨s, a, b⟩, _⟩ := h
  have := z s (List.mem_of_getElem? a)
  rw [b] at this
  cases this
theorem pairs_at {ps : List PV} {done rest : List PV} {x : PV} (h : pairs (rng 0 ps.length) ps = done ++ x :: rest) : ∃ p, ps[done.length]? = some p ∧ x = .tup [.int (done.length : Nat), p] := by
  have e : (pairs (rng 0 ps.length) ps)[done.length]? = some x := by rw [h, List.getElem?_append_right (Nat.le_refl _), Nat.sub_self]; rfl
  unfold pairs at e
  rw [List.getElem?_map] at e
  obtain ⟨q, hq, rfl⟩ := Option.map_eq_some_iff.mp e
  obtain ⟨h1, h2⟩ := List.getElem?_zip_eq_some.mp hq
  refine ⟨q.2, h2, ?_⟩
  unfold rng at h1
  rw [List.getElem?_map] at h1
  obtain ⟨j, hj, e1⟩ := Option.map_eq_some_iff.mp h1
  obtain ⟨_, rfl⟩ := List.getElem?_eq_some_iff.mp hj
  rw [List.getElem_range] at e1
  rw [← e1, Int.zero_add]
theorem first_fixed_ok {o : Bool} {ss : List St3} : OK (F_first_fixed [.lst o (ss.map stepP)]) fun r => (r = (.non, []) ∧ AllT ss) ∨ ∃ n : Nat, r = (.int (n : Int), []) ∧ FF ss n := by
  refine OK_run (OK_seq (OK_for (xs := pairs (rng 0 (ss.map stepP).length) (ss.map stepP)) (τ1 := [.lst false (ss.map stepP), .un, .un, .un]) (fun done τ => ∃ a b c, τ = [.lst false (ss.map stepP), a, b, c] ∧ ∀ k s, k < done.length → ss[k]? = some s → s.t = true)
    (by push_cast [ienum] <;> rfl) ⟨_, _, _, rfl, fun k s h => by simp at h⟩ ?_ ?_))
  · rintro done x rest τ ex ⟨a, b, c, rfl, hd⟩
    obtain ⟨p, hp, rfl⟩ := pairs_at ex
    rw [List.getElem?_map] at hp
    obtain ⟨s, hs, rfl⟩ := Option.map_eq_some_iff.mp hp
    refine ⟨[.lst false (ss.map stepP), .int (done.length : Nat), cartP s, .bl s.u], rfl, ?_⟩
    refine OK_if (b := !s.t) (τ' := [.lst false (ss.map stepP), .int (done.length : Nat), cartP s, .bl s.u]) rfl (fun h => ?_) fun h => ?_
    · exact OK_ret (p := .int (done.length : Nat)) (by (push_cast <;> rfl)) (.inr ⟨done.length, rfl, ⟨s, hs, by simpa using h⟩, hd⟩)
    · refine OK_next ⟨_, _, _, rfl, fun k s' hk hs' => ?_⟩
      rw [List.length_append] at hk
      have hk : k < done.length + 1 := hk
      by_cases e : k < done.length
      · exact hd k s' e hs'
      · have : k = done.length := by omega
        subst this
        rw [hs] at hs'
        cases hs'
        simpa using h
  · rintro τ ⟨a, b, c, rfl, hd⟩
    refine sq_nx (OK_ret (by (push_cast <;> rfl)) (.inl ⟨rfl, fun s hs => ?_⟩))
    obtain ⟨k, hk⟩ := List.mem_iff_getElem?.mp hs
    refine hd k s ?_ hk
    have : (pairs (rng 0 (ss.map stepP).length) (ss.map stepP)).length = ss.length := by simp [pairs, rng_len]
    rw [this]
    exact (List.getElem?_eq_some_iff.mp hk).1
/-! ### turned about -/
def flip (s : St3) : St3 := { s with u := if s.a = s.b then s.u else !s.u }
theorem neA_str (a b : Str) : gEqA true (.str a) (.str b) = some (.bl (!decide (a = b))) := by
  have : decide (V.str a = V.str b) = decide (a = b) := by
    by_cases h : a = b
    · subst h; simp
    · simp [h]
  unfold gEqA orB gEqS sv scal
  simp [this]
theorem two_eq (s : St3) : F_has_two_steps [cartP s] = .ok (.bl (s.t && !decide (s.a = s.b)), []) := by
  obtain ⟨a, b, t, u⟩ := s
  refine runF_rt (τ' := [.tup [.str a, .str b, .bl t], .str a, .str b, .bl t]) (sseq_nx (τ' := [.tup [.str a, .str b, .bl t], .str a, .str b, .bl t]) rfl (sret_ok ?_))
  cases t with
  | false => rfl
  | true => push_cast [neA_str] <;> rfl
theorem about_eq {CF : Addr} {s : St3} (h : s.t = true) : F_about CF [stepP s] = .ok (stepP (flip s), []) := by
  have h2 := two_eq s
  obtain ⟨a, b, t, u⟩ := s
  cases h
  refine runF_rt (τ' := [stepP ⟨a, b, true, u⟩, cartP ⟨a, b, true, u⟩, .bl u]) (sseq_nx (τ' := [stepP ⟨a, b, true, u⟩, cartP ⟨a, b, true, u⟩, .bl u]) rfl (sseq_nx (τ' := [stepP ⟨a, b, true, u⟩, cartP ⟨a, b, true, u⟩, .bl u]) (sif_f rfl rfl) (sret_ok ?_)))
  unfold flip
  by_cases e : a = b
  · subst e
    have h3 : F_has_two_steps [cartP ⟨a, a, true, u⟩] = .ok (.bl false, []) := by rw [h2]; simp
    push_cast [h3, vif] <;> rfl
  · have h3 : F_has_two_steps [cartP ⟨a, b, true, u⟩] = .ok (.bl true, []) := by rw [h2]; simp [e]
    push_cast [h3, vif, e] <;> rfl
theorem row_about_ok {CF : Addr} {o : Bool} {ss : List St3} (h : AllT ss) (hl : ss.length ≤ 1000000) : F_row_about CF [.lst o (ss.map stepP)] = .ok (.lst true ((ss.reverse.map flip).map stepP), []) := by
  obtain ⟨_, hF, k⟩ := OK_ex (first_fixed_ok (o := false) (ss := ss))
  rcases k with ⟨rfl, _⟩ | ⟨n, rfl, hn⟩
  · have er : (ss.map stepP).reverse = ss.reverse.map stepP := List.map_reverse.symm
    obtain ⟨τ', h1, v, h2⟩ := lc_map (gg := stN 2) (e := cal [false] (F_about CF) [] (vcons (rd 2) vnil)) (vs := [2]) (f := ilst (revL (rd 0))) (xs := ss.reverse.map stepP) (τ := [.lst false (ss.map stepP), .non, .un]) (τ1 := [.lst false (ss.map stepP), .non, .un])
      (fun τ => ∃ v, τ = [.lst false (ss.map stepP), .non, v]) (fun p => match p with | .tup [.tup [.str a, .str b, .bl t], .bl u] => stepP (flip ⟨a, b, t, u⟩) | p => p)
      (by push_cast [ilst, revL, er] <;> rfl) (fits_of (by rw [List.length_map, List.length_reverse]; omega)) ⟨_, rfl⟩ fun x hx τ ⟨v, e⟩ => by
        obtain ⟨s, hs, rfl⟩ := List.mem_map.mp hx
        subst e
        have ha := about_eq (CF := CF) (h s (List.mem_reverse.mp hs))
        exact ⟨[.lst false (ss.map stepP), .non, stepP s], [.lst false (ss.map stepP), .non, stepP s], rfl, by push_cast [ha] <;> rfl, _, rfl⟩
    subst h2
    refine runF_rt (τ' := [.lst false (ss.map stepP), .non, .un]) (sseq_nx (τ' := [.lst false (ss.map stepP), .non, .un]) (sasg_ok (by (push_cast [hF] <;> rfl)) (by (push_cast <;> rfl))) (sseq_nx (τ' := [.lst false (ss.map stepP), .non, .un]) (sif_f rfl rfl) (sret_ok ?_)))
    rw [h1, List.map_map, List.map_map]
    rfl
  · exact absurd h hn.notAll
theorem row_about_err {CF : Addr} {o : Bool} {ss : List St3} {n : Nat} (h : FF ss n) : ∃ τ, F_row_about CF [.lst o (ss.map stepP)] = .err ⟨CF, ["index"], [.int (n : Int)]⟩ τ := by
  obtain ⟨_, hF, k⟩ := OK_ex (first_fixed_ok (o := false) (ss := ss))
  rcases k with ⟨rfl, z⟩ | ⟨n', rfl, hn⟩
  · exact absurd z h.notAll
  · have := hn.inj h
    subst this
    refine ⟨[.lst false (ss.map stepP), .int (n' : Int), .un], ?_⟩
    have e1 : sasg (cal [false] F_first_fixed [] (vcons (rd 0) vnil)) (stN 1) [.lst o (ss.map stepP), .un, .un] = .ok (.nx [.lst false (ss.map stepP), .int (n' : Int), .un]) := sasg_ok (by (push_cast [hF] <;> rfl)) (by (push_cast <;> rfl))
    unfold F_row_about runF b_row_about
    have e2 : ([PV.lst o (ss.map stepP)] ++ List.replicate (3 - [PV.lst o (ss.map stepP)].length) .un) = [.lst o (ss.map stepP), .un, .un] := rfl
    rw [e2]
    unfold sseq
    rw [e1]
    rfl
end FL

local macro_rules
  | `(tactic| push_cast [$ls,*] at $h:ident) => `(tactic| simp only [FL.stN, FL.stNil, FL.stCons, FL.stTup, FL.spar, FL.bnd_ok, FL.bnd_err, FL.bnd_no, FL.opt_some, FL.opt_none, FL.cst, FL.bin, FL.un1, FL.tst, FL.asB, FL.tnot, FL.tand, FL.tor, FL.bval, FL.vand, FL.vor, FL.vnot, FL.vif, FL.vnil, FL.vcons, FL.vtup, FL.vlst, FL.fzE, FL.cb, FL.has, FL.mutM, FL.aug, FL.augN, FL.stS, FL.tyes, FL.isi, FL.isi2, FL.oso, FL.ono, FL.slL, FL.slS, FL.dg2, FL.opC, List.length_cons, List.length_nil, List.set_cons_zero, List.set_cons_succ, List.getElem?_cons_zero, List.getElem?_cons_succ, if_true, if_false, Bool.false_eq_true, reduceCtorEq, List.nil_append, List.cons_append, List.length_append, List.length_replicate, List.replicate_zero, List.replicate_succ, FL.fz_int, FL.fz_str, FL.fz_bl, FL.fz_non, FL.fz_un, FL.fz_tup, FL.fz_lst, FL.fzs_nil, FL.fzs_cons, FL.addA_int, FL.sub_int, FL.gt_int, FL.lt_int, FL.le_int, FL.ge_int, FL.lt_str', FL.gInt_int, FL.gInt_bl, FL.eqA_int, FL.neA_int, FL.mod_int, FL.thing_non, FL.thing_bl, FL.thing_int, FL.thing_str, FL.thing_tup, FL.thing_lst, FL.thing_dct, FL.opB_O, FL.opB1_some, FL.opB2_some, FL.rd_O, FL.mv_O, FL.cb_O, FL.rdO_some, FL.mvO_some, FL.cbO_some, FL.atI_0, FL.atI_1, FL.atI_2, FL.atI_3, FL.ixA_lst, FL.ixA_tup, FL.isFz_int, FL.isFz_str, FL.isFz_bl, FL.isFz_non, FL.isFz_tup, FL.isFz_lstF, FL.isFzs_nil, FL.isFzs_cons, FL.lenA_lst, FL.lenA_tup, FL.on1_eq, FL.ixAb_lst', FL.ixAb_tup', FL.fzs_mapS, FL.isFzs_mapS, FL.isFzs_mapI, FL.ixL_lst, FL.ixSet_eq, Option.bind_some, Option.bind_none, Option.map_some, Option.map_none, FL.fzs_mapI, Bool.and_true, Bool.true_and, FL.mulA_48271, FL.mulA_39373, FL.mulA_30011, FL.mulA_7919, FL.mulA_2, FL.mulA_3, FL.mod_2147483647, FL.mod_1000000007, FL.mod_998244353, FL.mod_26, FL.div_7, FL.tyP_lst, FL.tyP_tup, FL.gList_lst, FL.gList_tup, FL.gTuple_lst, decide_false, FL.tyM_lst, FL.gAppend_eq, FL.gInsert_eq, FL.minA_str, FL.maxA_str, FL.addA_str, FL.addA_lst, FL.fits_n0, FL.fits_n1, FL.fits_n2, FL.fits_n3, FL.fits_n4, FL.fits_n5, FL.fits_n6, FL.fits_n7, FL.fits_n8, FL.fits_n9, FL.fits_n10, FL.fits_n11, FL.fits_n12, FL.fits_n13, FL.fits_n14, FL.fits_n15, FL.fits_n16, FL.fits_n17, FL.fits_n18, FL.fits_n19, FL.fits_n20, FL.fits_n21, FL.fits_n22, FL.fits_n23, FL.fits_n24, FL.fits_n25, FL.fits_n26, FL.fits_n27, FL.fits_n28, FL.fits_n29, FL.fits_n30, FL.cal, FL.takes, FL.puts, FL.weave, FL.selL, Bool.or_true, Bool.true_or, and_true, true_and, decide_true, and_self, eq_self, ne_eq, not_false_eq_true, FL.div_int, FL.wip, FL.fzs_steps, FL.isFzs_steps, FL.fz_step, FL.isFz_step, FL.thing_step, FL.fz_cart, FL.isFz_cart, FL.thing_cart, $ls,*] at $h:ident)
  | `(tactic| push_cast [$ls,*]) => `(tactic| simp only [FL.stN, FL.stNil, FL.stCons, FL.stTup, FL.spar, FL.bnd_ok, FL.bnd_err, FL.bnd_no, FL.opt_some, FL.opt_none, FL.cst, FL.bin, FL.un1, FL.tst, FL.asB, FL.tnot, FL.tand, FL.tor, FL.bval, FL.vand, FL.vor, FL.vnot, FL.vif, FL.vnil, FL.vcons, FL.vtup, FL.vlst, FL.fzE, FL.cb, FL.has, FL.mutM, FL.aug, FL.augN, FL.stS, FL.tyes, FL.isi, FL.isi2, FL.oso, FL.ono, FL.slL, FL.slS, FL.dg2, FL.opC, List.length_cons, List.length_nil, List.set_cons_zero, List.set_cons_succ, List.getElem?_cons_zero, List.getElem?_cons_succ, if_true, if_false, Bool.false_eq_true, reduceCtorEq, List.nil_append, List.cons_append, List.length_append, List.length_replicate, List.replicate_zero, List.replicate_succ, FL.fz_int, FL.fz_str, FL.fz_bl, FL.fz_non, FL.fz_un, FL.fz_tup, FL.fz_lst, FL.fzs_nil, FL.fzs_cons, FL.addA_int, FL.sub_int, FL.gt_int, FL.lt_int, FL.le_int, FL.ge_int, FL.lt_str', FL.gInt_int, FL.gInt_bl, FL.eqA_int, FL.neA_int, FL.mod_int, FL.thing_non, FL.thing_bl, FL.thing_int, FL.thing_str, FL.thing_tup, FL.thing_lst, FL.thing_dct, FL.opB_O, FL.opB1_some, FL.opB2_some, FL.rd_O, FL.mv_O, FL.cb_O, FL.rdO_some, FL.mvO_some, FL.cbO_some, FL.atI_0, FL.atI_1, FL.atI_2, FL.atI_3, FL.ixA_lst, FL.ixA_tup, FL.isFz_int, FL.isFz_str, FL.isFz_bl, FL.isFz_non, FL.isFz_tup, FL.isFz_lstF, FL.isFzs_nil, FL.isFzs_cons, FL.lenA_lst, FL.lenA_tup, FL.on1_eq, FL.ixAb_lst', FL.ixAb_tup', FL.fzs_mapS, FL.isFzs_mapS, FL.isFzs_mapI, FL.ixL_lst, FL.ixSet_eq, Option.bind_some, Option.bind_none, Option.map_some, Option.map_none, FL.fzs_mapI, Bool.and_true, Bool.true_and, FL.mulA_48271, FL.mulA_39373, FL.mulA_30011, FL.mulA_7919, FL.mulA_2, FL.mulA_3, FL.mod_2147483647, FL.mod_1000000007, FL.mod_998244353, FL.mod_26, FL.div_7, FL.tyP_lst, FL.tyP_tup, FL.gList_lst, FL.gList_tup, FL.gTuple_lst, decide_false, FL.tyM_lst, FL.gAppend_eq, FL.gInsert_eq, FL.minA_str, FL.maxA_str, FL.addA_str, FL.addA_lst, FL.fits_n0, FL.fits_n1, FL.fits_n2, FL.fits_n3, FL.fits_n4, FL.fits_n5, FL.fits_n6, FL.fits_n7, FL.fits_n8, FL.fits_n9, FL.fits_n10, FL.fits_n11, FL.fits_n12, FL.fits_n13, FL.fits_n14, FL.fits_n15, FL.fits_n16, FL.fits_n17, FL.fits_n18, FL.fits_n19, FL.fits_n20, FL.fits_n21, FL.fits_n22, FL.fits_n23, FL.fits_n24, FL.fits_n25, FL.fits_n26, FL.fits_n27, FL.fits_n28, FL.fits_n29, FL.fits_n30, FL.cal, FL.takes, FL.puts, FL.weave, FL.selL, Bool.or_true, Bool.true_or, and_true, true_and, decide_true, and_self, eq_self, ne_eq, not_false_eq_true, FL.div_int, FL.wip, FL.fzs_steps, FL.isFzs_steps, FL.fz_step, FL.isFz_step, FL.thing_step, FL.fz_cart, FL.isFz_cart, FL.thing_cart, $ls,*])
  | `(tactic| push_cast) => `(tactic| simp only [FL.stN, FL.stNil, FL.stCons, FL.stTup, FL.spar, FL.bnd_ok, FL.bnd_err, FL.bnd_no, FL.opt_some, FL.opt_none, FL.cst, FL.bin, FL.un1, FL.tst, FL.asB, FL.tnot, FL.tand, FL.tor, FL.bval, FL.vand, FL.vor, FL.vnot, FL.vif, FL.vnil, FL.vcons, FL.vtup, FL.vlst, FL.fzE, FL.cb, FL.has, FL.mutM, FL.aug, FL.augN, FL.stS, FL.tyes, FL.isi, FL.isi2, FL.oso, FL.ono, FL.slL, FL.slS, FL.dg2, FL.opC, List.length_cons, List.length_nil, List.set_cons_zero, List.set_cons_succ, List.getElem?_cons_zero, List.getElem?_cons_succ, if_true, if_false, Bool.false_eq_true, reduceCtorEq, List.nil_append, List.cons_append, List.length_append, List.length_replicate, List.replicate_zero, List.replicate_succ, FL.fz_int, FL.fz_str, FL.fz_bl, FL.fz_non, FL.fz_un, FL.fz_tup, FL.fz_lst, FL.fzs_nil, FL.fzs_cons, FL.addA_int, FL.sub_int, FL.gt_int, FL.lt_int, FL.le_int, FL.ge_int, FL.lt_str', FL.gInt_int, FL.gInt_bl, FL.eqA_int, FL.neA_int, FL.mod_int, FL.thing_non, FL.thing_bl, FL.thing_int, FL.thing_str, FL.thing_tup, FL.thing_lst, FL.thing_dct, FL.opB_O, FL.opB1_some, FL.opB2_some, FL.rd_O, FL.mv_O, FL.cb_O, FL.rdO_some, FL.mvO_some, FL.cbO_some, FL.atI_0, FL.atI_1, FL.atI_2, FL.atI_3, FL.ixA_lst, FL.ixA_tup, FL.isFz_int, FL.isFz_str, FL.isFz_bl, FL.isFz_non, FL.isFz_tup, FL.isFz_lstF, FL.isFzs_nil, FL.isFzs_cons, FL.lenA_lst, FL.lenA_tup, FL.on1_eq, FL.ixAb_lst', FL.ixAb_tup', FL.fzs_mapS, FL.isFzs_mapS, FL.isFzs_mapI, FL.ixL_lst, FL.ixSet_eq, Option.bind_some, Option.bind_none, Option.map_some, Option.map_none, FL.fzs_mapI, Bool.and_true, Bool.true_and, FL.mulA_48271, FL.mulA_39373, FL.mulA_30011, FL.mulA_7919, FL.mulA_2, FL.mulA_3, FL.mod_2147483647, FL.mod_1000000007, FL.mod_998244353, FL.mod_26, FL.div_7, FL.tyP_lst, FL.tyP_tup, FL.gList_lst, FL.gList_tup, FL.gTuple_lst, decide_false, FL.tyM_lst, FL.gAppend_eq, FL.gInsert_eq, FL.minA_str, FL.maxA_str, FL.addA_str, FL.addA_lst, FL.fits_n0, FL.fits_n1, FL.fits_n2, FL.fits_n3, FL.fits_n4, FL.fits_n5, FL.fits_n6, FL.fits_n7, FL.fits_n8, FL.fits_n9, FL.fits_n10, FL.fits_n11, FL.fits_n12, FL.fits_n13, FL.fits_n14, FL.fits_n15, FL.fits_n16, FL.fits_n17, FL.fits_n18, FL.fits_n19, FL.fits_n20, FL.fits_n21, FL.fits_n22, FL.fits_n23, FL.fits_n24, FL.fits_n25, FL.fits_n26, FL.fits_n27, FL.fits_n28, FL.fits_n29, FL.fits_n30, FL.cal, FL.takes, FL.puts, FL.weave, FL.selL, Bool.or_true, Bool.true_or, and_true, true_and, decide_true, and_self, eq_self, ne_eq, not_false_eq_true, FL.div_int, FL.wip, FL.fzs_steps, FL.isFzs_steps, FL.fz_step, FL.isFz_step, FL.thing_step, FL.fz_cart, FL.isFz_cart, FL.thing_cart])
namespace FL
open PySem PySem.Spec PyProof.Rows L2
open HK (SX SXs Asc)
theorem toDs_ints : ∀ is : List Int, toDs (is.map .int) = some (is.map .int)
  | [] => rfl
  | k :: ks => by rw [List.map_cons, toDs, toDs_ints ks]; rfl
theorem neA_nil (o o' : Bool) (is : List Int) (hs : SeqAt.shaped (.list (is.map PyData.int)) = true) : gEqA true (.lst o (is.map .int)) (.lst o' []) = some (.bl (!is.isEmpty)) := by
  unfold gEqA orB gEqS sv
  simp only
  unfold gEqD
  have e1 : toD (.lst o (is.map .int)) = some (.list (is.map .int)) := by rw [toD, toDs_ints]; rfl
  have e2 : toD (.lst o' []) = some (.list []) := rfl
  rw [e1, e2]
  simp only
  have e3 : SeqAt.shaped (.list []) = true := rfl
  rw [hs, e3]
  cases is <;> rfl
def Valid (ss : List St3) : Prop := ∀ s ∈ ss, s.u = true → s.a ≠ s.b
theorem due_step {s : St3} (h : s.u = true → s.a ≠ s.b) : (!s.u && !decide (s.a = s.b)) = (flip s).u := by
  unfold flip
  by_cases e : s.a = s.b
  · have : s.u = false := by
      cases hu : s.u with
      | false => rfl
      | true => exact absurd e (h hu)
    simp [e, this]
  · simp [e]
theorem lay_ints : ∀ is : List Int, PyData.canLayAll0 (is.map PyData.int) = true ∧ PyData.depthAll (is.map PyData.int) = 0
  | [] => ⟨rfl, by simp [PyData.depthAll]⟩
  | i :: is => by
    obtain ⟨a, b⟩ := lay_ints is
    simp only [List.map_cons, PyData.canLayAll0, PyData.canLay0, a, PyData.depthAll, PyData.depth, b]
    exact ⟨rfl, rfl⟩
theorem shaped_ints (is : List Int) : SeqAt.shaped (.list (is.map PyData.int)) = true := by
  obtain ⟨a, b⟩ := lay_ints is
  unfold SeqAt.shaped
  simp only [PyData.canLay0, a, PyData.depth, b]
  rfl
theorem due_fixed {o : Bool} {ss : List St3} (hl : ss.length ≤ 1000000) : ∃ (is : List Int) (v : PV), vlc (irng1 (vcons (cbB gLenA 0) vnil)) (stN 2) (tnot (tst (bin ixA (bin ixA (opB ixAb 0 (rd 2)) (cst (.int 0))) (cst (.int 2))))) (rd 2) [2] [.lst o (ss.map stepP), .un, .un, .un, .un] = .ok (.lst true (is.map .int), [.lst o (ss.map stepP), .un, .un, .un, .un]) ∧ (is = [] → AllT ss) ∧ ∀ i r, is = i :: r → ∃ n : Nat, i = n ∧ FF ss n := by
  obtain ⟨acc, τ', h1, is, v, e1, e2, li, h2, h3⟩ := lc_run (gg := stN 2) (t := tnot (tst (bin ixA (bin ixA (opB ixAb 0 (rd 2)) (cst (.int 0))) (cst (.int 2))))) (e := rd 2) (vs := [2]) (f := irng1 (vcons (cbB gLenA 0) vnil)) (xs := rng 0 ss.length) (τ := [.lst o (ss.map stepP), .un, .un, .un, .un]) (τ1 := [.lst o (ss.map stepP), .un, .un, .un, .un])
    (fun done τ acc => ∃ (is : List Int) (v : PV), τ = [.lst o (ss.map stepP), .un, v, .un, .un] ∧ acc = is.map .int ∧ is.length ≤ done.length ∧ (is = [] → ∀ k s, k < done.length → ss[k]? = some s → s.t = true) ∧ ∀ i r, is = i :: r → ∃ n : Nat, i = n ∧ FF ss n)
    (irng1_ok (j := ss.length) (by push_cast [List.length_map] <;> rfl) (by omega) (by omega)) ⟨[], _, rfl, rfl, Nat.le_refl _, fun _ k s h => by simp at h, fun i r h => nomatch h⟩ fun done x rest τ acc ex ⟨is, v, et, ea, li, h2, h3⟩ => by
      obtain ⟨rfl, hk⟩ := rng_at ex
      subst et ea
      have hs : ss[done.length]? = some ss[done.length] := List.getElem?_eq_getElem hk
      have hat : L2.atI (ss.map stepP) (done.length : Int) = some (stepP ss[done.length]) := atI_ofNat (by rw [List.getElem?_map, hs]; rfl)
      refine ⟨[.lst o (ss.map stepP), .un, .int (done.length : Nat), .un, .un], !ss[done.length].t, [.lst o (ss.map stepP), .un, .int (done.length : Nat), .un, .un], by rw [Int.zero_add]; rfl, ?_, fun hb => ?_, fun hb => ?_⟩
      · have c0 : ixA (stepP ss[done.length]) (.int 0) = some (cartP ss[done.length]) := rfl
        have c2 : ixA (cartP ss[done.length]) (.int 2) = some (.bl ss[done.length].t) := rfl
        push_cast [hat, c0, c2]
      · refine ⟨is, _, rfl, rfl, by rw [List.length_append]; omega, fun e k s hk' hs' => ?_, h3⟩
        rw [List.length_append] at hk'
        have hk' : k < done.length + 1 := hk'
        by_cases e' : k < done.length
        · exact h2 e k s e' hs'
        · have : k = done.length := by omega
          subst this
          rw [hs] at hs'
          cases hs'
          simpa using hb
      · refine ⟨.int (done.length : Nat), [.lst o (ss.map stepP), .un, .int (done.length : Nat), .un, .un], rfl, fits_of (by rw [List.length_map]; omega), is ++ [(done.length : Int)], _, rfl, by rw [List.map_append]; rfl, by simp; omega, fun e => by simp at e, fun i r e => ?_⟩
        cases is with
        | nil =>
          cases e
          exact ⟨done.length, rfl, ⟨_, hs, by simpa using hb⟩, fun k s hk' hs' => h2 rfl k s hk' hs'⟩
        | cons j js =>
          cases e
          exact h3 _ _ rfl
  subst e1 e2
  refine ⟨is, v, by rw [h1]; rfl, fun e s hs => ?_, h3⟩
  obtain ⟨k, hk⟩ := List.mem_iff_getElem?.mp hs
  exact h2 e k s (by rw [rng_len]; exact (List.getElem?_eq_some_iff.mp hk).1) hk
theorem due_told {ss : List St3} (hv : Valid ss) (hl : ss.length ≤ 1000000) (h : AllT ss) : F_l_due [.lst false (ss.map stepP)] = .ok (.tup [.str "told", .lst true ((ss.reverse.map flip).map stepP)], []) := by
  obtain ⟨is, v, h1, h2, h3⟩ := due_fixed (o := false) hl
  cases is with
  | cons i r =>
    obtain ⟨n, _, hn⟩ := h3 i r rfl
    exact absurd h hn.notAll
  | nil =>
    have er : (ss.map stepP).reverse = ss.reverse.map stepP := List.map_reverse.symm
    obtain ⟨τ', q1, v, v', q2⟩ := lc_map (gg := stTup 2 (stCons (stN 3) (stCons (stN 4) stNil))) (e := vtup (vcons (rd 3) (vcons (vand (vnot (rd 4)) (bin (gEqA true) (opB ixAb 3 (cst (.int 0))) (opB ixAb 3 (cst (.int 1))))) vnil))) (vs := [3, 4]) (f := ilst (revL (rd 0))) (xs := ss.reverse.map stepP) (τ := [.lst false (ss.map stepP), .lst false [], .un, .un, .un]) (τ1 := [.lst false (ss.map stepP), .lst false [], .un, .un, .un])
      (fun τ => ∃ v v', τ = [.lst false (ss.map stepP), .lst false [], .un, v, v']) (fun p => match p with | .tup [.tup [.str a, .str b, .bl t], .bl u] => stepP (flip ⟨a, b, t, u⟩) | p => p)
      (by push_cast [ilst, revL, er] <;> rfl) (fits_of (by rw [List.length_map, List.length_reverse]; omega)) ⟨_, _, rfl⟩ fun x hx τ ⟨v, v', e⟩ => by
        obtain ⟨s, hs, rfl⟩ := List.mem_map.mp hx
        subst e
        have hd := due_step (hv s (List.mem_reverse.mp hs))
        have c0 : ixAb (cartP s) (.int 0) = some (.str s.a) := rfl
        have c1 : ixAb (cartP s) (.int 1) = some (.str s.b) := rfl
        refine ⟨[.lst false (ss.map stepP), .lst false [], .un, cartP s, .bl s.u], [.lst false (ss.map stepP), .lst false [], .un, cartP s, .bl s.u], rfl, ?_, _, _, rfl⟩
        have e4 : stepP (flip s) = .tup [cartP s, .bl (!s.u && !decide (s.a = s.b))] := by rw [hd]; rfl
        show _ = Rs.ok (stepP (flip s), _)
        rw [e4]
        cases hu : s.u with
        | true => rfl
        | false =>
          have : opB ixAb 3 (cst (.int 0)) [.lst false (ss.map stepP), .lst false [], .un, cartP s, .bl false] = .ok (.str s.a, [.lst false (ss.map stepP), .lst false [], .un, cartP s, .bl false]) := rfl
          have h' : opB ixAb 3 (cst (.int 1)) [.lst false (ss.map stepP), .lst false [], .un, cartP s, .bl false] = .ok (.str s.b, [.lst false (ss.map stepP), .lst false [], .un, cartP s, .bl false]) := rfl
          simp only [vtup, vcons, vand, vnot, bin, rd_O, List.getElem?_cons_succ, List.getElem?_cons_zero, rdO_some, thing_cart, thing_bl, bnd_ok, fz_cart, fz_bl, List.set_cons_succ, List.set_cons_zero, asB, Bool.not_false, if_true, this, h', neA_str, opt_some, vnil] <;> rfl
    subst q2
    have hne : gEqA true (.lst false []) (.lst true []) = some (.bl false) := neA_nil false true [] (shaped_ints [])
    refine runF_rt (τ' := [.lst false (ss.map stepP), .lst false [], .un, .un, .un]) (sseq_nx (τ' := [.lst false (ss.map stepP), .lst true [], .un, .un, .un]) (sasg_ok h1 (by (push_cast <;> rfl))) (sseq_nx (τ' := [.lst false (ss.map stepP), .lst false [], .un, .un, .un]) (sif_f (by push_cast [List.map_nil, hne] <;> rfl) rfl) (sret_ok ?_)))
    simp only [vtup, vcons, cst, bnd_ok, q1, vnil, List.map_map] <;> rfl
theorem due_err {ss : List St3} {n : Nat} (hl : ss.length ≤ 1000000) (h : FF ss n) : F_l_due [.lst false (ss.map stepP)] = .ok (.tup [.str "fixed", .int (n : Int)], []) := by
  obtain ⟨is, v, h1, h2, h3⟩ := due_fixed (o := false) hl
  cases is with
  | nil => exact absurd (h2 rfl) h.notAll
  | cons i r =>
    obtain ⟨n', e, hn⟩ := h3 i r rfl
    have := hn.inj h
    subst this e
    have hne : gEqA true (.lst false (((n' : Int) :: r).map .int)) (.lst true []) = some (.bl true) := neA_nil false true ((n' : Int) :: r) (shaped_ints _)
    refine runF_rt (τ' := [.lst false (ss.map stepP), .lst false (((n' : Int) :: r).map .int), .un, .un, .un]) (sseq_nx (τ' := [.lst false (ss.map stepP), .lst true (((n' : Int) :: r).map .int), .un, .un, .un]) (sasg_ok h1 (by (push_cast <;> rfl))) (sseq_rt (sif_t (τ' := [.lst false (ss.map stepP), .lst false (((n' : Int) :: r).map .int), .un, .un, .un]) (by push_cast [hne] <;> rfl) (sret_ok ?_))))
    simp only [List.map_cons] <;> push_cast <;> rfl
end FL

namespace FL
open PySem PySem.Spec PyProof.Rows L2
open HK (SX SXs Asc)
/-! ### dicts whose keys are carts -/
abbrev Ck := Str × Str × Bool
def ckP (c : Ck) : PV := .tup [.str c.1, .str c.2.1, .bl c.2.2]
def ckOf (s : St3) : Ck := (s.a, s.b, s.t)
theorem cartP_ck (s : St3) : cartP s = ckP (ckOf s) := rfl
def entP (e : Ck × Int) : PV := .tup [ckP e.1, .int e.2]
def ckK (c : Ck) : NestedKey := .tup [.text c.1, .text c.2.1, .num (if c.2.2 = true then 1 else 0)]
theorem ck_key (c : Ck) : key? (ckP c) = some (ckK c) := rfl
theorem ckK_inj {c d : Ck} (h : ckK c = ckK d) : c = d := by
  obtain ⟨a, b, t⟩ := c
  obtain ⟨a', b', t'⟩ := d
  unfold ckK at h
  injection h with h
  injection h with h1 h
  injection h with h2 h
  injection h with h3 h
  injection h1 with h1
  injection h2 with h2
  injection h3 with h3
  subst h1 h2
  cases t <;> cases t' <;> first | rfl | (simp at h3)
theorem ck_kOf (c : Ck) : kOf (ckP c) = some (ckK c) := by
  unfold kOf
  show (match key? (ckP c) with | some k => if k.depth ≤ 8 then some k else none | none => none) = _
  rw [ck_key]
  simp only
  rw [if_pos]
  unfold ckK
  simp [NestedKey.depth, NestedKey.depthAll]
theorem ent_key (e : Ck × Int) : eKey (entP e) = some (ckK e.1) := rfl
def getC (es : List (Ck × Int)) (c : Ck) : Option Int := (es.find? fun e => decide (e.1 = c)).map (·.2)
def putE (es : List (Ck × Int)) (c : Ck) (n : Int) : List (Ck × Int) := if (getC es c).isSome = true then es.map fun e => if e.1 = c then (e.1, n) else e else es ++ [(c, n)]
theorem dget_ent (es : List (Ck × Int)) (c : Ck) : dget (es.map entP) (ckK c) = (getC es c).map .int := by
  unfold dget getC
  induction es with
  | nil => rfl
  | cons e es ih =>
    rw [List.map_cons]
    by_cases h : e.1 = c
    · rw [List.find?_cons_of_pos (by rw [ent_key, h]; simp), List.find?_cons_of_pos (by simp [h])]
      rfl
    · rw [List.find?_cons_of_neg (by rw [ent_key]; simp; exact fun z => h (ckK_inj z)), List.find?_cons_of_neg (by simp [h])]
      exact ih
theorem dput_ent (es : List (Ck × Int)) (c : Ck) (n : Int) : dput (es.map entP) (ckK c) (ckP c) (.int n) = (putE es c n).map entP := by
  unfold dput putE
  rw [dget_ent, Option.isSome_map]
  split
  · rw [List.map_map, List.map_map]
    refine List.map_congr_left fun e _ => ?_
    show (if eKey (entP e) = some (ckK c) then ePut (.int n) (entP e) else entP e) = entP (if e.1 = c then (e.1, n) else e)
    rw [ent_key]
    by_cases h : e.1 = c
    · rw [if_pos (by rw [h]), if_pos h]; rfl
    · rw [if_neg (fun z => h (ckK_inj (Option.some.inj z))), if_neg h]
  · rw [List.map_append]; rfl
/-- one more of a cart -/
def bump (es : List (Ck × Int)) (c : Ck) : List (Ck × Int) := putE es c ((getC es c).getD 0 + 1)
def tally (cs : List Ck) : List (Ck × Int) := cs.foldl bump []
theorem isFzs_ent (es : List (Ck × Int)) : isFzs (es.map entP) = true := isFzs_map (fun _ => rfl) es
theorem putE_len (es : List (Ck × Int)) (c : Ck) (n : Int) : (putE es c n).length ≤ es.length + 1 := by
  unfold putE
  split
  · rw [List.length_map]; omega
  · rw [List.length_append]; exact Nat.le_refl _
theorem getC_none {es : List (Ck × Int)} {c : Ck} (h : getC es c = none) : c ∉ es.map (·.1) := fun m => by
  unfold getC at h
  rw [Option.map_eq_none_iff, List.find?_eq_none] at h
  obtain ⟨e, he, q⟩ := List.mem_map.mp m
  exact h e he (by simp [q])
theorem putE_keys {es : List (Ck × Int)} {c : Ck} {n : Int} (nd : (es.map (·.1)).Nodup) : ((putE es c n).map (·.1)).Nodup := by
  unfold putE
  split
  · have : (es.map fun e => if e.1 = c then (e.1, n) else e).map (·.1) = es.map (·.1) := by
      rw [List.map_map]
      refine List.map_congr_left fun e _ => ?_
      show (if e.1 = c then (e.1, n) else e).1 = e.1
      split <;> rfl
    rw [this]
    exact nd
  · rename_i h
    have h : getC es c = none := by cases e : getC es c with
      | none => rfl
      | some v => rw [e] at h; exact absurd rfl h
    rw [List.map_append]
    refine List.nodup_append.mpr ⟨nd, by simp, fun a ha b hb e => ?_⟩
    rw [List.map_cons, List.map_nil, List.mem_singleton] at hb
    subst hb e
    exact getC_none h ha
/-- what a tally holds: numbers from 1 on, at most as many as were told -/
structure Tal (es : List (Ck × Int)) (n : Nat) : Prop where
  nd : (es.map (·.1)).Nodup
  num : ∀ e ∈ es, 1 ≤ e.2 ∧ e.2 ≤ n
  len : es.length ≤ n
theorem getC_mem {es : List (Ck × Int)} {c : Ck} {v : Int} (h : getC es c = some v) : (c, v) ∈ es := by
  unfold getC at h
  obtain ⟨e, he, rfl⟩ := Option.map_eq_some_iff.mp h
  have h1 := List.mem_of_find?_eq_some he
  have h2 := List.find?_some he
  have : e.1 = c := of_decide_eq_true h2
  subst this
  exact h1
theorem Tal.bump {es : List (Ck × Int)} {n : Nat} {c : Ck} (h : Tal es n) : Tal (bump es c) (n + 1) := by
  have hg : 1 ≤ (getC es c).getD 0 + 1 ∧ (getC es c).getD 0 + 1 ≤ ((n + 1 : Nat) : Int) := by
    cases e : getC es c with
    | none => simp; omega
    | some v =>
      have := h.num _ (getC_mem e)
      simp
      omega
  refine ⟨putE_keys h.nd, fun e he => ?_, Nat.le_trans (putE_len _ _ _) (Nat.succ_le_succ h.len)⟩
  unfold FL.bump putE at he
  split at he
  · obtain ⟨e', he', rfl⟩ := List.mem_map.mp he
    split
    · exact hg
    · have := h.num e' he'; omega
  · rcases List.mem_append.mp he with he | he
    · have := h.num e he; omega
    · cases List.mem_singleton.mp he
      exact hg
theorem tal_nil : Tal [] 0 := ⟨List.nodup_nil, fun e h => (List.not_mem_nil h).elim, Nat.le_refl _⟩
end FL

namespace FL
open PySem PySem.Spec PyProof.Rows L2
open PySem.W (dataLe keyToks keyToksAll)
open HK (SX SXs Asc)
theorem lex_app (O : KeyOrd) : ∀ (xs ys u v : List O.α), xs.length = ys.length → xs ≠ ys → lexLt O (xs ++ u) (ys ++ v) = lexLt O xs ys
  | [], [], _, _, _, h => absurd rfl h
  | [], _ :: _, _, _, l, _ => nomatch l
  | _ :: _, [], _, _, l, _ => nomatch l
  | x :: xs, y :: ys, u, v, l, h => by
    show (O.blt x y || (!O.blt y x && lexLt O (xs ++ u) (ys ++ v))) = (O.blt x y || (!O.blt y x && lexLt O xs ys))
    cases e1 : O.blt x y with
    | true => rfl
    | false =>
      cases e2 : O.blt y x with
      | true => rfl
      | false =>
        have exy : x = y := O.total _ _ e1 e2
        subst exy
        rw [lex_app O xs ys u v (Nat.succ.inj l) fun z => h (by rw [z])]
def ckD (c : Ck) : PyData := .tuple [.str c.1, .str c.2.1, .bool c.2.2]
def ckT (c : Ck) : List (Int ⊕ List Nat) := [.inl 1, .inr c.1.cps.toList, .inl 1, .inr c.2.1.cps.toList, .inl 1, .inl (if c.2.2 = true then 1 else 0), .inl 0]
theorem ck_d (c : Ck) : toD (ckP c) = some (ckD c) := rfl
theorem ent_d (e : Ck × Int) : toD (entP e) = some (.tuple [ckD e.1, .int e.2]) := rfl
theorem ck_toks (c : Ck) : keyToks (ckD c) = ckT c := by
  unfold ckD ckT
  simp [keyToks, keyToksAll]
theorem ent_toks (e : Ck × Int) : keyToks (.tuple [ckD e.1, .int e.2]) = .inl 1 :: (ckT e.1 ++ [.inl 1, .inl e.2, .inl 0]) := by
  simp [keyToks, keyToksAll, ck_toks]
theorem str_ext {a b : Str} (h : a.cps.toList = b.cps.toList) : a = b := by
  obtain ⟨a⟩ := a
  obtain ⟨b⟩ := b
  congr 1
  exact Array.ext' h
theorem ckT_inj {c d : Ck} (h : ckT c = ckT d) : c = d := by
  obtain ⟨a, b, t⟩ := c
  obtain ⟨a', b', t'⟩ := d
  unfold ckT at h
  simp only [List.cons.injEq, Sum.inr.injEq, Sum.inl.injEq, and_true, true_and] at h
  obtain ⟨h1, h2, h3⟩ := h
  have e1 := str_ext h1
  have e2 := str_ext h2
  subst e1 e2
  cases t <;> cases t' <;> first | rfl | (simp at h3)
/-- entries go as their keys go -/
theorem le_keys {e f : Ck × Int} (h : e.1 = f.1 → e = f) : leD (entP e) (entP f) = leD (ckP e.1) (ckP f.1) := by
  have r1 : dOf (entP e) = .tuple [ckD e.1, .int e.2] := rfl
  have r2 : dOf (entP f) = .tuple [ckD f.1, .int f.2] := rfl
  have r3 : dOf (ckP e.1) = ckD e.1 := rfl
  have r4 : dOf (ckP f.1) = ckD f.1 := rfl
  show (!(listOrd itemOrd).blt (keyToks (dOf (entP f))) (keyToks (dOf (entP e)))) = (!(listOrd itemOrd).blt (keyToks (dOf (ckP f.1))) (keyToks (dOf (ckP e.1))))
  rw [r1, r2, r3, r4, ent_toks, ent_toks, ck_toks, ck_toks]
  by_cases z : e.1 = f.1
  · have := h z
    subst this
    rw [(listOrd itemOrd).irrefl, (listOrd itemOrd).irrefl]
  · congr 1
    show lexLt itemOrd (.inl 1 :: (ckT f.1 ++ [.inl 1, .inl f.2, .inl 0])) (.inl 1 :: (ckT e.1 ++ [.inl 1, .inl e.2, .inl 0])) = lexLt itemOrd (ckT f.1) (ckT e.1)
    rw [show lexLt itemOrd (.inl 1 :: (ckT f.1 ++ [.inl 1, .inl f.2, .inl 0])) (.inl 1 :: (ckT e.1 ++ [.inl 1, .inl e.2, .inl 0])) = lexLt itemOrd (ckT f.1 ++ [.inl 1, .inl f.2, .inl 0]) (ckT e.1 ++ [.inl 1, .inl e.2, .inl 0]) from rfl]
    exact lex_app itemOrd _ _ _ _ rfl fun q => z (ckT_inj q).symm
/-- the entries in order -/
def SE (es : List (Ck × Int)) : List (Ck × Int) := es.mergeSort fun a b => leD (entP a) (entP b)
theorem sort_ents (es : List (Ck × Int)) : sortP (es.map entP) = (SE es).map entP :=
  (List.map_mergeSort (r := fun a b => leD (entP a) (entP b)) (s := leD) (f := entP) (l := es) (fun _ _ _ _ => rfl)).symm
theorem nd_eq {es : List (Ck × Int)} (nd : (es.map (·.1)).Nodup) {e f : Ck × Int} (he : e ∈ es) (hf : f ∈ es) (h : e.1 = f.1) : e = f := by
  obtain ⟨i, hi⟩ := List.mem_iff_getElem?.mp he
  obtain ⟨j, hj⟩ := List.mem_iff_getElem?.mp hf
  have h1 : (es.map (·.1))[i]? = some e.1 := by rw [List.getElem?_map, hi]; rfl
  have h2 : (es.map (·.1))[j]? = some f.1 := by rw [List.getElem?_map, hj]; rfl
  have l := (List.getElem?_eq_some_iff.mp h1).1
  have eij : i = j := (List.getElem?_inj (j := j) l nd).mp (by rw [h1, h2, h])
  subst eij
  rw [hi] at hj
  exact Option.some.inj hj
theorem sort_keys {es : List (Ck × Int)} (nd : (es.map (·.1)).Nodup) : sortP (es.map fun e => ckP e.1) = (SE es).map fun e => ckP e.1 :=
  (List.map_mergeSort (r := fun a b => leD (entP a) (entP b)) (s := leD) (f := fun e => ckP e.1) (l := es) (fun a ha b hb => le_keys fun h => nd_eq nd ha hb h)).symm
theorem SE_perm (es : List (Ck × Int)) : (SE es).Perm es := List.mergeSort_perm _ _
theorem toDs_ents : ∀ es : List (Ck × Int), toDs (es.map entP) = some (es.map fun e => .tuple [ckD e.1, .int e.2])
  | [] => rfl
  | e :: es => by rw [List.map_cons, toDs, toDs_ents es]; rfl
theorem toDs_cks : ∀ es : List (Ck × Int), toDs (es.map fun e => ckP e.1) = some (es.map fun e => ckD e.1)
  | [] => rfl
  | e :: es => by rw [List.map_cons, toDs, toDs_cks es]; rfl
theorem eK_ents (es : List (Ck × Int)) : (es.map entP).map eK = es.map fun e => ckP e.1 := by rw [List.map_map]; rfl
/-- sorted(d) of such a dict -/
theorem sortedD_ok {o : Bool} {es : List (Ck × Int)} (nd : (es.map (·.1)).Nodup) : gSortedD (.dct o true (es.map entP)) = some (.lst true ((SE es).map fun e => ckP e.1)) := by
  unfold gSortedD
  simp only [eK_ents, toDs_cks, sort_keys nd]
  rw [if_pos]
  simp only [Bool.and_eq_true]
  refine ⟨⟨?_, ?_⟩, ?_⟩
  · refine List.all_eq_true.mpr fun d hd => List.all_eq_true.mpr fun d' hd' => ?_
    obtain ⟨k, _, rfl⟩ := List.mem_map.mp hd
    obtain ⟨k', _, rfl⟩ := List.mem_map.mp hd'
    rfl
  · unfold sortB
    rw [Bool.or_eq_true]
    refine .inl (List.all_eq_true.mpr fun d hd => ?_)
    obtain ⟨k, _, rfl⟩ := List.mem_map.mp hd
    rfl
  · refine List.all_eq_true.mpr fun d hd => ?_
    obtain ⟨k, _, rfl⟩ := List.mem_map.mp hd
    exact decide_eq_true (by simp [ckD, PyData.depth, PyData.depthAll])
theorem srtB_ok {es : List (Ck × Int)} (nd : (es.map (·.1)).Nodup) : srtB (es.map entP) = true := by
  unfold srtB
  simp only [toDs_ents]
  simp only [Bool.and_eq_true]
  refine ⟨⟨⟨⟨⟨?_, ?_⟩, ?_⟩, isFzs_ent es⟩, ?_⟩, ?_⟩
  · refine List.all_eq_true.mpr fun d hd => List.all_eq_true.mpr fun d' hd' => ?_
    obtain ⟨k, _, rfl⟩ := List.mem_map.mp hd
    obtain ⟨k', _, rfl⟩ := List.mem_map.mp hd'
    rfl
  · unfold sortB
    rw [Bool.or_eq_true]
    refine .inl (List.all_eq_true.mpr fun d hd => ?_)
    obtain ⟨k, _, rfl⟩ := List.mem_map.mp hd
    rfl
  · refine List.all_eq_true.mpr fun d hd => ?_
    obtain ⟨k, _, rfl⟩ := List.mem_map.mp hd
    exact decide_eq_true (by simp [ckD, PyData.depth, PyData.depthAll])
  · refine List.all_eq_true.mpr fun d hd => ?_
    obtain ⟨k, _, rfl⟩ := List.mem_map.mp hd
    rfl
  · refine decide_eq_true ?_
    have : (es.map entP).map eKey = (es.map (·.1)).map fun c => some (ckK c) := by rw [List.map_map, List.map_map]; rfl
    rw [this]
    exact List.pairwise_map.mpr (nd.imp fun h z => h (ckK_inj (Option.some.inj z)))
end FL

namespace FL
open PySem PySem.Spec PyProof.Rows L2
open HK (SX SXs Asc)
theorem fz_ck (c : Ck) : fz (ckP c) = ckP c := rfl
theorem isFz_ck (c : Ck) : isFz (ckP c) = true := rfl
theorem thing_ck (c : Ck) : Thing (ckP c) = True := eq_true rfl
theorem kOf_ck (c : Ck) : kOf (ckP c) = some (ckK c) := ck_kOf c
theorem dget2_ent (o : Bool) (es : List (Ck × Int)) (c : Ck) : dget2 (.dct o true (es.map entP)) (ckP c) (.int 0) = some (.int ((getC es c).getD 0)) := by
  unfold dget2
  simp only [ck_kOf, dget_ent]
  cases getC es c <;> rfl
theorem dset_ent (es : List (Ck × Int)) (c : Ck) (n : Int) : dset (.dct true true (es.map entP)) (ckP c) (.int n) = if fits (es.length + 1) = true then some (.dct true true ((putE es c n).map entP)) else none := by
  unfold dset
  simp only [ck_kOf, fz_int, dput_ent, List.length_map]
local macro_rules
  | `(tactic| push_cast [$ls,*] at $h:ident) => `(tactic| simp only [FL.stN, FL.stNil, FL.stCons, FL.stTup, FL.spar, FL.bnd_ok, FL.bnd_err, FL.bnd_no, FL.opt_some, FL.opt_none, FL.cst, FL.bin, FL.un1, FL.tst, FL.asB, FL.tnot, FL.tand, FL.tor, FL.bval, FL.vand, FL.vor, FL.vnot, FL.vif, FL.vnil, FL.vcons, FL.vtup, FL.vlst, FL.fzE, FL.cb, FL.has, FL.mutM, FL.aug, FL.augN, FL.stS, FL.tyes, FL.isi, FL.isi2, FL.oso, FL.ono, FL.slL, FL.slS, FL.dg2, FL.opC, List.length_cons, List.length_nil, List.set_cons_zero, List.set_cons_succ, List.getElem?_cons_zero, List.getElem?_cons_succ, if_true, if_false, Bool.false_eq_true, reduceCtorEq, List.nil_append, List.cons_append, List.length_append, List.length_replicate, List.replicate_zero, List.replicate_succ, FL.fz_int, FL.fz_str, FL.fz_bl, FL.fz_non, FL.fz_un, FL.fz_tup, FL.fz_lst, FL.fzs_nil, FL.fzs_cons, FL.addA_int, FL.sub_int, FL.gt_int, FL.lt_int, FL.le_int, FL.ge_int, FL.lt_str', FL.gInt_int, FL.gInt_bl, FL.eqA_int, FL.neA_int, FL.mod_int, FL.thing_non, FL.thing_bl, FL.thing_int, FL.thing_str, FL.thing_tup, FL.thing_lst, FL.thing_dct, FL.opB_O, FL.opB1_some, FL.opB2_some, FL.rd_O, FL.mv_O, FL.cb_O, FL.rdO_some, FL.mvO_some, FL.cbO_some, FL.atI_0, FL.atI_1, FL.atI_2, FL.atI_3, FL.ixA_lst, FL.ixA_tup, FL.isFz_int, FL.isFz_str, FL.isFz_bl, FL.isFz_non, FL.isFz_tup, FL.isFz_lstF, FL.isFzs_nil, FL.isFzs_cons, FL.lenA_lst, FL.lenA_tup, FL.on1_eq, FL.ixAb_lst', FL.ixAb_tup', FL.fzs_mapS, FL.isFzs_mapS, FL.isFzs_mapI, FL.ixL_lst, FL.ixSet_eq, Option.bind_some, Option.bind_none, Option.map_some, Option.map_none, FL.fzs_mapI, Bool.and_true, Bool.true_and, FL.mulA_48271, FL.mulA_39373, FL.mulA_30011, FL.mulA_7919, FL.mulA_2, FL.mulA_3, FL.mod_2147483647, FL.mod_1000000007, FL.mod_998244353, FL.mod_26, FL.div_7, FL.tyP_lst, FL.tyP_tup, FL.gList_lst, FL.gList_tup, FL.gTuple_lst, decide_false, FL.tyM_lst, FL.gAppend_eq, FL.gInsert_eq, FL.minA_str, FL.maxA_str, FL.addA_str, FL.addA_lst, FL.fits_n0, FL.fits_n1, FL.fits_n2, FL.fits_n3, FL.fits_n4, FL.fits_n5, FL.fits_n6, FL.fits_n7, FL.fits_n8, FL.fits_n9, FL.fits_n10, FL.fits_n11, FL.fits_n12, FL.fits_n13, FL.fits_n14, FL.fits_n15, FL.fits_n16, FL.fits_n17, FL.fits_n18, FL.fits_n19, FL.fits_n20, FL.fits_n21, FL.fits_n22, FL.fits_n23, FL.fits_n24, FL.fits_n25, FL.fits_n26, FL.fits_n27, FL.fits_n28, FL.fits_n29, FL.fits_n30, FL.cal, FL.takes, FL.puts, FL.weave, FL.selL, Bool.or_true, Bool.true_or, and_true, true_and, decide_true, and_self, eq_self, ne_eq, not_false_eq_true, FL.div_int, FL.wip, FL.fzs_steps, FL.isFzs_steps, FL.fz_step, FL.isFz_step, FL.thing_step, FL.fz_cart, FL.isFz_cart, FL.thing_cart, FL.fz_ck, FL.isFz_ck, FL.thing_ck, FL.kOf_ck, FL.dget2_ent, FL.dset_ent, $ls,*] at $h:ident)
  | `(tactic| push_cast [$ls,*]) => `(tactic| simp only [FL.stN, FL.stNil, FL.stCons, FL.stTup, FL.spar, FL.bnd_ok, FL.bnd_err, FL.bnd_no, FL.opt_some, FL.opt_none, FL.cst, FL.bin, FL.un1, FL.tst, FL.asB, FL.tnot, FL.tand, FL.tor, FL.bval, FL.vand, FL.vor, FL.vnot, FL.vif, FL.vnil, FL.vcons, FL.vtup, FL.vlst, FL.fzE, FL.cb, FL.has, FL.mutM, FL.aug, FL.augN, FL.stS, FL.tyes, FL.isi, FL.isi2, FL.oso, FL.ono, FL.slL, FL.slS, FL.dg2, FL.opC, List.length_cons, List.length_nil, List.set_cons_zero, List.set_cons_succ, List.getElem?_cons_zero, List.getElem?_cons_succ, if_true, if_false, Bool.false_eq_true, reduceCtorEq, List.nil_append, List.cons_append, List.length_append, List.length_replicate, List.replicate_zero, List.replicate_succ, FL.fz_int, FL.fz_str, FL.fz_bl, FL.fz_non, FL.fz_un, FL.fz_tup, FL.fz_lst, FL.fzs_nil, FL.fzs_cons, FL.addA_int, FL.sub_int, FL.gt_int, FL.lt_int, FL.le_int, FL.ge_int, FL.lt_str', FL.gInt_int, FL.gInt_bl, FL.eqA_int, FL.neA_int, FL.mod_int, FL.thing_non, FL.thing_bl, FL.thing_int, FL.thing_str, FL.thing_tup, FL.thing_lst, FL.thing_dct, FL.opB_O, FL.opB1_some, FL.opB2_some, FL.rd_O, FL.mv_O, FL.cb_O, FL.rdO_some, FL.mvO_some, FL.cbO_some, FL.atI_0, FL.atI_1, FL.atI_2, FL.atI_3, FL.ixA_lst, FL.ixA_tup, FL.isFz_int, FL.isFz_str, FL.isFz_bl, FL.isFz_non, FL.isFz_tup, FL.isFz_lstF, FL.isFzs_nil, FL.isFzs_cons, FL.lenA_lst, FL.lenA_tup, FL.on1_eq, FL.ixAb_lst', FL.ixAb_tup', FL.fzs_mapS, FL.isFzs_mapS, FL.isFzs_mapI, FL.ixL_lst, FL.ixSet_eq, Option.bind_some, Option.bind_none, Option.map_some, Option.map_none, FL.fzs_mapI, Bool.and_true, Bool.true_and, FL.mulA_48271, FL.mulA_39373, FL.mulA_30011, FL.mulA_7919, FL.mulA_2, FL.mulA_3, FL.mod_2147483647, FL.mod_1000000007, FL.mod_998244353, FL.mod_26, FL.div_7, FL.tyP_lst, FL.tyP_tup, FL.gList_lst, FL.gList_tup, FL.gTuple_lst, decide_false, FL.tyM_lst, FL.gAppend_eq, FL.gInsert_eq, FL.minA_str, FL.maxA_str, FL.addA_str, FL.addA_lst, FL.fits_n0, FL.fits_n1, FL.fits_n2, FL.fits_n3, FL.fits_n4, FL.fits_n5, FL.fits_n6, FL.fits_n7, FL.fits_n8, FL.fits_n9, FL.fits_n10, FL.fits_n11, FL.fits_n12, FL.fits_n13, FL.fits_n14, FL.fits_n15, FL.fits_n16, FL.fits_n17, FL.fits_n18, FL.fits_n19, FL.fits_n20, FL.fits_n21, FL.fits_n22, FL.fits_n23, FL.fits_n24, FL.fits_n25, FL.fits_n26, FL.fits_n27, FL.fits_n28, FL.fits_n29, FL.fits_n30, FL.cal, FL.takes, FL.puts, FL.weave, FL.selL, Bool.or_true, Bool.true_or, and_true, true_and, decide_true, and_self, eq_self, ne_eq, not_false_eq_true, FL.div_int, FL.wip, FL.fzs_steps, FL.isFzs_steps, FL.fz_step, FL.isFz_step, FL.thing_step, FL.fz_cart, FL.isFz_cart, FL.thing_cart, FL.fz_ck, FL.isFz_ck, FL.thing_ck, FL.kOf_ck, FL.dget2_ent, FL.dset_ent, $ls,*])
  | `(tactic| push_cast) => `(tactic| simp only [FL.stN, FL.stNil, FL.stCons, FL.stTup, FL.spar, FL.bnd_ok, FL.bnd_err, FL.bnd_no, FL.opt_some, FL.opt_none, FL.cst, FL.bin, FL.un1, FL.tst, FL.asB, FL.tnot, FL.tand, FL.tor, FL.bval, FL.vand, FL.vor, FL.vnot, FL.vif, FL.vnil, FL.vcons, FL.vtup, FL.vlst, FL.fzE, FL.cb, FL.has, FL.mutM, FL.aug, FL.augN, FL.stS, FL.tyes, FL.isi, FL.isi2, FL.oso, FL.ono, FL.slL, FL.slS, FL.dg2, FL.opC, List.length_cons, List.length_nil, List.set_cons_zero, List.set_cons_succ, List.getElem?_cons_zero, List.getElem?_cons_succ, if_true, if_false, Bool.false_eq_true, reduceCtorEq, List.nil_append, List.cons_append, List.length_append, List.length_replicate, List.replicate_zero, List.replicate_succ, FL.fz_int, FL.fz_str, FL.fz_bl, FL.fz_non, FL.fz_un, FL.fz_tup, FL.fz_lst, FL.fzs_nil, FL.fzs_cons, FL.addA_int, FL.sub_int, FL.gt_int, FL.lt_int, FL.le_int, FL.ge_int, FL.lt_str', FL.gInt_int, FL.gInt_bl, FL.eqA_int, FL.neA_int, FL.mod_int, FL.thing_non, FL.thing_bl, FL.thing_int, FL.thing_str, FL.thing_tup, FL.thing_lst, FL.thing_dct, FL.opB_O, FL.opB1_some, FL.opB2_some, FL.rd_O, FL.mv_O, FL.cb_O, FL.rdO_some, FL.mvO_some, FL.cbO_some, FL.atI_0, FL.atI_1, FL.atI_2, FL.atI_3, FL.ixA_lst, FL.ixA_tup, FL.isFz_int, FL.isFz_str, FL.isFz_bl, FL.isFz_non, FL.isFz_tup, FL.isFz_lstF, FL.isFzs_nil, FL.isFzs_cons, FL.lenA_lst, FL.lenA_tup, FL.on1_eq, FL.ixAb_lst', FL.ixAb_tup', FL.fzs_mapS, FL.isFzs_mapS, FL.isFzs_mapI, FL.ixL_lst, FL.ixSet_eq, Option.bind_some, Option.bind_none, Option.map_some, Option.map_none, FL.fzs_mapI, Bool.and_true, Bool.true_and, FL.mulA_48271, FL.mulA_39373, FL.mulA_30011, FL.mulA_7919, FL.mulA_2, FL.mulA_3, FL.mod_2147483647, FL.mod_1000000007, FL.mod_998244353, FL.mod_26, FL.div_7, FL.tyP_lst, FL.tyP_tup, FL.gList_lst, FL.gList_tup, FL.gTuple_lst, decide_false, FL.tyM_lst, FL.gAppend_eq, FL.gInsert_eq, FL.minA_str, FL.maxA_str, FL.addA_str, FL.addA_lst, FL.fits_n0, FL.fits_n1, FL.fits_n2, FL.fits_n3, FL.fits_n4, FL.fits_n5, FL.fits_n6, FL.fits_n7, FL.fits_n8, FL.fits_n9, FL.fits_n10, FL.fits_n11, FL.fits_n12, FL.fits_n13, FL.fits_n14, FL.fits_n15, FL.fits_n16, FL.fits_n17, FL.fits_n18, FL.fits_n19, FL.fits_n20, FL.fits_n21, FL.fits_n22, FL.fits_n23, FL.fits_n24, FL.fits_n25, FL.fits_n26, FL.fits_n27, FL.fits_n28, FL.fits_n29, FL.fits_n30, FL.cal, FL.takes, FL.puts, FL.weave, FL.selL, Bool.or_true, Bool.true_or, and_true, true_and, decide_true, and_self, eq_self, ne_eq, not_false_eq_true, FL.div_int, FL.wip, FL.fzs_steps, FL.isFzs_steps, FL.fz_step, FL.isFz_step, FL.thing_step, FL.fz_cart, FL.isFz_cart, FL.thing_cart, FL.fz_ck, FL.isFz_ck, FL.thing_ck, FL.kOf_ck, FL.dget2_ent, FL.dset_ent])
theorem dget1_ent {o : Bool} {es : List (Ck × Int)} {c : Ck} {v : Int} (h : getC es c = some v) : dget1 (.dct o true (es.map entP)) (ckP c) = some (.int v) := by
  unfold dget1
  simp only [ck_kOf, dget_ent, h]
  rfl
theorem getC_of {es : List (Ck × Int)} (nd : (es.map (·.1)).Nodup) {e : Ck × Int} (he : e ∈ es) : getC es e.1 = some e.2 := by
  cases h : getC es e.1 with
  | none => exact absurd (List.mem_map.mpr ⟨e, he, rfl⟩) (getC_none h)
  | some v =>
    have := nd_eq nd (getC_mem h) he rfl
    rw [← this]
theorem tally_tal : ∀ cs : List Ck, Tal (tally cs) cs.length := by
  have go : ∀ (cs : List Ck) (es : List (Ck × Int)) (n : Nat), Tal es n → Tal (cs.foldl bump es) (n + cs.length) := by
    intro cs
    induction cs with
    | nil => intro es n h; exact h
    | cons c cs ih =>
      intro es n h
      have := ih (bump es c) (n + 1) h.bump
      rw [List.length_cons, ← Nat.add_assoc, Nat.add_right_comm]
      exact this
  intro cs
  have := go cs [] 0 tal_nil
  rwa [Nat.zero_add] at this
theorem tally_snoc (cs : List Ck) (c : Ck) : tally (cs ++ [c]) = bump (tally cs) c := by
  unfold tally
  rw [List.foldl_append]
  rfl
/-- a dict comprehension over its own keys -/
theorem dc_run {D : PV} {a b : PV} {es : List (Ck × Int)} (nd : (es.map (·.1)).Nodup) : ∀ (rest acc : List (Ck × Int)) (v : PV), ((acc ++ rest).map (·.1)).Nodup → (∀ e ∈ rest, e ∈ es) → (acc ++ rest).length ≤ 1000000 →
    ∃ w, dcF (stN 2) tyes (rd 2) (opB dget1 1 (rd 2)) [2] (rest.map fun e => ckP e.1) [a, .dct true true (es.map entP), v, b] (acc.map entP) = .ok ((acc ++ rest).map entP, [a, .dct true true (es.map entP), w, b])
  | [], acc, v, _, _, _ => ⟨.un, by rw [List.append_nil]; rfl⟩
  | e :: rest, acc, v, h, m, l => by
    have he := m e List.mem_cons_self
    have hg := dget1_ent (o := true) (getC_of nd he)
    have h1 : opB dget1 1 (rd 2) [a, .dct true true (es.map entP), ckP e.1, b] = .ok (.int e.2, [a, .dct true true (es.map entP), ckP e.1, b]) := by
      push_cast [hg]
    have hn : getC acc e.1 = none := by
      cases q : getC acc e.1 with
      | none => rfl
      | some u =>
        have hm := getC_mem q
        rw [List.map_append] at h
        obtain ⟨_, _, h3⟩ := List.nodup_append.mp h
        exact absurd rfl (h3 e.1 (List.mem_map.mpr ⟨_, hm, rfl⟩) e.1 (List.mem_map.mpr ⟨e, List.mem_cons_self, rfl⟩))
    have hp : putE acc e.1 e.2 = acc ++ [e] := by
      unfold putE
      rw [hn]
      rfl
    rw [List.length_append, List.length_cons] at l
    have hf : fits ((acc.map entP).length + 1) = true := fits_of (by rw [List.length_map]; omega)
    obtain ⟨w, hw⟩ := dc_run (D := D) (a := a) (b := b) nd rest (acc ++ [e]) (ckP e.1) (by rw [List.append_assoc]; exact h) (fun x hx => m x (List.mem_cons_of_mem _ hx)) (by rw [List.length_append, List.length_append]; simp; omega)
    refine ⟨w, ?_⟩
    rw [List.map_cons]
    unfold dcF
    have g1 : stN 2 (ckP e.1) (wip [a, .dct true true (es.map entP), v, b] [2]) = some [a, .dct true true (es.map entP), ckP e.1, b] := rfl
    have g2 : rd 2 [a, .dct true true (es.map entP), ckP e.1, b] = .ok (ckP e.1, [a, .dct true true (es.map entP), ckP e.1, b]) := by push_cast
    simp only [g1, tyes, g2, h1, ck_kOf, hf, if_true, fz_int, dput_ent, hp]
    rw [hw, List.append_assoc]
    rfl
theorem carts_in_ok {o : Bool} {ss : List St3} (hl : ss.length ≤ 1000000) : OK (F_carts_in [.lst o (ss.map stepP)]) fun r => r = (.dct true true ((SE (tally (ss.map ckOf))).map entP), []) := by
  refine OK_run (OK_seq (OK_asg (p := .dct true true []) (τ' := [.lst o (ss.map stepP), .dct true true [], .un, .un]) rfl rfl (sq_nx ?_)))
  refine OK_seq (OK_for (xs := ss.map stepP) (τ1 := [.lst false (ss.map stepP), .dct true true [], .un, .un]) (fun done τ => ∃ (ds : List St3) (a b : PV), done = ds.map stepP ∧ τ = [.lst false (ss.map stepP), .dct true true ((tally (ds.map ckOf)).map entP), a, b])
    (by push_cast [ilst] <;> rfl) ⟨[], _, _, rfl, rfl⟩ ?_ ?_)
  · rintro done x rest τ ex ⟨ds, a, b, rfl, rfl⟩
    have hx : x ∈ ss.map stepP := by rw [ex]; simp
    obtain ⟨s, hs, rfl⟩ := List.mem_map.mp hx
    have lt := congrArg List.length ex
    simp only [List.length_map, List.length_append, List.length_cons] at lt
    have T := (tally_tal (ds.map ckOf)).len
    rw [List.length_map] at T
    have hf : fits ((tally (ds.map ckOf)).length + 1) = true := fits_of (by omega)
    refine ⟨[.lst false (ss.map stepP), .dct true true ((tally (ds.map ckOf)).map entP), ckP (ckOf s), .bl s.u], rfl, ?_⟩
    refine OK_asg (p := .int ((getC (tally (ds.map ckOf)) (ckOf s)).getD 0 + 1)) (τ1 := [.lst false (ss.map stepP), .dct true true ((tally (ds.map ckOf)).map entP), ckP (ckOf s), .bl s.u]) (by push_cast) (τ' := [.lst false (ss.map stepP), .dct true true ((putE (tally (ds.map ckOf)) (ckOf s) ((getC (tally (ds.map ckOf)) (ckOf s)).getD 0 + 1)).map entP), ckP (ckOf s), .bl s.u]) (by push_cast [hf]) ⟨ds ++ [s], ckP (ckOf s), .bl s.u, by rw [List.map_append]; rfl, ?_⟩
    rw [List.map_append, List.map_cons, List.map_nil, tally_snoc]
    rfl
  · rintro τ ⟨ds, a, b, eds, rfl⟩
    have ess : ss.map ckOf = ds.map ckOf := by
      have := congrArg (List.map fun p => match p with | .tup [.tup [.str a, .str b, .bl t], _] => ((a, b, t) : Ck) | _ => ("", "", false)) eds
      rw [List.map_map, List.map_map] at this
      exact this
    rw [ess]
    have T := tally_tal (ds.map ckOf)
    have ll : ds.length = ss.length := by have := congrArg List.length eds; simpa using this.symm
    have T2 := T.len
    rw [List.length_map] at T2
    have pm := SE_perm (tally (ds.map ckOf))
    have nd2 : ((SE (tally (ds.map ckOf))).map (·.1)).Nodup := (pm.map _).nodup_iff.mpr T.nd
    obtain ⟨w, hw⟩ := dc_run (D := .un) (a := .lst false (ss.map stepP)) (b := b) T.nd (SE (tally (ds.map ckOf))) [] a nd2 (fun e he => pm.mem_iff.mp he) (by rw [List.nil_append, pm.length_eq]; omega)
    have hs := sortedD_ok (o := true) T.nd
    have fzk : fzs ((SE (tally (ds.map ckOf))).map fun e => ckP e.1) = (SE (tally (ds.map ckOf))).map fun e => ckP e.1 := fzs_of (isFzs_map (fun _ => rfl) _)
    refine sq_nx (OK_ret (p := .dct true true ((SE (tally (ds.map ckOf))).map entP)) (τ' := [.lst false (ss.map stepP), .dct true true ((tally (ds.map ckOf)).map entP), w, b]) ?_ rfl)
    unfold vdc
    have e1 : ilst (cbB gSortedD 1) [.lst false (ss.map stepP), .dct true true ((tally (ds.map ckOf)).map entP), a, b] = .ok ((SE (tally (ds.map ckOf))).map fun e => ckP e.1, [.lst false (ss.map stepP), .dct true true ((tally (ds.map ckOf)).map entP), a, b]) := by
      push_cast [ilst, hs, fzk]
    have e2 : dcF (stN 2) tyes (rd 2) (opB dget1 1 (rd 2)) [2] ((SE (tally (ds.map ckOf))).map fun e => ckP e.1) [.lst false (ss.map stepP), .dct true true ((tally (ds.map ckOf)).map entP), a, b] [] = .ok ((SE (tally (ds.map ckOf))).map entP, [.lst false (ss.map stepP), .dct true true ((tally (ds.map ckOf)).map entP), w, b]) := by
      have hw := hw
      rw [List.nil_append] at hw
      exact hw
    rw [e1]
    simp only [bnd_ok, e2]
/-! ### the law's own sum -/
theorem gneA_int {n : Int} (h : n ≠ 0) : gEqA true (.int n) (.int 0) = some (.bl true) := by rw [neA_int]; simp [h]
theorem added_ok {es : List (Ck × Int)} {c : Ck} {n : Nat} (T : Tal es n) (hl : n ≤ 1000000) : F_l_added [.dct true true (es.map entP), ckP c, .int 1] = .ok (.non, [.dct true true ((bump es c).map entP)]) := by
  have nz : (getC es c).getD 0 + 1 ≠ 0 := by
    cases e : getC es c with
    | none => simp
    | some v =>
      have := T.num _ (getC_mem e)
      simp
      omega
  have hf : fits (es.length + 1) = true := fits_of (by have := T.len; omega)
  have hne := gneA_int nz
  refine runF_nx (τ' := [.dct true true ((bump es c).map entP), ckP c, .int 1, .int ((getC es c).getD 0 + 1)]) (sseq_nx (τ' := [.dct true true (es.map entP), ckP c, .int 1, .int ((getC es c).getD 0 + 1)]) (sasg_ok (p := .int ((getC es c).getD 0 + 1)) (τ1 := [.dct true true (es.map entP), ckP c, .int 1, .un]) (by push_cast [List.cons_append, List.nil_append] <;> rfl) rfl) (sif_t (τ' := [.dct true true (es.map entP), ckP c, .int 1, .int ((getC es c).getD 0 + 1)]) (by push_cast [hne]) (sasg_ok (p := .int ((getC es c).getD 0 + 1)) (τ1 := [.dct true true (es.map entP), ckP c, .int 1, .int ((getC es c).getD 0 + 1)]) (by push_cast) ?_)))
  push_cast [hf]
  rfl
theorem carts_of_ok {o : Bool} {ss : List St3} (hl : ss.length ≤ 1000000) : OK (F_l_carts_of [.lst o [.tup [.int 1, .lst false (ss.map stepP)]]]) fun r => r = (.dct true true ((SE (tally (ss.map ckOf))).map entP), []) := by
  refine OK_run (OK_seq (OK_asg (p := .dct true true []) (τ' := [.lst o [.tup [.int 1, .lst false (ss.map stepP)]], .dct true true [], .un, .un, .un]) rfl rfl (sq_nx ?_)))
  have fzs0 : fzs [.tup [.int 1, .lst false (ss.map stepP)]] = [.tup [.int 1, .lst false (ss.map stepP)]] := by push_cast
  refine OK_seq (OK_for (xs := [.tup [.int 1, .lst false (ss.map stepP)]]) (τ1 := [.lst false [.tup [.int 1, .lst false (ss.map stepP)]], .dct true true [], .un, .un, .un]) (fun done τ => (done = [] ∧ τ = [.lst false [.tup [.int 1, .lst false (ss.map stepP)]], .dct true true [], .un, .un, .un]) ∨ (done ≠ [] ∧ ∃ a b c, τ = [.lst false [.tup [.int 1, .lst false (ss.map stepP)]], .dct true true ((tally (ss.map ckOf)).map entP), a, b, c]))
    (by push_cast [ilst]) (.inl ⟨rfl, rfl⟩) ?_ ?_)
  · rintro done x rest τ ex iv
    have dn : done = [] := by
      cases done with
      | nil => rfl
      | cons d ds => simp at ex
    subst dn
    rcases iv with ⟨_, rfl⟩ | ⟨h, _⟩
    · obtain ⟨rfl, _⟩ : x = .tup [.int 1, .lst false (ss.map stepP)] ∧ rest = [] := by simpa [eq_comm] using ex
      refine ⟨[.lst false [.tup [.int 1, .lst false (ss.map stepP)]], .dct true true [], .int 1, .lst false (ss.map stepP), .un], rfl, ?_⟩
      refine OK_for (xs := ss.map stepP) (τ1 := [.lst false [.tup [.int 1, .lst false (ss.map stepP)]], .dct true true [], .int 1, .lst false (ss.map stepP), .un]) (fun done τ => ∃ (ds : List St3) (a : PV), done = ds.map stepP ∧ τ = [.lst false [.tup [.int 1, .lst false (ss.map stepP)]], .dct true true ((tally (ds.map ckOf)).map entP), .int 1, .lst false (ss.map stepP), a])
        (by push_cast [ilst]) ⟨[], _, rfl, rfl⟩ ?_ ?_
      · rintro done x rest τ ex ⟨ds, a, rfl, rfl⟩
        have hx : x ∈ ss.map stepP := by rw [ex]; simp
        obtain ⟨s, hs, rfl⟩ := List.mem_map.mp hx
        have lt := congrArg List.length ex
        simp only [List.length_map, List.length_append, List.length_cons] at lt
        have T := tally_tal (ds.map ckOf)
        have ha := added_ok (c := ckOf s) T (by rw [List.length_map]; omega)
        refine ⟨[.lst false [.tup [.int 1, .lst false (ss.map stepP)]], .dct true true ((tally (ds.map ckOf)).map entP), .int 1, .lst false (ss.map stepP), stepP s], rfl, ?_⟩
        have c0 : ixAb (stepP s) (.int 0) = some (ckP (ckOf s)) := rfl
        have o4 : opB ixAb 4 (cst (.int 0)) [.lst false [.tup [.int 1, .lst false (ss.map stepP)]], .dct true true ((tally (ds.map ckOf)).map entP), .int 1, .lst false (ss.map stepP), stepP s] = .ok (ckP (ckOf s), [.lst false [.tup [.int 1, .lst false (ss.map stepP)]], .dct true true ((tally (ds.map ckOf)).map entP), .int 1, .lst false (ss.map stepP), stepP s]) := rfl
        refine OK_drop (p := .non) (τ' := [.lst false [.tup [.int 1, .lst false (ss.map stepP)]], .dct true true ((bump (tally (ds.map ckOf)) (ckOf s)).map entP), .int 1, .lst false (ss.map stepP), stepP s]) ?_ ⟨ds ++ [s], stepP s, by rw [List.map_append]; rfl, ?_⟩
        · push_cast [c0, ha]
        · rw [List.map_append, List.map_cons, List.map_nil, tally_snoc]
      · rintro τ ⟨ds, a, eds, rfl⟩
        refine .inr ⟨by simp, .int 1, .lst false (ss.map stepP), a, ?_⟩
        have ess : ss.map ckOf = ds.map ckOf := by
          have := congrArg (List.map fun p => match p with | .tup [.tup [.str a, .str b, .bl t], _] => ((a, b, t) : Ck) | _ => ("", "", false)) eds
          rw [List.map_map, List.map_map] at this
          exact this
        rw [ess]
    · exact absurd rfl h
  · rintro τ iv
    rcases iv with ⟨h, _⟩ | ⟨_, a, b, c, rfl⟩
    · cases h
    · have T := tally_tal (ss.map ckOf)
      have hs : F_l_sorted [.dct false true ((tally (ss.map ckOf)).map entP)] = .ok (.dct true true ((SE (tally (ss.map ckOf))).map entP), []) := by
        refine runF_rt (τ' := [.dct false true ((tally (ss.map ckOf)).map entP)]) (sret_ok ?_)
        have fe : fzs ((tally (ss.map ckOf)).map entP) = (tally (ss.map ckOf)).map entP := fzs_of (isFzs_ent _)
        have fd : fz (.dct false true ((tally (ss.map ckOf)).map entP)) = .dct false true ((tally (ss.map ckOf)).map entP) := congrArg (PV.dct false true) fe
        unfold dSort
        push_cast [List.cons_append, List.nil_append, fd, srtB_ok T.nd, sort_ents] <;> rfl
      have fe : fzs ((tally (ss.map ckOf)).map entP) = (tally (ss.map ckOf)).map entP := fzs_of (isFzs_ent _)
      have fd : fz (.dct true true ((tally (ss.map ckOf)).map entP)) = .dct false true ((tally (ss.map ckOf)).map entP) := congrArg (PV.dct false true) fe
      refine sq_nx (OK_ret (p := .dct true true ((SE (tally (ss.map ckOf))).map entP)) (τ' := [.lst false [.tup [.int 1, .lst false (ss.map stepP)]], .dct false true ((tally (ss.map ckOf)).map entP), a, b, c]) ?_ rfl)
      push_cast [fd, hs]
end FL

local macro_rules
  | `(tactic| push_cast [$ls,*] at $h:ident) => `(tactic| simp only [FL.stN, FL.stNil, FL.stCons, FL.stTup, FL.spar, FL.bnd_ok, FL.bnd_err, FL.bnd_no, FL.opt_some, FL.opt_none, FL.cst, FL.bin, FL.un1, FL.tst, FL.asB, FL.tnot, FL.tand, FL.tor, FL.bval, FL.vand, FL.vor, FL.vnot, FL.vif, FL.vnil, FL.vcons, FL.vtup, FL.vlst, FL.fzE, FL.cb, FL.has, FL.mutM, FL.aug, FL.augN, FL.stS, FL.tyes, FL.isi, FL.isi2, FL.oso, FL.ono, FL.slL, FL.slS, FL.dg2, FL.opC, List.length_cons, List.length_nil, List.set_cons_zero, List.set_cons_succ, List.getElem?_cons_zero, List.getElem?_cons_succ, if_true, if_false, Bool.false_eq_true, reduceCtorEq, List.nil_append, List.cons_append, List.length_append, List.length_replicate, List.replicate_zero, List.replicate_succ, FL.fz_int, FL.fz_str, FL.fz_bl, FL.fz_non, FL.fz_un, FL.fz_tup, FL.fz_lst, FL.fzs_nil, FL.fzs_cons, FL.addA_int, FL.sub_int, FL.gt_int, FL.lt_int, FL.le_int, FL.ge_int, FL.lt_str', FL.gInt_int, FL.gInt_bl, FL.eqA_int, FL.neA_int, FL.mod_int, FL.thing_non, FL.thing_bl, FL.thing_int, FL.thing_str, FL.thing_tup, FL.thing_lst, FL.thing_dct, FL.opB_O, FL.opB1_some, FL.opB2_some, FL.rd_O, FL.mv_O, FL.cb_O, FL.rdO_some, FL.mvO_some, FL.cbO_some, FL.atI_0, FL.atI_1, FL.atI_2, FL.atI_3, FL.ixA_lst, FL.ixA_tup, FL.isFz_int, FL.isFz_str, FL.isFz_bl, FL.isFz_non, FL.isFz_tup, FL.isFz_lstF, FL.isFzs_nil, FL.isFzs_cons, FL.lenA_lst, FL.lenA_tup, FL.on1_eq, FL.ixAb_lst', FL.ixAb_tup', FL.fzs_mapS, FL.isFzs_mapS, FL.isFzs_mapI, FL.ixL_lst, FL.ixSet_eq, Option.bind_some, Option.bind_none, Option.map_some, Option.map_none, FL.fzs_mapI, Bool.and_true, Bool.true_and, FL.mulA_48271, FL.mulA_39373, FL.mulA_30011, FL.mulA_7919, FL.mulA_2, FL.mulA_3, FL.mod_2147483647, FL.mod_1000000007, FL.mod_998244353, FL.mod_26, FL.div_7, FL.tyP_lst, FL.tyP_tup, FL.gList_lst, FL.gList_tup, FL.gTuple_lst, decide_false, FL.tyM_lst, FL.gAppend_eq, FL.gInsert_eq, FL.minA_str, FL.maxA_str, FL.addA_str, FL.addA_lst, FL.fits_n0, FL.fits_n1, FL.fits_n2, FL.fits_n3, FL.fits_n4, FL.fits_n5, FL.fits_n6, FL.fits_n7, FL.fits_n8, FL.fits_n9, FL.fits_n10, FL.fits_n11, FL.fits_n12, FL.fits_n13, FL.fits_n14, FL.fits_n15, FL.fits_n16, FL.fits_n17, FL.fits_n18, FL.fits_n19, FL.fits_n20, FL.fits_n21, FL.fits_n22, FL.fits_n23, FL.fits_n24, FL.fits_n25, FL.fits_n26, FL.fits_n27, FL.fits_n28, FL.fits_n29, FL.fits_n30, FL.cal, FL.takes, FL.puts, FL.weave, FL.selL, Bool.or_true, Bool.true_or, and_true, true_and, decide_true, and_self, eq_self, ne_eq, not_false_eq_true, FL.div_int, FL.wip, FL.fzs_steps, FL.isFzs_steps, FL.fz_step, FL.isFz_step, FL.thing_step, FL.fz_cart, FL.isFz_cart, FL.thing_cart, FL.fz_ck, FL.isFz_ck, FL.thing_ck, FL.kOf_ck, FL.dget2_ent, FL.dset_ent, $ls,*] at $h:ident)
  | `(tactic| push_cast [$ls,*]) => `(tactic| simp only [FL.stN, FL.stNil, FL.stCons, FL.stTup, FL.spar, FL.bnd_ok, FL.bnd_err, FL.bnd_no, FL.opt_some, FL.opt_none, FL.cst, FL.bin, FL.un1, FL.tst, FL.asB, FL.tnot, FL.tand, FL.tor, FL.bval, FL.vand, FL.vor, FL.vnot, FL.vif, FL.vnil, FL.vcons, FL.vtup, FL.vlst, FL.fzE, FL.cb, FL.has, FL.mutM, FL.aug, FL.augN, FL.stS, FL.tyes, FL.isi, FL.isi2, FL.oso, FL.ono, FL.slL, FL.slS, FL.dg2, FL.opC, List.length_cons, List.length_nil, List.set_cons_zero, List.set_cons_succ, List.getElem?_cons_zero, List.getElem?_cons_succ, if_true, if_false, Bool.false_eq_true, reduceCtorEq, List.nil_append, List.cons_append, List.length_append, List.length_replicate, List.replicate_zero, List.replicate_succ, FL.fz_int, FL.fz_str, FL.fz_bl, FL.fz_non, FL.fz_un, FL.fz_tup, FL.fz_lst, FL.fzs_nil, FL.fzs_cons, FL.addA_int, FL.sub_int, FL.gt_int, FL.lt_int, FL.le_int, FL.ge_int, FL.lt_str', FL.gInt_int, FL.gInt_bl, FL.eqA_int, FL.neA_int, FL.mod_int, FL.thing_non, FL.thing_bl, FL.thing_int, FL.thing_str, FL.thing_tup, FL.thing_lst, FL.thing_dct, FL.opB_O, FL.opB1_some, FL.opB2_some, FL.rd_O, FL.mv_O, FL.cb_O, FL.rdO_some, FL.mvO_some, FL.cbO_some, FL.atI_0, FL.atI_1, FL.atI_2, FL.atI_3, FL.ixA_lst, FL.ixA_tup, FL.isFz_int, FL.isFz_str, FL.isFz_bl, FL.isFz_non, FL.isFz_tup, FL.isFz_lstF, FL.isFzs_nil, FL.isFzs_cons, FL.lenA_lst, FL.lenA_tup, FL.on1_eq, FL.ixAb_lst', FL.ixAb_tup', FL.fzs_mapS, FL.isFzs_mapS, FL.isFzs_mapI, FL.ixL_lst, FL.ixSet_eq, Option.bind_some, Option.bind_none, Option.map_some, Option.map_none, FL.fzs_mapI, Bool.and_true, Bool.true_and, FL.mulA_48271, FL.mulA_39373, FL.mulA_30011, FL.mulA_7919, FL.mulA_2, FL.mulA_3, FL.mod_2147483647, FL.mod_1000000007, FL.mod_998244353, FL.mod_26, FL.div_7, FL.tyP_lst, FL.tyP_tup, FL.gList_lst, FL.gList_tup, FL.gTuple_lst, decide_false, FL.tyM_lst, FL.gAppend_eq, FL.gInsert_eq, FL.minA_str, FL.maxA_str, FL.addA_str, FL.addA_lst, FL.fits_n0, FL.fits_n1, FL.fits_n2, FL.fits_n3, FL.fits_n4, FL.fits_n5, FL.fits_n6, FL.fits_n7, FL.fits_n8, FL.fits_n9, FL.fits_n10, FL.fits_n11, FL.fits_n12, FL.fits_n13, FL.fits_n14, FL.fits_n15, FL.fits_n16, FL.fits_n17, FL.fits_n18, FL.fits_n19, FL.fits_n20, FL.fits_n21, FL.fits_n22, FL.fits_n23, FL.fits_n24, FL.fits_n25, FL.fits_n26, FL.fits_n27, FL.fits_n28, FL.fits_n29, FL.fits_n30, FL.cal, FL.takes, FL.puts, FL.weave, FL.selL, Bool.or_true, Bool.true_or, and_true, true_and, decide_true, and_self, eq_self, ne_eq, not_false_eq_true, FL.div_int, FL.wip, FL.fzs_steps, FL.isFzs_steps, FL.fz_step, FL.isFz_step, FL.thing_step, FL.fz_cart, FL.isFz_cart, FL.thing_cart, FL.fz_ck, FL.isFz_ck, FL.thing_ck, FL.kOf_ck, FL.dget2_ent, FL.dset_ent, $ls,*])
  | `(tactic| push_cast) => `(tactic| simp only [FL.stN, FL.stNil, FL.stCons, FL.stTup, FL.spar, FL.bnd_ok, FL.bnd_err, FL.bnd_no, FL.opt_some, FL.opt_none, FL.cst, FL.bin, FL.un1, FL.tst, FL.asB, FL.tnot, FL.tand, FL.tor, FL.bval, FL.vand, FL.vor, FL.vnot, FL.vif, FL.vnil, FL.vcons, FL.vtup, FL.vlst, FL.fzE, FL.cb, FL.has, FL.mutM, FL.aug, FL.augN, FL.stS, FL.tyes, FL.isi, FL.isi2, FL.oso, FL.ono, FL.slL, FL.slS, FL.dg2, FL.opC, List.length_cons, List.length_nil, List.set_cons_zero, List.set_cons_succ, List.getElem?_cons_zero, List.getElem?_cons_succ, if_true, if_false, Bool.false_eq_true, reduceCtorEq, List.nil_append, List.cons_append, List.length_append, List.length_replicate, List.replicate_zero, List.replicate_succ, FL.fz_int, FL.fz_str, FL.fz_bl, FL.fz_non, FL.fz_un, FL.fz_tup, FL.fz_lst, FL.fzs_nil, FL.fzs_cons, FL.addA_int, FL.sub_int, FL.gt_int, FL.lt_int, FL.le_int, FL.ge_int, FL.lt_str', FL.gInt_int, FL.gInt_bl, FL.eqA_int, FL.neA_int, FL.mod_int, FL.thing_non, FL.thing_bl, FL.thing_int, FL.thing_str, FL.thing_tup, FL.thing_lst, FL.thing_dct, FL.opB_O, FL.opB1_some, FL.opB2_some, FL.rd_O, FL.mv_O, FL.cb_O, FL.rdO_some, FL.mvO_some, FL.cbO_some, FL.atI_0, FL.atI_1, FL.atI_2, FL.atI_3, FL.ixA_lst, FL.ixA_tup, FL.isFz_int, FL.isFz_str, FL.isFz_bl, FL.isFz_non, FL.isFz_tup, FL.isFz_lstF, FL.isFzs_nil, FL.isFzs_cons, FL.lenA_lst, FL.lenA_tup, FL.on1_eq, FL.ixAb_lst', FL.ixAb_tup', FL.fzs_mapS, FL.isFzs_mapS, FL.isFzs_mapI, FL.ixL_lst, FL.ixSet_eq, Option.bind_some, Option.bind_none, Option.map_some, Option.map_none, FL.fzs_mapI, Bool.and_true, Bool.true_and, FL.mulA_48271, FL.mulA_39373, FL.mulA_30011, FL.mulA_7919, FL.mulA_2, FL.mulA_3, FL.mod_2147483647, FL.mod_1000000007, FL.mod_998244353, FL.mod_26, FL.div_7, FL.tyP_lst, FL.tyP_tup, FL.gList_lst, FL.gList_tup, FL.gTuple_lst, decide_false, FL.tyM_lst, FL.gAppend_eq, FL.gInsert_eq, FL.minA_str, FL.maxA_str, FL.addA_str, FL.addA_lst, FL.fits_n0, FL.fits_n1, FL.fits_n2, FL.fits_n3, FL.fits_n4, FL.fits_n5, FL.fits_n6, FL.fits_n7, FL.fits_n8, FL.fits_n9, FL.fits_n10, FL.fits_n11, FL.fits_n12, FL.fits_n13, FL.fits_n14, FL.fits_n15, FL.fits_n16, FL.fits_n17, FL.fits_n18, FL.fits_n19, FL.fits_n20, FL.fits_n21, FL.fits_n22, FL.fits_n23, FL.fits_n24, FL.fits_n25, FL.fits_n26, FL.fits_n27, FL.fits_n28, FL.fits_n29, FL.fits_n30, FL.cal, FL.takes, FL.puts, FL.weave, FL.selL, Bool.or_true, Bool.true_or, and_true, true_and, decide_true, and_self, eq_self, ne_eq, not_false_eq_true, FL.div_int, FL.wip, FL.fzs_steps, FL.isFzs_steps, FL.fz_step, FL.isFz_step, FL.thing_step, FL.fz_cart, FL.isFz_cart, FL.thing_cart, FL.fz_ck, FL.isFz_ck, FL.thing_ck, FL.kOf_ck, FL.dget2_ent, FL.dset_ent])
namespace FL
open PySem PySem.Spec PyProof.Rows L2
open HK (SX SXs Asc Sm SmA Sh Tells)
/-! ### steps as data -/
def stD (s : St3) : PyData := .tuple [.tuple [.str s.a, .str s.b, .bool s.t], .bool s.u]
def entD (e : Ck × Int) : PyData := .tuple [ckD e.1, .int e.2]
theorem toDs_mapG {α : Type} {f : α → PV} {g : α → PyData} (h : ∀ a, toD (f a) = some (g a)) : ∀ xs : List α, toDs (xs.map f) = some (xs.map g)
  | [] => rfl
  | x :: xs => by rw [List.map_cons, toDs, h, toDs_mapG h xs]; rfl
theorem st_d (s : St3) : toD (stepP s) = some (stD s) := rfl
theorem stepsP_d (o : Bool) (ss : List St3) : toD (.lst o (ss.map stepP)) = some (.list (ss.map stD)) := by rw [toD, toDs_mapG st_d]; rfl
theorem entsP_d (o : Bool) (es : List (Ck × Int)) : toD (.lst o (es.map entP)) = some (.list (es.map entD)) := by rw [toD, toDs_mapG (g := entD) ent_d]; rfl
mutual
theorem toD_fz : ∀ p, toD (fz p) = toD p
  | .un => rfl
  | .non => rfl
  | .bl _ => rfl
  | .int _ => rfl
  | .str _ => rfl
  | .tup ps => by rw [fz, toD, toD, toDs_fzs ps]
  | .lst _ ps => by rw [fz, toD, toD, toDs_fzs ps]
  | .dct _ _ es => rfl
  | .ins _ _ ps => rfl
  | .exc _ _ _ ps => rfl
theorem toDs_fzs : ∀ ps, toDs (fzs ps) = toDs ps
  | [] => rfl
  | p :: ps => by rw [fzs, toDs, toDs, toD_fz p, toDs_fzs ps]
end
/-! ### room -/
theorem sm_int {i : Int} (h : i.natAbs < 10 ^ 39) : Sm (.int i) 130 0 := ⟨rfl, (SX.int h).sh, (SX.int h).ok, (SX.int h).w, (SX.int h).dp⟩
theorem smA_map {α : Type} {f : α → PyData} {n m : Nat} : ∀ {xs : List α}, (∀ x ∈ xs, Sm (f x) n m) → SmA (xs.map f) ((n + 1) * xs.length) m
  | [], _ => ⟨rfl, rfl, rfl, Nat.le_refl _, Nat.zero_le _⟩
  | x :: xs, h => ((SmA.cons (h x List.mem_cons_self) (smA_map fun y hy => h y (List.mem_cons_of_mem _ hy))).mono (by rw [List.length_cons, Nat.mul_succ]; omega) (by omega))
theorem kind_sm {x : Str} (h : KindOK x) : Sm (.str x) 8 0 := Sm.str ⟨h.2, h.1.ok⟩
theorem st_sm {s : St3} (h : s.ok) : Sm (stD s) 22 2 := by
  have c : Sm (.tuple [.str s.a, .str s.b, .bool s.t]) 19 1 := Sm.tuple ((SmA.cons (kind_sm h.1) (SmA.cons (kind_sm h.2) (SmA.cons (Sm.bool s.t) SmA.nil))).mono (by omega) (by omega))
  exact (Sm.tuple ((SmA.cons c (SmA.cons (Sm.bool s.u) SmA.nil)).mono (m := 22) (j := 1) (by omega) (by omega)))
theorem ent_sm {e : Ck × Int} (h1 : KindOK e.1.1) (h2 : KindOK e.1.2.1) (h3 : e.2.natAbs < 10 ^ 39) : Sm (entD e) 151 2 := by
  have c : Sm (ckD e.1) 19 1 := Sm.tuple ((SmA.cons (kind_sm h1) (SmA.cons (kind_sm h2) (SmA.cons (Sm.bool e.1.2.2) SmA.nil))).mono (by omega) (by omega))
  exact (Sm.tuple ((SmA.cons c (SmA.cons (sm_int h3) SmA.nil)).mono (m := 151) (j := 1) (by omega) (by omega)))
/-! ### what is alike -/
theorem repr_of {p : PV} {d : PyData} {n m : Nat} (h : toD p = some d) (s : Sm d n m) (a : n ≤ 300000) (c : m ≤ 60) : gRepr p = some (.str d.shown) := by
  obtain ⟨t1, t2, t3, t4⟩ := s.tells a c
  unfold gRepr
  rw [toX_of h]
  simp only
  rw [if_pos]
  unfold txB
  rw [sizeLine_eq] at t3
  simp only [Bool.and_eq_true, decide_eq_true_eq]
  exact ⟨⟨t1, decide_eq_true t3⟩, t4⟩
theorem eqD_of {p q : PV} {d : PyData} {n m : Nat} (h : toD p = some d) (h' : toD q = some d) (s : Sm d n m) (c : m ≤ 60) : gEqD false p q = some (.bl true) := by
  unfold gEqD
  rw [h, h']
  simp only [s.shaped c, Bool.and_self, if_true]
  rw [SeqAt.eqv_refl d s.lay]
  rfl
theorem eqA_lst {o o' : Bool} {ps qs : List PV} : gEqA false (.lst o ps) (.lst o' qs) = gEqD false (.lst o ps) (.lst o' qs) := rfl
theorem eqA_str (a b : Str) : gEqA false (.str a) (.str b) = some (.bl (decide (a = b))) := by
  have := neA_str a b
  have e : decide (V.str a = V.str b) = decide (a = b) := by
    by_cases h : a = b
    · subst h; simp
    · simp [h]
  unfold gEqA orB gEqS sv scal
  simp [e]
theorem alike_ok {o o' : Bool} {ps qs : List PV} {d : PyData} {n m : Nat} (h : toD (.lst o ps) = some d) (h' : toD (.lst o' qs) = some d) (s : Sm d n m) (a : n ≤ 300000) (c : m ≤ 60) : F_l_alike [.lst o ps, .lst o' qs] = .ok (.bl true, []) := by
  have hz : toD (.lst false (fzs ps)) = some d := by rw [← h, toD, toD, toDs_fzs]
  have hz' : toD (.lst false (fzs qs)) = some d := by rw [← h', toD, toD, toDs_fzs]
  have e1 := (eqA_lst (o := false) (o' := false)).trans (eqD_of hz hz' s c)
  have e2 := repr_of hz s a c
  have e3 := repr_of hz' s a c
  have e4 : gEqA false (.str d.shown) (.str d.shown) = some (.bl true) := (eqA_str d.shown d.shown).trans (by simp)
  refine runF_rt (τ' := [.lst false (fzs ps), .lst false (fzs qs)]) (sret_ok ?_)
  (push_cast [e1, e2, e3, e4] <;> rfl)
end FL

namespace FL
open PySem PySem.Spec PyProof.Rows L2
/-! ### steps that stand, rows from a kind on -/
theorem ltS_irrefl (a : Str) : ltS a a = false := decide_eq_false (List.lt_irrefl _)
theorem ltS_asymm {a b : Str} (h : ltS a b = true) : ltS b a = false := decide_eq_false (fun z => List.lt_asymm (of_decide_eq_true h) z)
theorem ltS_ne {a b : Str} (h : ltS a b = true) : a ≠ b := fun z => by rw [z, ltS_irrefl] at h; cases h
structure StV (s : St3) : Prop where
  ok : s.ok
  le : s.t = true → ltS s.b s.a = false
  tu : s.u = true → s.t = true ∧ s.a ≠ s.b
def mkS (a b : Str) : St3 := ⟨HK.minS a b, HK.maxS a b, true, ltS b a⟩
theorem minS_eq (a b : Str) : HK.minS a b = if ltS b a = true then b else a := by
  unfold HK.minS ltS
  by_cases h : b.cps.toList < a.cps.toList
  · rw [if_pos h, if_pos (decide_eq_true h)]
  · rw [if_neg h, if_neg (by rw [decide_eq_false h]; exact Bool.false_ne_true)]
theorem maxS_eq (a b : Str) : HK.maxS a b = if ltS a b = true then b else a := by
  unfold HK.maxS ltS
  by_cases h : a.cps.toList < b.cps.toList
  · rw [if_pos h, if_pos (decide_eq_true h)]
  · rw [if_neg h, if_neg (by rw [decide_eq_false h]; exact Bool.false_ne_true)]
theorem ltS_tri {a b : Str} (h1 : ltS a b = false) (h2 : ltS b a = false) : a = b := by
  have h1 := of_decide_eq_false h1
  have h2 := of_decide_eq_false h2
  exact str_ext (List.le_antisymm (List.not_lt.mp h2) (List.not_lt.mp h1))
theorem mkS_ab (a b : Str) : (ltS b a = true ∧ mkS a b = ⟨b, a, true, true⟩) ∨ (ltS b a = false ∧ mkS a b = ⟨a, b, true, false⟩) := by
  unfold mkS
  rw [minS_eq, maxS_eq]
  cases h : ltS b a with
  | true =>
    rw [ltS_asymm h]
    exact .inl ⟨rfl, rfl⟩
  | false =>
    refine .inr ⟨rfl, ?_⟩
    cases h2 : ltS a b with
    | true => rfl
    | false => rw [ltS_tri h2 h]; rfl
theorem mkS_beg (a b : Str) : begS (mkS a b) = a := by
  rcases mkS_ab a b with ⟨_, e⟩ | ⟨_, e⟩ <;> rw [e] <;> rfl
theorem mkS_end (a b : Str) : endS (mkS a b) = b := by
  rcases mkS_ab a b with ⟨_, e⟩ | ⟨_, e⟩ <;> rw [e] <;> rfl
theorem mkS_t (a b : Str) : (mkS a b).t = true := rfl
theorem mkS_v {a b : Str} (ha : KindOK a) (hb : KindOK b) : StV (mkS a b) := by
  rcases mkS_ab a b with ⟨h, e⟩ | ⟨h, e⟩ <;> rw [e]
  · exact ⟨⟨hb, ha⟩, fun _ => ltS_asymm h, fun _ => ⟨rfl, ltS_ne h⟩⟩
  · exact ⟨⟨ha, hb⟩, fun _ => h, fun z => Bool.noConfusion z⟩
theorem step_on_ok2 {g : PV} {a b : Str} (hg : IsBag g) (ha : KindOK a) (hb : KindOK b) : OK (F_l_step_on [g, .str a, .str b]) fun r => ∃ s g', r = (stepP s, [g']) ∧ IsBag g' ∧ StV s ∧ begS s = a ∧ endS s = b := by
  obtain ⟨⟨_, _⟩, hF, x, g', e, hg', x0, x1⟩ := OK_ex (take_ok hg (m := 2) (by omega) (by omega))
  cases e
  obtain ⟨ps, rfl⟩ := hg.lst
  obtain ⟨ps', rfl⟩ := hg'.lst
  refine OK_run (OK_seq (OK_if (by (push_cast [hF] <;> rfl)) (fun h => ?_) fun h => ?_))
  · exact OK_ret (p := stepP ⟨a, b, false, false⟩) (by (push_cast <;> rfl)) ⟨_, _, rfl, hg', ⟨⟨ha, hb⟩, fun z => Bool.noConfusion z, fun z => Bool.noConfusion z⟩, rfl, rfl⟩
  · refine OK_next (sq_nx ?_)
    exact OK_ret (p := stepP (mkS a b)) (by (push_cast <;> rfl)) ⟨_, _, rfl, hg', mkS_v ha hb, mkS_beg a b, mkS_end a b⟩
def runs : Str → List St3 → Prop
  | _, [] => True
  | a, s :: ss => begS s = a ∧ runs (endS s) ss
def ends : Str → List St3 → Str
  | a, [] => a
  | _, s :: ss => ends (endS s) ss
theorem runs_app : ∀ {a : Str} {xs ys : List St3}, runs a (xs ++ ys) ↔ runs a xs ∧ runs (ends a xs) ys
  | _, [], _ => ⟨fun h => ⟨trivial, h⟩, fun h => h.2⟩
  | a, s :: xs, ys => by
    show (begS s = a ∧ runs (endS s) (xs ++ ys)) ↔ (begS s = a ∧ runs (endS s) xs) ∧ runs (ends (endS s) xs) ys
    rw [runs_app, and_assoc]
theorem ends_app : ∀ {a : Str} {xs ys : List St3}, ends a (xs ++ ys) = ends (ends a xs) ys
  | _, [], _ => rfl
  | a, s :: xs, ys => ends_app (a := endS s)
theorem ends_last : ∀ {a : Str} {xs : List St3} {s : St3}, xs[xs.length - 1]? = some s → endS s = ends a xs
  | _, [], _, h => by simp at h
  | a, [x], s, h => by
    have : x = s := by simpa using h
    subst this
    rfl
  | a, x :: y :: xs, s, h => by
    have h : (y :: xs)[(y :: xs).length - 1]? = some s := by
      rw [List.length_cons, List.length_cons, Nat.add_sub_cancel, List.getElem?_cons_succ] at h
      simpa using h
    exact ends_last (a := endS x) h
theorem last_at {α : Type} {xs : List α} (h : xs ≠ []) : ∃ x, xs[xs.length - 1]? = some x ∧ x ∈ xs := by
  have l : 0 < xs.length := List.length_pos_iff.mpr h
  exact ⟨xs[xs.length - 1], List.getElem?_eq_getElem (by omega), List.getElem_mem _⟩
theorem first_at {α : Type} {xs : List α} (h : xs ≠ []) : ∃ x, xs[0]? = some x ∧ x ∈ xs := by
  have l : 0 < xs.length := List.length_pos_iff.mpr h
  exact ⟨xs[0], List.getElem?_eq_getElem (by omega), List.getElem_mem _⟩
theorem runs_first : ∀ {a : Str} {xs : List St3} {s : St3}, runs a xs → xs[0]? = some s → begS s = a
  | _, x :: xs, s, h, e => by
    have : x = s := by simpa using e
    subst this
    exact h.1
theorem ends_kind : ∀ {a : Str} {xs : List St3}, KindOK a → (∀ s ∈ xs, StV s) → KindOK (ends a xs)
  | _, [], h, _ => h
  | a, s :: xs, _, h => ends_kind (a := endS s) (by
      have := (h s (by simp)).ok
      unfold endS
      split
      · exact this.1
      · exact this.2) fun x hx => h x (by simp [hx])
theorem row_from_ok2 {g : PV} {o : Bool} {ks : List Str} {a : Str} {n : Int} (hg : IsBag g) (hk : ∀ k ∈ ks, KindOK k) (l1 : 1 ≤ ks.length) (l2 : ks.length ≤ 8) (ha : KindOK a) (n1 : 1 ≤ n) (n2 : n ≤ 100) :
    OK (F_l_row_from [g, .lst o (ks.map .str), .str a, .int n]) fun r => ∃ (ss : List St3) (g' : PV), r = (.lst true (ss.map stepP), [g']) ∧ IsBag g' ∧ (∀ s ∈ ss, StV s) ∧ ss ≠ [] ∧ (ss.length : Int) ≤ n ∧ runs a ss := by
  obtain ⟨⟨_, _⟩, hF, x, g1, e, hg1, x0, x1⟩ := OK_ex (take_ok hg (m := n) (by omega) (by omega))
  cases e
  obtain ⟨ps, rfl⟩ := hg.lst
  obtain ⟨ps1, rfl⟩ := hg1.lst
  have hfk : isFzs (ks.map PV.str) = true := isFzs_map (fun _ => rfl) ks
  have fzk : fzs (ks.map PV.str) = ks.map PV.str := fzs_of hfk
  refine OK_run ?_
  refine OK_seq (OK_asg (by (push_cast <;> rfl)) (by (push_cast <;> rfl)) (sq_nx ?_))
  refine OK_seq (OK_for (τ1 := [.lst true ps1, .lst o (ks.map .str), .str a, .int n, .lst true [], .un, .un]) (fun done τ => ∃ (g' : PV) (o' : Bool) (ss : List St3) (v w : PV), τ = [g', .lst o' (ks.map .str), .str (ends a ss), .int n, .lst true (ss.map stepP), v, w] ∧ IsBag g' ∧ (∀ s ∈ ss, StV s) ∧ ss.length = done.length ∧ runs a ss)
    (irng1_ok (by (push_cast [hF] <;> rfl)) (by omega) (by omega)) ⟨_, _, [], _, _, rfl, hg1, fun s h => (List.not_mem_nil h).elim, rfl, trivial⟩ ?_ ?_)
  · rintro done y rest τ ex ⟨g', o', ss, v, w, rfl, hg', hss, ls, hr⟩
    obtain ⟨rfl, ly⟩ := rng_at ex
    refine ⟨_, by (push_cast <;> rfl), ?_⟩
    obtain ⟨⟨_, _⟩, hF1, b, g2, e, hg2, hb⟩ := OK_ex (one_ok (o := false) (xs := ks.map PV.str) hg' (by rw [List.length_map]; omega) (by rw [List.length_map]; omega) hfk)
    cases e
    obtain ⟨k, hk', rfl⟩ := List.mem_map.mp hb
    obtain ⟨⟨_, _⟩, hF2, s, g3, e, hg3, hs, sb, se⟩ := OK_ex (step_on_ok2 hg2 (ends_kind ha hss) (hk k hk'))
    cases e
    obtain ⟨q1, rfl⟩ := hg'.lst
    obtain ⟨q2, rfl⟩ := hg2.lst
    obtain ⟨q3, rfl⟩ := hg3.lst
    refine OK_seq (OK_asg (by (push_cast [fzk, hF1] <;> rfl)) (by (push_cast <;> rfl)) (sq_nx ?_))
    have hfit : fits ((ss.map stepP).length + 1) = true := fits_of (by rw [List.length_map]; omega)
    refine OK_seq (OK_drop (by (push_cast [hF2, hfit] <;> rfl)) (sq_nx ?_))
    have ee : ends a (ss ++ [s]) = k := by rw [ends_app]; exact se
    refine OK_asg (by (push_cast <;> rfl)) (by (push_cast <;> rfl)) ⟨_, _, ss ++ [s], _, _, by rw [List.map_append, ee]; rfl, hg3, fun s' h => ?_, by simp [ls], runs_app.mpr ⟨hr, sb, trivial⟩⟩
    rcases List.mem_append.mp h with h | h
    · exact hss s' h
    · cases List.mem_singleton.mp h; exact hs
  · rintro τ ⟨g', o', ss, v, w, rfl, hg', hss, ls, hr⟩
    obtain ⟨q1, rfl⟩ := hg'.lst
    rw [rng_len] at ls
    exact sq_nx (OK_ret (by (push_cast <;> rfl)) ⟨ss, _, rfl, hg', hss, fun z => by subst z; simp at ls; omega, by omega, hr⟩)
theorem round_ok {g : PV} {o : Bool} {ks : List Str} {a : Str} {n : Int} (hg : IsBag g) (hk : ∀ k ∈ ks, KindOK k) (l1 : 1 ≤ ks.length) (l2 : ks.length ≤ 8) (ha : KindOK a) (n1 : 1 ≤ n) (n2 : n ≤ 100) :
    OK (F_l_round [g, .lst o (ks.map .str), .str a, .int n]) fun r => ∃ (ss : List St3) (g' : PV), r = (.lst true (ss.map stepP), [g']) ∧ IsBag g' ∧ (∀ s ∈ ss, StV s) ∧ ss ≠ [] ∧ (ss.length : Int) ≤ n + 1 ∧ runs a ss ∧ ends a ss = a := by
  obtain ⟨⟨_, _⟩, hF, ss, g1, e, hg1, hs, hne, hl, hr⟩ := OK_ex (row_from_ok2 (o := false) hg hk l1 l2 ha n1 n2)
  cases e
  obtain ⟨ps, rfl⟩ := hg.lst
  obtain ⟨ps1, rfl⟩ := hg1.lst
  have fzk : fzs (ks.map PV.str) = ks.map PV.str := fzs_mapS ks
  obtain ⟨s, hsl, hsm⟩ := last_at hne
  have hat : L2.atI (ss.map stepP) (-1) = some (stepP s) := atI_neg1 (by rw [List.length_map, List.getElem?_map, hsl]; rfl)
  have he := lend_eq s
  have hn : gNeg (.int 1) = some (.int (-1)) := rfl
  have es : endS s = ends a ss := ends_last hsl
  refine OK_run ?_
  refine OK_seq (OK_asg (by (push_cast [fzk, hF] <;> rfl)) (by (push_cast <;> rfl)) (sq_nx ?_))
  refine OK_seq (OK_mono (Q := fun fl => ∃ (ss' : List St3) (g' : PV), fl = .nx [g', .lst false (ks.map .str), .str a, .int n, .lst true (ss'.map stepP)] ∧ IsBag g' ∧ (∀ s ∈ ss', StV s) ∧ ss' ≠ [] ∧ (ss'.length : Int) ≤ n + 1 ∧ runs a ss' ∧ ends a ss' = a) (OK_if (b := !decide (ends a ss = a)) (τ' := [.lst true ps1, .lst false (ks.map .str), .str a, .int n, .lst true (ss.map stepP)]) (by push_cast [fzk, hn, hat, he, es, neA_str] <;> rfl) (fun h => ?_) fun h => ?_) ?_)
  · obtain ⟨⟨_, _⟩, hF2, s', g3, e, hg3, hs', sb, se⟩ := OK_ex (step_on_ok2 hg1 (ends_kind ha hs) ha)
    cases e
    obtain ⟨q3, rfl⟩ := hg3.lst
    have hfit : fits ((ss.map stepP).length + 1) = true := fits_of (by rw [List.length_map]; omega)
    refine OK_drop (by (push_cast [fzk, hn, hat, he, es, hF2, hfit] <;> rfl)) ⟨ss ++ [s'], _, by rw [List.map_append]; rfl, hg3, fun x hx => ?_, by simp, by rw [List.length_append]; simp; omega, runs_app.mpr ⟨hr, sb, trivial⟩, by rw [ends_app]; exact se⟩
    rcases List.mem_append.mp hx with hx | hx
    · exact hs x hx
    · cases List.mem_singleton.mp hx; exact hs'
  · have : ends a ss = a := by simpa using h
    exact OK_next ⟨ss, _, rfl, hg1, hs, hne, by omega, hr, this⟩
  · rintro _ ⟨ss', g', rfl, hg', h1, h2, h3, h4, h5⟩
    obtain ⟨q1, rfl⟩ := hg'.lst
    exact sq_nx (OK_ret (by (push_cast <;> rfl)) ⟨ss', _, rfl, hg', h1, h2, h3, h4, h5⟩)
end FL

namespace FL
open PySem PySem.Spec PyProof.Rows L2
/-! ### parts, trains -/
abbrev Pt := Int × List St3
def partP (p : Pt) : PV := .tup [.int p.1, .lst false (p.2.map stepP)]
theorem fz_part' (p : Pt) : fz (partP p) = partP p := by
  unfold partP
  simp only [fz_tup, fzs_cons, fz_int, fz_lst, fzs_steps, fzs_nil]
theorem isFz_part' (p : Pt) : isFz (partP p) = true := by
  unfold partP
  simp only [isFz_tup, isFzs_cons, isFz_int, isFz_lstF, isFzs_steps, isFzs_nil, Bool.and_self]
theorem fzs_parts' (t : List Pt) : fzs (t.map partP) = t.map partP := fzs_of (isFzs_map isFz_part' t)
theorem isFzs_parts' (t : List Pt) : isFzs (t.map partP) = true := isFzs_map isFz_part' t
theorem fz_part (p : Pt) : fz (partP p) = partP p := fz_part' p
theorem isFz_part (p : Pt) : isFz (partP p) = true := isFz_part' p
theorem thing_part (p : Pt) : Thing (partP p) = True := eq_true rfl
theorem fzs_parts (t : List Pt) : fzs (t.map partP) = t.map partP := fzs_parts' t
theorem isFzs_parts (t : List Pt) : isFzs (t.map partP) = true := isFzs_parts' t
theorem gAppendF_eq (xs : List PV) (q : PV) : gAppendF (.lst true xs) [q] = if fits (xs.length + 1) = true then some (.lst true (xs ++ [fz q]), .non) else none := rfl
theorem gNeg_1 : gNeg (.int 1) = some (.int (-1)) := rfl
theorem part_0 (p : Pt) : ixA (partP p) (.int 0) = some (.int p.1) := rfl
theorem part_1 (p : Pt) : ixA (partP p) (.int 1) = some (.lst false (p.2.map stepP)) := rfl
theorem partB_0 (p : Pt) : ixAb (partP p) (.int 0) = some (.int p.1) := rfl
theorem partB_1 (p : Pt) : ixAb (partP p) (.int 1) = some (.lst false (p.2.map stepP)) := ixAb_of (part_1 p) (isFzs_steps _)
structure PtV (a : Str) (p : Pt) : Prop where
  ne : p.2 ≠ []
  len : p.2.length ≤ 4
  run : runs a p.2
  st : ∀ s ∈ p.2, StV s
  n1 : 1 ≤ p.1
  n2 : p.1 ≤ 100000000000000000000000000006
  cl : p.1 ≠ 1 → ends a p.2 = a
def TrV : Str → List Pt → Prop
  | _, [] => True
  | a, p :: t => PtV a p ∧ TrV (ends a p.2) t
def endT : Str → List Pt → Str
  | a, [] => a
  | a, p :: t => endT (ends a p.2) t
theorem TrV_app : ∀ {a : Str} {t u : List Pt}, TrV a (t ++ u) ↔ TrV a t ∧ TrV (endT a t) u
  | _, [], _ => ⟨fun h => ⟨trivial, h⟩, fun h => h.2⟩
  | a, p :: t, u => by
    show (PtV a p ∧ TrV (ends a p.2) (t ++ u)) ↔ (PtV a p ∧ TrV (ends a p.2) t) ∧ TrV (endT (ends a p.2) t) u
    rw [TrV_app, and_assoc]
theorem endT_app : ∀ {a : Str} {t u : List Pt}, endT a (t ++ u) = endT (endT a t) u
  | _, [], _ => rfl
  | a, p :: t, u => endT_app (a := ends a p.2)
theorem endT_kind : ∀ {a : Str} {t : List Pt}, KindOK a → TrV a t → KindOK (endT a t)
  | _, [], h, _ => h
  | a, p :: t, h, v => endT_kind (a := ends a p.2) (ends_kind h v.1.st) v.2
theorem TrV_mem : ∀ {a : Str} {t : List Pt} {p : Pt}, TrV a t → p ∈ t → ∃ b, PtV b p
  | a, q :: t, p, h, m => by
    rcases List.mem_cons.mp m with rfl | m
    · exact ⟨a, h.1⟩
    · exact TrV_mem h.2 m
theorem atI_4 {α : Type} (x y z u v : α) (xs : List α) : L2.atI (x :: y :: z :: u :: v :: xs) 4 = some v := atI_ofNat (j := 4) rfl
theorem atI_5 {α : Type} (x y z u v q : α) (xs : List α) : L2.atI (x :: y :: z :: u :: v :: q :: xs) 5 = some q := atI_ofNat (j := 5) rfl
theorem pow_3 : gPow (.int 10) (.int 3) = some (.int 1000) := rfl
theorem pow_9 : gPow (.int 10) (.int 9) = some (.int 1000000000) := rfl
theorem pow_17 : gPow (.int 10) (.int 17) = some (.int 100000000000000000) := rfl
theorem pow_29 : gPow (.int 10) (.int 29) = some (.int 100000000000000000000000000000) := rfl
local macro_rules
  | `(tactic| push_cast [$ls,*] at $h:ident) => `(tactic| simp only [FL.stN, FL.stNil, FL.stCons, FL.stTup, FL.spar, FL.bnd_ok, FL.bnd_err, FL.bnd_no, FL.opt_some, FL.opt_none, FL.cst, FL.bin, FL.un1, FL.tst, FL.asB, FL.tnot, FL.tand, FL.tor, FL.bval, FL.vand, FL.vor, FL.vnot, FL.vif, FL.vnil, FL.vcons, FL.vtup, FL.vlst, FL.fzE, FL.cb, FL.has, FL.mutM, FL.aug, FL.augN, FL.stS, FL.tyes, FL.isi, FL.isi2, FL.oso, FL.ono, FL.slL, FL.slS, FL.dg2, FL.opC, List.length_cons, List.length_nil, List.set_cons_zero, List.set_cons_succ, List.getElem?_cons_zero, List.getElem?_cons_succ, if_true, if_false, Bool.false_eq_true, reduceCtorEq, List.nil_append, List.cons_append, List.length_append, List.length_replicate, List.replicate_zero, List.replicate_succ, FL.fz_int, FL.fz_str, FL.fz_bl, FL.fz_non, FL.fz_un, FL.fz_tup, FL.fz_lst, FL.fzs_nil, FL.fzs_cons, FL.addA_int, FL.sub_int, FL.gt_int, FL.lt_int, FL.le_int, FL.ge_int, FL.lt_str', FL.gInt_int, FL.gInt_bl, FL.eqA_int, FL.neA_int, FL.mod_int, FL.thing_non, FL.thing_bl, FL.thing_int, FL.thing_str, FL.thing_tup, FL.thing_lst, FL.thing_dct, FL.opB_O, FL.opB1_some, FL.opB2_some, FL.rd_O, FL.mv_O, FL.cb_O, FL.rdO_some, FL.mvO_some, FL.cbO_some, FL.atI_0, FL.atI_1, FL.atI_2, FL.atI_3, FL.ixA_lst, FL.ixA_tup, FL.isFz_int, FL.isFz_str, FL.isFz_bl, FL.isFz_non, FL.isFz_tup, FL.isFz_lstF, FL.isFzs_nil, FL.isFzs_cons, FL.lenA_lst, FL.lenA_tup, FL.on1_eq, FL.ixAb_lst', FL.ixAb_tup', FL.fzs_mapS, FL.isFzs_mapS, FL.isFzs_mapI, FL.ixL_lst, FL.ixSet_eq, Option.bind_some, Option.bind_none, Option.map_some, Option.map_none, FL.fzs_mapI, Bool.and_true, Bool.true_and, FL.mulA_48271, FL.mulA_39373, FL.mulA_30011, FL.mulA_7919, FL.mulA_2, FL.mulA_3, FL.mod_2147483647, FL.mod_1000000007, FL.mod_998244353, FL.mod_26, FL.div_7, FL.tyP_lst, FL.tyP_tup, FL.gList_lst, FL.gList_tup, FL.gTuple_lst, decide_false, FL.tyM_lst, FL.gAppend_eq, FL.gInsert_eq, FL.minA_str, FL.maxA_str, FL.addA_str, FL.addA_lst, FL.fits_n0, FL.fits_n1, FL.fits_n2, FL.fits_n3, FL.fits_n4, FL.fits_n5, FL.fits_n6, FL.fits_n7, FL.fits_n8, FL.fits_n9, FL.fits_n10, FL.fits_n11, FL.fits_n12, FL.fits_n13, FL.fits_n14, FL.fits_n15, FL.fits_n16, FL.fits_n17, FL.fits_n18, FL.fits_n19, FL.fits_n20, FL.fits_n21, FL.fits_n22, FL.fits_n23, FL.fits_n24, FL.fits_n25, FL.fits_n26, FL.fits_n27, FL.fits_n28, FL.fits_n29, FL.fits_n30, FL.cal, FL.takes, FL.puts, FL.weave, FL.selL, Bool.or_true, Bool.true_or, and_true, true_and, decide_true, and_self, eq_self, ne_eq, not_false_eq_true, FL.div_int, FL.wip, FL.fzs_steps, FL.isFzs_steps, FL.fz_step, FL.isFz_step, FL.thing_step, FL.fz_cart, FL.isFz_cart, FL.thing_cart, FL.fz_ck, FL.isFz_ck, FL.thing_ck, FL.kOf_ck, FL.dget2_ent, FL.dset_ent, FL.fz_part, FL.isFz_part, FL.thing_part, FL.fzs_parts, FL.isFzs_parts, FL.gAppendF_eq, FL.gNeg_1, FL.part_0, FL.part_1, FL.partB_0, FL.partB_1, FL.atI_4, FL.atI_5, FL.pow_3, FL.pow_9, FL.pow_17, FL.pow_29, $ls,*] at $h:ident)
  | `(tactic| push_cast [$ls,*]) => `(tactic| simp only [FL.stN, FL.stNil, FL.stCons, FL.stTup, FL.spar, FL.bnd_ok, FL.bnd_err, FL.bnd_no, FL.opt_some, FL.opt_none, FL.cst, FL.bin, FL.un1, FL.tst, FL.asB, FL.tnot, FL.tand, FL.tor, FL.bval, FL.vand, FL.vor, FL.vnot, FL.vif, FL.vnil, FL.vcons, FL.vtup, FL.vlst, FL.fzE, FL.cb, FL.has, FL.mutM, FL.aug, FL.augN, FL.stS, FL.tyes, FL.isi, FL.isi2, FL.oso, FL.ono, FL.slL, FL.slS, FL.dg2, FL.opC, List.length_cons, List.length_nil, List.set_cons_zero, List.set_cons_succ, List.getElem?_cons_zero, List.getElem?_cons_succ, if_true, if_false, Bool.false_eq_true, reduceCtorEq, List.nil_append, List.cons_append, List.length_append, List.length_replicate, List.replicate_zero, List.replicate_succ, FL.fz_int, FL.fz_str, FL.fz_bl, FL.fz_non, FL.fz_un, FL.fz_tup, FL.fz_lst, FL.fzs_nil, FL.fzs_cons, FL.addA_int, FL.sub_int, FL.gt_int, FL.lt_int, FL.le_int, FL.ge_int, FL.lt_str', FL.gInt_int, FL.gInt_bl, FL.eqA_int, FL.neA_int, FL.mod_int, FL.thing_non, FL.thing_bl, FL.thing_int, FL.thing_str, FL.thing_tup, FL.thing_lst, FL.thing_dct, FL.opB_O, FL.opB1_some, FL.opB2_some, FL.rd_O, FL.mv_O, FL.cb_O, FL.rdO_some, FL.mvO_some, FL.cbO_some, FL.atI_0, FL.atI_1, FL.atI_2, FL.atI_3, FL.ixA_lst, FL.ixA_tup, FL.isFz_int, FL.isFz_str, FL.isFz_bl, FL.isFz_non, FL.isFz_tup, FL.isFz_lstF, FL.isFzs_nil, FL.isFzs_cons, FL.lenA_lst, FL.lenA_tup, FL.on1_eq, FL.ixAb_lst', FL.ixAb_tup', FL.fzs_mapS, FL.isFzs_mapS, FL.isFzs_mapI, FL.ixL_lst, FL.ixSet_eq, Option.bind_some, Option.bind_none, Option.map_some, Option.map_none, FL.fzs_mapI, Bool.and_true, Bool.true_and, FL.mulA_48271, FL.mulA_39373, FL.mulA_30011, FL.mulA_7919, FL.mulA_2, FL.mulA_3, FL.mod_2147483647, FL.mod_1000000007, FL.mod_998244353, FL.mod_26, FL.div_7, FL.tyP_lst, FL.tyP_tup, FL.gList_lst, FL.gList_tup, FL.gTuple_lst, decide_false, FL.tyM_lst, FL.gAppend_eq, FL.gInsert_eq, FL.minA_str, FL.maxA_str, FL.addA_str, FL.addA_lst, FL.fits_n0, FL.fits_n1, FL.fits_n2, FL.fits_n3, FL.fits_n4, FL.fits_n5, FL.fits_n6, FL.fits_n7, FL.fits_n8, FL.fits_n9, FL.fits_n10, FL.fits_n11, FL.fits_n12, FL.fits_n13, FL.fits_n14, FL.fits_n15, FL.fits_n16, FL.fits_n17, FL.fits_n18, FL.fits_n19, FL.fits_n20, FL.fits_n21, FL.fits_n22, FL.fits_n23, FL.fits_n24, FL.fits_n25, FL.fits_n26, FL.fits_n27, FL.fits_n28, FL.fits_n29, FL.fits_n30, FL.cal, FL.takes, FL.puts, FL.weave, FL.selL, Bool.or_true, Bool.true_or, and_true, true_and, decide_true, and_self, eq_self, ne_eq, not_false_eq_true, FL.div_int, FL.wip, FL.fzs_steps, FL.isFzs_steps, FL.fz_step, FL.isFz_step, FL.thing_step, FL.fz_cart, FL.isFz_cart, FL.thing_cart, FL.fz_ck, FL.isFz_ck, FL.thing_ck, FL.kOf_ck, FL.dget2_ent, FL.dset_ent, FL.fz_part, FL.isFz_part, FL.thing_part, FL.fzs_parts, FL.isFzs_parts, FL.gAppendF_eq, FL.gNeg_1, FL.part_0, FL.part_1, FL.partB_0, FL.partB_1, FL.atI_4, FL.atI_5, FL.pow_3, FL.pow_9, FL.pow_17, FL.pow_29, $ls,*])
  | `(tactic| push_cast) => `(tactic| simp only [FL.stN, FL.stNil, FL.stCons, FL.stTup, FL.spar, FL.bnd_ok, FL.bnd_err, FL.bnd_no, FL.opt_some, FL.opt_none, FL.cst, FL.bin, FL.un1, FL.tst, FL.asB, FL.tnot, FL.tand, FL.tor, FL.bval, FL.vand, FL.vor, FL.vnot, FL.vif, FL.vnil, FL.vcons, FL.vtup, FL.vlst, FL.fzE, FL.cb, FL.has, FL.mutM, FL.aug, FL.augN, FL.stS, FL.tyes, FL.isi, FL.isi2, FL.oso, FL.ono, FL.slL, FL.slS, FL.dg2, FL.opC, List.length_cons, List.length_nil, List.set_cons_zero, List.set_cons_succ, List.getElem?_cons_zero, List.getElem?_cons_succ, if_true, if_false, Bool.false_eq_true, reduceCtorEq, List.nil_append, List.cons_append, List.length_append, List.length_replicate, List.replicate_zero, List.replicate_succ, FL.fz_int, FL.fz_str, FL.fz_bl, FL.fz_non, FL.fz_un, FL.fz_tup, FL.fz_lst, FL.fzs_nil, FL.fzs_cons, FL.addA_int, FL.sub_int, FL.gt_int, FL.lt_int, FL.le_int, FL.ge_int, FL.lt_str', FL.gInt_int, FL.gInt_bl, FL.eqA_int, FL.neA_int, FL.mod_int, FL.thing_non, FL.thing_bl, FL.thing_int, FL.thing_str, FL.thing_tup, FL.thing_lst, FL.thing_dct, FL.opB_O, FL.opB1_some, FL.opB2_some, FL.rd_O, FL.mv_O, FL.cb_O, FL.rdO_some, FL.mvO_some, FL.cbO_some, FL.atI_0, FL.atI_1, FL.atI_2, FL.atI_3, FL.ixA_lst, FL.ixA_tup, FL.isFz_int, FL.isFz_str, FL.isFz_bl, FL.isFz_non, FL.isFz_tup, FL.isFz_lstF, FL.isFzs_nil, FL.isFzs_cons, FL.lenA_lst, FL.lenA_tup, FL.on1_eq, FL.ixAb_lst', FL.ixAb_tup', FL.fzs_mapS, FL.isFzs_mapS, FL.isFzs_mapI, FL.ixL_lst, FL.ixSet_eq, Option.bind_some, Option.bind_none, Option.map_some, Option.map_none, FL.fzs_mapI, Bool.and_true, Bool.true_and, FL.mulA_48271, FL.mulA_39373, FL.mulA_30011, FL.mulA_7919, FL.mulA_2, FL.mulA_3, FL.mod_2147483647, FL.mod_1000000007, FL.mod_998244353, FL.mod_26, FL.div_7, FL.tyP_lst, FL.tyP_tup, FL.gList_lst, FL.gList_tup, FL.gTuple_lst, decide_false, FL.tyM_lst, FL.gAppend_eq, FL.gInsert_eq, FL.minA_str, FL.maxA_str, FL.addA_str, FL.addA_lst, FL.fits_n0, FL.fits_n1, FL.fits_n2, FL.fits_n3, FL.fits_n4, FL.fits_n5, FL.fits_n6, FL.fits_n7, FL.fits_n8, FL.fits_n9, FL.fits_n10, FL.fits_n11, FL.fits_n12, FL.fits_n13, FL.fits_n14, FL.fits_n15, FL.fits_n16, FL.fits_n17, FL.fits_n18, FL.fits_n19, FL.fits_n20, FL.fits_n21, FL.fits_n22, FL.fits_n23, FL.fits_n24, FL.fits_n25, FL.fits_n26, FL.fits_n27, FL.fits_n28, FL.fits_n29, FL.fits_n30, FL.cal, FL.takes, FL.puts, FL.weave, FL.selL, Bool.or_true, Bool.true_or, and_true, true_and, decide_true, and_self, eq_self, ne_eq, not_false_eq_true, FL.div_int, FL.wip, FL.fzs_steps, FL.isFzs_steps, FL.fz_step, FL.isFz_step, FL.thing_step, FL.fz_cart, FL.isFz_cart, FL.thing_cart, FL.fz_ck, FL.isFz_ck, FL.thing_ck, FL.kOf_ck, FL.dget2_ent, FL.dset_ent, FL.fz_part, FL.isFz_part, FL.thing_part, FL.fzs_parts, FL.isFzs_parts, FL.gAppendF_eq, FL.gNeg_1, FL.part_0, FL.part_1, FL.partB_0, FL.partB_1, FL.atI_4, FL.atI_5, FL.pow_3, FL.pow_9, FL.pow_17, FL.pow_29])
theorem number_ok {g : PV} (hg : IsBag g) : OK (F_l_number [g]) fun r => ∃ x g', r = (.int x, [g']) ∧ IsBag g' ∧ 1 ≤ x ∧ x ≤ 100000000000000000000000000006 := by
  obtain ⟨⟨_, _⟩, hF, x, g1, e, hg1, x0, x1⟩ := OK_ex (take_ok hg (m := 8) (by omega) (by omega))
  cases e
  obtain ⟨ps, rfl⟩ := hg.lst
  obtain ⟨ps1, rfl⟩ := hg1.lst
  refine OK_run ?_
  refine OK_seq (OK_asg (by (push_cast [hF] <;> rfl)) (by (push_cast <;> rfl)) (sq_nx ?_))
  refine OK_seq (OK_if (b := decide (x < 6)) (τ' := [.lst true ps1, .int x]) (by (push_cast <;> rfl)) (fun h => ?_) fun h => ?_)
  · have hx : x < 6 := of_decide_eq_true h
    have pick : ∃ m : Int, L2.atI [PV.int 1, .int 2, .int 3, .int 4, .int 6, .int 12] x = some (.int m) ∧ 1 ≤ m ∧ m ≤ 12 := by
      have : x = 0 ∨ x = 1 ∨ x = 2 ∨ x = 3 ∨ x = 4 ∨ x = 5 := by omega
      rcases this with rfl | rfl | rfl | rfl | rfl | rfl
      · exact ⟨1, rfl, by omega, by omega⟩
      · exact ⟨2, rfl, by omega, by omega⟩
      · exact ⟨3, rfl, by omega, by omega⟩
      · exact ⟨4, rfl, by omega, by omega⟩
      · exact ⟨6, rfl, by omega, by omega⟩
      · exact ⟨12, rfl, by omega, by omega⟩
    obtain ⟨m, hm, m1, m2⟩ := pick
    obtain ⟨⟨_, _⟩, hF2, y, g2, e, hg2, y0, y1⟩ := OK_ex (take_ok hg1 (m := m) (by omega) (by omega))
    cases e
    exact OK_ret (p := .int (1 + y)) (by (push_cast [hm, hF2] <;> rfl)) ⟨1 + y, _, rfl, hg2, by omega, by omega⟩
  · refine OK_next (sq_nx ?_)
    obtain ⟨⟨_, _⟩, hF2, y, g2, e, hg2, y0, y1⟩ := OK_ex (take_ok hg1 (m := 4) (by omega) (by omega))
    cases e
    obtain ⟨ps2, rfl⟩ := hg2.lst
    obtain ⟨⟨_, _⟩, hF3, z, g3, e, hg3, z0, z1⟩ := OK_ex (take_ok hg2 (m := 7) (by omega) (by omega))
    cases e
    have pick : ∃ m : Int, L2.atI [PV.int 1000, .int 1000000000, .int 100000000000000000, .int 100000000000000000000000000000] y = some (.int m) ∧ 1 ≤ m ∧ m ≤ 100000000000000000000000000000 := by
      have : y = 0 ∨ y = 1 ∨ y = 2 ∨ y = 3 := by omega
      rcases this with rfl | rfl | rfl | rfl
      · exact ⟨_, rfl, by omega, by omega⟩
      · exact ⟨_, rfl, by omega, by omega⟩
      · exact ⟨_, rfl, by omega, by omega⟩
      · exact ⟨_, rfl, by omega, by omega⟩
    obtain ⟨m, hm, m1, m2⟩ := pick
    exact OK_ret (p := .int (m + z)) (by (push_cast [hF2, hm, hF3] <;> rfl)) ⟨m + z, _, rfl, hg3, by omega, by omega⟩
theorem train_ok {g : PV} {o : Bool} {ks : List Str} {n : Int} (hg : IsBag g) (hk : ∀ k ∈ ks, KindOK k) (l1 : 1 ≤ ks.length) (l2 : ks.length ≤ 8) (n1 : 1 ≤ n) (n2 : n ≤ 100) :
    OK (F_l_train [g, .lst o (ks.map .str), .int n]) fun r => ∃ (a : Str) (t : List Pt) (g' : PV), r = (.lst true (t.map partP), [g']) ∧ IsBag g' ∧ KindOK a ∧ TrV a t ∧ t ≠ [] ∧ (t.length : Int) ≤ n := by
  have hfk : isFzs (ks.map PV.str) = true := isFzs_map (fun _ => rfl) ks
  have fzk : fzs (ks.map PV.str) = ks.map PV.str := fzs_of hfk
  obtain ⟨⟨_, _⟩, hF1, b, g1, e, hg1, hb⟩ := OK_ex (one_ok (o := false) (xs := ks.map PV.str) hg (by rw [List.length_map]; omega) (by rw [List.length_map]; omega) hfk)
  cases e
  obtain ⟨a, ha', rfl⟩ := List.mem_map.mp hb
  have ha := hk a ha'
  obtain ⟨⟨_, _⟩, hF, x, g2, e, hg2, x0, x1⟩ := OK_ex (take_ok hg1 (m := n) (by omega) (by omega))
  cases e
  obtain ⟨ps, rfl⟩ := hg.lst
  obtain ⟨ps1, rfl⟩ := hg1.lst
  obtain ⟨ps2, rfl⟩ := hg2.lst
  refine OK_run ?_
  refine OK_seq (OK_par (p := .str a) (q := .lst true []) (τ1 := [.lst true ps1, .lst false (ks.map .str), .int n, .un, .un, .un]) (by push_cast [fzk, hF1] <;> rfl) (show 3 < 6 ∧ 4 < 6 by decide) (sq_nx ?_))
  refine OK_seq (OK_for (τ1 := [.lst true ps2, .lst false (ks.map .str), .int n, .str a, .lst true [], .un]) (fun done τ => ∃ (g' : PV) (t : List Pt) (v : PV), τ = [g', .lst false (ks.map .str), .int n, .str (endT a t), .lst true (t.map partP), v] ∧ IsBag g' ∧ TrV a t ∧ t.length = done.length)
    (irng1_ok (j := 1 + x) (by (push_cast [hF] <;> rfl)) (by omega) (by omega)) ⟨_, [], _, rfl, hg2, trivial, rfl⟩ ?_ ?_)
  · rintro done y rest τ ex ⟨g', t, v, rfl, hg', ht, lt⟩
    obtain ⟨rfl, ly⟩ := rng_at ex
    have hkT := endT_kind ha ht
    have hfit : fits ((t.map partP).length + 1) = true := fits_of (by rw [List.length_map]; omega)
    refine ⟨[g', .lst false (ks.map .str), .int n, .str (endT a t), .lst true (t.map partP), .int (0 + (done.length : Nat))], rfl, ?_⟩
    obtain ⟨⟨_, _⟩, hF3, z, g3, e, hg3, z0, z1⟩ := OK_ex (take_ok hg' (m := 2) (by omega) (by omega))
    cases e
    obtain ⟨q1, rfl⟩ := hg'.lst
    obtain ⟨q3, rfl⟩ := hg3.lst
    refine OK_if (b := decide (z = 0)) (τ' := [.lst true q3, .lst false (ks.map .str), .int n, .str (endT a t), .lst true (t.map partP), .int (0 + (done.length : Nat))]) (by (push_cast [hF3] <;> rfl)) (fun h => ?_) fun h => ?_
    · obtain ⟨⟨_, _⟩, hF4, m, g4, e, hg4, m1, m2⟩ := OK_ex (number_ok hg3)
      cases e
      obtain ⟨⟨_, _⟩, hF5, ss, g5, e, hg5, h1, h2, h3, h4, h5⟩ := OK_ex (round_ok (o := false) (n := 3) hg4 hk l1 l2 hkT (by omega) (by omega))
      cases e
      obtain ⟨q4, rfl⟩ := hg4.lst
      obtain ⟨q5, rfl⟩ := hg5.lst
      refine OK_drop (τ' := [.lst true q5, .lst false (ks.map .str), .int n, .str (endT a t), .lst true (t.map partP ++ [partP (m, ss)]), .int (0 + (done.length : Nat))]) (by push_cast [fzk, hF4, hF5, hfit] <;> rfl) ⟨_, t ++ [(m, ss)], .int (0 + (done.length : Nat)), ?_, hg5, TrV_app.mpr ⟨ht, ⟨h2, show ss.length ≤ 4 by omega, h4, h1, m1, m2, fun _ => h5⟩, trivial⟩, by simp [lt]⟩
      have : endT a (t ++ [(m, ss)]) = endT a t := by rw [endT_app]; exact h5
      rw [this, List.map_append]
      rfl
    · obtain ⟨⟨_, _⟩, hF5, ss, g5, e, hg5, h1, h2, h3, h4⟩ := OK_ex (row_from_ok2 (o := false) (n := 4) hg3 hk l1 l2 hkT (by omega) (by omega))
      cases e
      obtain ⟨q5, rfl⟩ := hg5.lst
      refine OK_seq (OK_drop (τ' := [.lst true q5, .lst false (ks.map .str), .int n, .str (endT a t), .lst true (t.map partP ++ [partP (1, ss)]), .int (0 + (done.length : Nat))]) (by push_cast [fzk, hF5, hfit] <;> rfl) (sq_nx ?_))
      obtain ⟨s, hsl, hsm⟩ := last_at h2
      have a1 : L2.atI (t.map partP ++ [partP (1, ss)]) (-1) = some (partP (1, ss)) := atI_neg1 (by simp)
      have a2 : L2.atI (ss.map stepP) (-1) = some (stepP s) := atI_neg1 (by rw [List.length_map, List.getElem?_map, hsl]; rfl)
      have he := lend_eq s
      have es : endS s = ends (endT a t) ss := ends_last hsl
      have ee : endT a (t ++ [(1, ss)]) = ends (endT a t) ss := by rw [endT_app]; rfl
      refine OK_asg (p := .str (ends (endT a t) ss)) (τ1 := [.lst true q5, .lst false (ks.map .str), .int n, .str (endT a t), .lst true (t.map partP ++ [partP (1, ss)]), .int (0 + (done.length : Nat))]) (by push_cast [a1, a2, he, es] <;> rfl) (by (push_cast <;> rfl)) ⟨_, t ++ [(1, ss)], .int (0 + (done.length : Nat)), ?_, hg5, TrV_app.mpr ⟨ht, ⟨h2, show ss.length ≤ 4 by omega, h4, h1, by omega, by omega, fun z => absurd rfl z⟩, trivial⟩, by simp [lt]⟩
      rw [ee, List.map_append]
      rfl
  · rintro τ ⟨g', t, v, rfl, hg', ht, lt⟩
    obtain ⟨q1, rfl⟩ := hg'.lst
    rw [rng_len] at lt
    exact sq_nx (OK_ret (by (push_cast <;> rfl)) ⟨a, t, _, rfl, hg', ha, ht, fun z => by subst z; simp at lt; omega, by omega⟩)
end FL

local macro_rules
  | `(tactic| push_cast [$ls,*] at $h:ident) => `(tactic| simp only [FL.stN, FL.stNil, FL.stCons, FL.stTup, FL.spar, FL.bnd_ok, FL.bnd_err, FL.bnd_no, FL.opt_some, FL.opt_none, FL.cst, FL.bin, FL.un1, FL.tst, FL.asB, FL.tnot, FL.tand, FL.tor, FL.bval, FL.vand, FL.vor, FL.vnot, FL.vif, FL.vnil, FL.vcons, FL.vtup, FL.vlst, FL.fzE, FL.cb, FL.has, FL.mutM, FL.aug, FL.augN, FL.stS, FL.tyes, FL.isi, FL.isi2, FL.oso, FL.ono, FL.slL, FL.slS, FL.dg2, FL.opC, List.length_cons, List.length_nil, List.set_cons_zero, List.set_cons_succ, List.getElem?_cons_zero, List.getElem?_cons_succ, if_true, if_false, Bool.false_eq_true, reduceCtorEq, List.nil_append, List.cons_append, List.length_append, List.length_replicate, List.replicate_zero, List.replicate_succ, FL.fz_int, FL.fz_str, FL.fz_bl, FL.fz_non, FL.fz_un, FL.fz_tup, FL.fz_lst, FL.fzs_nil, FL.fzs_cons, FL.addA_int, FL.sub_int, FL.gt_int, FL.lt_int, FL.le_int, FL.ge_int, FL.lt_str', FL.gInt_int, FL.gInt_bl, FL.eqA_int, FL.neA_int, FL.mod_int, FL.thing_non, FL.thing_bl, FL.thing_int, FL.thing_str, FL.thing_tup, FL.thing_lst, FL.thing_dct, FL.opB_O, FL.opB1_some, FL.opB2_some, FL.rd_O, FL.mv_O, FL.cb_O, FL.rdO_some, FL.mvO_some, FL.cbO_some, FL.atI_0, FL.atI_1, FL.atI_2, FL.atI_3, FL.ixA_lst, FL.ixA_tup, FL.isFz_int, FL.isFz_str, FL.isFz_bl, FL.isFz_non, FL.isFz_tup, FL.isFz_lstF, FL.isFzs_nil, FL.isFzs_cons, FL.lenA_lst, FL.lenA_tup, FL.on1_eq, FL.ixAb_lst', FL.ixAb_tup', FL.fzs_mapS, FL.isFzs_mapS, FL.isFzs_mapI, FL.ixL_lst, FL.ixSet_eq, Option.bind_some, Option.bind_none, Option.map_some, Option.map_none, FL.fzs_mapI, Bool.and_true, Bool.true_and, FL.mulA_48271, FL.mulA_39373, FL.mulA_30011, FL.mulA_7919, FL.mulA_2, FL.mulA_3, FL.mod_2147483647, FL.mod_1000000007, FL.mod_998244353, FL.mod_26, FL.div_7, FL.tyP_lst, FL.tyP_tup, FL.gList_lst, FL.gList_tup, FL.gTuple_lst, decide_false, FL.tyM_lst, FL.gAppend_eq, FL.gInsert_eq, FL.minA_str, FL.maxA_str, FL.addA_str, FL.addA_lst, FL.fits_n0, FL.fits_n1, FL.fits_n2, FL.fits_n3, FL.fits_n4, FL.fits_n5, FL.fits_n6, FL.fits_n7, FL.fits_n8, FL.fits_n9, FL.fits_n10, FL.fits_n11, FL.fits_n12, FL.fits_n13, FL.fits_n14, FL.fits_n15, FL.fits_n16, FL.fits_n17, FL.fits_n18, FL.fits_n19, FL.fits_n20, FL.fits_n21, FL.fits_n22, FL.fits_n23, FL.fits_n24, FL.fits_n25, FL.fits_n26, FL.fits_n27, FL.fits_n28, FL.fits_n29, FL.fits_n30, FL.cal, FL.takes, FL.puts, FL.weave, FL.selL, Bool.or_true, Bool.true_or, and_true, true_and, decide_true, and_self, eq_self, ne_eq, not_false_eq_true, FL.div_int, FL.wip, FL.fzs_steps, FL.isFzs_steps, FL.fz_step, FL.isFz_step, FL.thing_step, FL.fz_cart, FL.isFz_cart, FL.thing_cart, FL.fz_ck, FL.isFz_ck, FL.thing_ck, FL.kOf_ck, FL.dget2_ent, FL.dset_ent, FL.fz_part, FL.isFz_part, FL.thing_part, FL.fzs_parts, FL.isFzs_parts, FL.gAppendF_eq, FL.gNeg_1, FL.part_0, FL.part_1, FL.partB_0, FL.partB_1, FL.atI_4, FL.atI_5, FL.pow_3, FL.pow_9, FL.pow_17, FL.pow_29, $ls,*] at $h:ident)
  | `(tactic| push_cast [$ls,*]) => `(tactic| simp only [FL.stN, FL.stNil, FL.stCons, FL.stTup, FL.spar, FL.bnd_ok, FL.bnd_err, FL.bnd_no, FL.opt_some, FL.opt_none, FL.cst, FL.bin, FL.un1, FL.tst, FL.asB, FL.tnot, FL.tand, FL.tor, FL.bval, FL.vand, FL.vor, FL.vnot, FL.vif, FL.vnil, FL.vcons, FL.vtup, FL.vlst, FL.fzE, FL.cb, FL.has, FL.mutM, FL.aug, FL.augN, FL.stS, FL.tyes, FL.isi, FL.isi2, FL.oso, FL.ono, FL.slL, FL.slS, FL.dg2, FL.opC, List.length_cons, List.length_nil, List.set_cons_zero, List.set_cons_succ, List.getElem?_cons_zero, List.getElem?_cons_succ, if_true, if_false, Bool.false_eq_true, reduceCtorEq, List.nil_append, List.cons_append, List.length_append, List.length_replicate, List.replicate_zero, List.replicate_succ, FL.fz_int, FL.fz_str, FL.fz_bl, FL.fz_non, FL.fz_un, FL.fz_tup, FL.fz_lst, FL.fzs_nil, FL.fzs_cons, FL.addA_int, FL.sub_int, FL.gt_int, FL.lt_int, FL.le_int, FL.ge_int, FL.lt_str', FL.gInt_int, FL.gInt_bl, FL.eqA_int, FL.neA_int, FL.mod_int, FL.thing_non, FL.thing_bl, FL.thing_int, FL.thing_str, FL.thing_tup, FL.thing_lst, FL.thing_dct, FL.opB_O, FL.opB1_some, FL.opB2_some, FL.rd_O, FL.mv_O, FL.cb_O, FL.rdO_some, FL.mvO_some, FL.cbO_some, FL.atI_0, FL.atI_1, FL.atI_2, FL.atI_3, FL.ixA_lst, FL.ixA_tup, FL.isFz_int, FL.isFz_str, FL.isFz_bl, FL.isFz_non, FL.isFz_tup, FL.isFz_lstF, FL.isFzs_nil, FL.isFzs_cons, FL.lenA_lst, FL.lenA_tup, FL.on1_eq, FL.ixAb_lst', FL.ixAb_tup', FL.fzs_mapS, FL.isFzs_mapS, FL.isFzs_mapI, FL.ixL_lst, FL.ixSet_eq, Option.bind_some, Option.bind_none, Option.map_some, Option.map_none, FL.fzs_mapI, Bool.and_true, Bool.true_and, FL.mulA_48271, FL.mulA_39373, FL.mulA_30011, FL.mulA_7919, FL.mulA_2, FL.mulA_3, FL.mod_2147483647, FL.mod_1000000007, FL.mod_998244353, FL.mod_26, FL.div_7, FL.tyP_lst, FL.tyP_tup, FL.gList_lst, FL.gList_tup, FL.gTuple_lst, decide_false, FL.tyM_lst, FL.gAppend_eq, FL.gInsert_eq, FL.minA_str, FL.maxA_str, FL.addA_str, FL.addA_lst, FL.fits_n0, FL.fits_n1, FL.fits_n2, FL.fits_n3, FL.fits_n4, FL.fits_n5, FL.fits_n6, FL.fits_n7, FL.fits_n8, FL.fits_n9, FL.fits_n10, FL.fits_n11, FL.fits_n12, FL.fits_n13, FL.fits_n14, FL.fits_n15, FL.fits_n16, FL.fits_n17, FL.fits_n18, FL.fits_n19, FL.fits_n20, FL.fits_n21, FL.fits_n22, FL.fits_n23, FL.fits_n24, FL.fits_n25, FL.fits_n26, FL.fits_n27, FL.fits_n28, FL.fits_n29, FL.fits_n30, FL.cal, FL.takes, FL.puts, FL.weave, FL.selL, Bool.or_true, Bool.true_or, and_true, true_and, decide_true, and_self, eq_self, ne_eq, not_false_eq_true, FL.div_int, FL.wip, FL.fzs_steps, FL.isFzs_steps, FL.fz_step, FL.isFz_step, FL.thing_step, FL.fz_cart, FL.isFz_cart, FL.thing_cart, FL.fz_ck, FL.isFz_ck, FL.thing_ck, FL.kOf_ck, FL.dget2_ent, FL.dset_ent, FL.fz_part, FL.isFz_part, FL.thing_part, FL.fzs_parts, FL.isFzs_parts, FL.gAppendF_eq, FL.gNeg_1, FL.part_0, FL.part_1, FL.partB_0, FL.partB_1, FL.atI_4, FL.atI_5, FL.pow_3, FL.pow_9, FL.pow_17, FL.pow_29, $ls,*])
  | `(tactic| push_cast) => `(tactic| simp only [FL.stN, FL.stNil, FL.stCons, FL.stTup, FL.spar, FL.bnd_ok, FL.bnd_err, FL.bnd_no, FL.opt_some, FL.opt_none, FL.cst, FL.bin, FL.un1, FL.tst, FL.asB, FL.tnot, FL.tand, FL.tor, FL.bval, FL.vand, FL.vor, FL.vnot, FL.vif, FL.vnil, FL.vcons, FL.vtup, FL.vlst, FL.fzE, FL.cb, FL.has, FL.mutM, FL.aug, FL.augN, FL.stS, FL.tyes, FL.isi, FL.isi2, FL.oso, FL.ono, FL.slL, FL.slS, FL.dg2, FL.opC, List.length_cons, List.length_nil, List.set_cons_zero, List.set_cons_succ, List.getElem?_cons_zero, List.getElem?_cons_succ, if_true, if_false, Bool.false_eq_true, reduceCtorEq, List.nil_append, List.cons_append, List.length_append, List.length_replicate, List.replicate_zero, List.replicate_succ, FL.fz_int, FL.fz_str, FL.fz_bl, FL.fz_non, FL.fz_un, FL.fz_tup, FL.fz_lst, FL.fzs_nil, FL.fzs_cons, FL.addA_int, FL.sub_int, FL.gt_int, FL.lt_int, FL.le_int, FL.ge_int, FL.lt_str', FL.gInt_int, FL.gInt_bl, FL.eqA_int, FL.neA_int, FL.mod_int, FL.thing_non, FL.thing_bl, FL.thing_int, FL.thing_str, FL.thing_tup, FL.thing_lst, FL.thing_dct, FL.opB_O, FL.opB1_some, FL.opB2_some, FL.rd_O, FL.mv_O, FL.cb_O, FL.rdO_some, FL.mvO_some, FL.cbO_some, FL.atI_0, FL.atI_1, FL.atI_2, FL.atI_3, FL.ixA_lst, FL.ixA_tup, FL.isFz_int, FL.isFz_str, FL.isFz_bl, FL.isFz_non, FL.isFz_tup, FL.isFz_lstF, FL.isFzs_nil, FL.isFzs_cons, FL.lenA_lst, FL.lenA_tup, FL.on1_eq, FL.ixAb_lst', FL.ixAb_tup', FL.fzs_mapS, FL.isFzs_mapS, FL.isFzs_mapI, FL.ixL_lst, FL.ixSet_eq, Option.bind_some, Option.bind_none, Option.map_some, Option.map_none, FL.fzs_mapI, Bool.and_true, Bool.true_and, FL.mulA_48271, FL.mulA_39373, FL.mulA_30011, FL.mulA_7919, FL.mulA_2, FL.mulA_3, FL.mod_2147483647, FL.mod_1000000007, FL.mod_998244353, FL.mod_26, FL.div_7, FL.tyP_lst, FL.tyP_tup, FL.gList_lst, FL.gList_tup, FL.gTuple_lst, decide_false, FL.tyM_lst, FL.gAppend_eq, FL.gInsert_eq, FL.minA_str, FL.maxA_str, FL.addA_str, FL.addA_lst, FL.fits_n0, FL.fits_n1, FL.fits_n2, FL.fits_n3, FL.fits_n4, FL.fits_n5, FL.fits_n6, FL.fits_n7, FL.fits_n8, FL.fits_n9, FL.fits_n10, FL.fits_n11, FL.fits_n12, FL.fits_n13, FL.fits_n14, FL.fits_n15, FL.fits_n16, FL.fits_n17, FL.fits_n18, FL.fits_n19, FL.fits_n20, FL.fits_n21, FL.fits_n22, FL.fits_n23, FL.fits_n24, FL.fits_n25, FL.fits_n26, FL.fits_n27, FL.fits_n28, FL.fits_n29, FL.fits_n30, FL.cal, FL.takes, FL.puts, FL.weave, FL.selL, Bool.or_true, Bool.true_or, and_true, true_and, decide_true, and_self, eq_self, ne_eq, not_false_eq_true, FL.div_int, FL.wip, FL.fzs_steps, FL.isFzs_steps, FL.fz_step, FL.isFz_step, FL.thing_step, FL.fz_cart, FL.isFz_cart, FL.thing_cart, FL.fz_ck, FL.isFz_ck, FL.thing_ck, FL.kOf_ck, FL.dget2_ent, FL.dset_ent, FL.fz_part, FL.isFz_part, FL.thing_part, FL.fzs_parts, FL.isFzs_parts, FL.gAppendF_eq, FL.gNeg_1, FL.part_0, FL.part_1, FL.partB_0, FL.partB_1, FL.atI_4, FL.atI_5, FL.pow_3, FL.pow_9, FL.pow_17, FL.pow_29])
namespace FL
open PySem PySem.Spec PyProof.Rows L2
/-! ### a train with carts that turn in the place of all -/
def freeS (s : St3) : St3 := mkS (begS s) (endS s)
def freeP (p : Pt) : Pt := (p.1, p.2.map freeS)
theorem begS_kind {s : St3} (h : StV s) : KindOK (begS s) := by
  unfold begS
  split
  · exact h.ok.2
  · exact h.ok.1
theorem endS_kind {s : St3} (h : StV s) : KindOK (endS s) := by
  unfold endS
  split
  · exact h.ok.1
  · exact h.ok.2
theorem freeS_v {s : St3} (h : StV s) : StV (freeS s) := mkS_v (begS_kind h) (endS_kind h)
theorem runs_free : ∀ {a : Str} {ss : List St3}, runs a ss → runs a (ss.map freeS)
  | _, [], _ => trivial
  | a, s :: ss, h => ⟨(mkS_beg _ _).trans h.1, by rw [show endS (freeS s) = endS s from mkS_end _ _]; exact runs_free h.2⟩
theorem ends_free : ∀ {a : Str} {ss : List St3}, ends a (ss.map freeS) = ends a ss
  | _, [] => rfl
  | a, s :: ss => by
    show ends (endS (freeS s)) (ss.map freeS) = ends (endS s) ss
    rw [show endS (freeS s) = endS s from mkS_end _ _]
    exact ends_free
theorem PtV.free {a : Str} {p : Pt} (h : PtV a p) : PtV a (freeP p) where
  ne := fun z => h.ne (List.map_eq_nil_iff.mp z)
  len := by show (p.2.map freeS).length ≤ 4; rw [List.length_map]; exact h.len
  run := runs_free h.run
  st := fun s hs => by
    obtain ⟨s', hs', rfl⟩ := List.mem_map.mp hs
    exact freeS_v (h.st s' hs')
  n1 := h.n1
  n2 := h.n2
  cl := fun z => by show ends a (p.2.map freeS) = a; rw [ends_free]; exact h.cl z
theorem TrV.free : ∀ {a : Str} {t : List Pt}, TrV a t → TrV a (t.map freeP)
  | _, [], _ => trivial
  | a, p :: t, h => ⟨h.1.free, by
      show TrV (ends a (p.2.map freeS)) (t.map freeP)
      rw [ends_free]
      exact TrV.free h.2⟩
theorem endT_free : ∀ {a : Str} {t : List Pt}, endT a (t.map freeP) = endT a t
  | _, [] => rfl
  | a, p :: t => by
    show endT (ends a (p.2.map freeS)) (t.map freeP) = endT (ends a p.2) t
    rw [ends_free]
    exact endT_free
def AllTT (t : List Pt) : Prop := ∀ p ∈ t, AllT p.2
theorem free_allT (ss : List St3) : AllT (ss.map freeS) := fun s hs => by
  obtain ⟨s', _, rfl⟩ := List.mem_map.mp hs
  rfl
theorem free_allTT (t : List Pt) : AllTT (t.map freeP) := fun p hp => by
  obtain ⟨p', _, rfl⟩ := List.mem_map.mp hp
  exact free_allT p'.2
def pairPV (p : Str × Str) : PV := .tup [.str p.1, .str p.2]
theorem fzs_pairPV (ss : List (Str × Str)) : fzs (ss.map pairPV) = ss.map pairPV := fzs_of (isFzs_map (fun _ => rfl) ss)
theorem gt_str (a b : Str) : gGtA (.str a) (.str b) = some (.bl (ltS b a)) := rfl
/-- what a comprehension's turn leaves, by the thing walked -/
theorem lc_by {α : Type} {P : α → PV} {gg : PV → En → Option En} {e : En → Rs (PV × En)} {vs : List Nat} {f : En → Rs (List PV × En)} {xs : List α} {τ τ1 : En} (Ev : En → Prop) (y : α → PV) (hf : f τ = .ok (xs.map P, τ1)) (hl : xs.length ≤ 16777216) (h0 : Ev τ1)
    (hs : ∀ x ∈ xs, ∀ τ, Ev τ → ∃ τ1 τ3, gg (P x) (wip τ vs) = some τ1 ∧ e τ1 = .ok (y x, τ3) ∧ Ev τ3) :
    ∃ τ', vlc f gg tyes e vs τ = .ok (.lst true (xs.map y), wip τ' vs) ∧ Ev τ' := by
  obtain ⟨acc, τ', h1, h2, ds, h3, h4⟩ := lc_run (gg := gg) (t := tyes) (e := e) (vs := vs) (f := f) (xs := xs.map P) (τ := τ) (τ1 := τ1) (fun done τ acc => Ev τ ∧ ∃ ds, ds = xs.take done.length ∧ acc = ds.map y) hf ⟨h0, [], by simp, rfl⟩ fun done x rest τ acc ex iv => by
    obtain ⟨iv, ds, ed, ea⟩ := iv
    have hx : (xs.map P)[done.length]? = some x := by rw [ex, List.getElem?_append_right (Nat.le_refl _), Nat.sub_self]; rfl
    rw [List.getElem?_map] at hx
    obtain ⟨x', hx', rfl⟩ := Option.map_eq_some_iff.mp hx
    obtain ⟨τ1, τ3, q1, q2, q3⟩ := hs x' (List.mem_of_getElem? hx') τ iv
    have lx := (List.getElem?_eq_some_iff.mp hx').1
    refine ⟨τ1, true, τ1, q1, rfl, (fun z => Bool.noConfusion z), fun _ => ⟨y x', τ3, q2, decide_eq_true ?_, q3, ds ++ [x'], ?_, by rw [ea]; simp⟩⟩
    · rw [ea, ed, List.length_map, List.length_take]; omega
    · rw [ed, List.length_append]
      show _ = xs.take (done.length + 1)
      rw [List.take_add_one, hx']
      rfl
  refine ⟨τ', ?_, h2⟩
  rw [h1, h4, h3, List.length_map, List.take_length]
/-- a loop over things told by others -/
theorem OK_forM {α : Type} {P : α → PV} {g : En → Rs Fl} {G : PV → En → Option En} {τ τ1 : En} {Q : Fl → Prop} {fi : En → Rs (List PV × En)} {xs : List α} (Iv : List α → En → Prop) (hi : fi τ = .ok (xs.map P, τ1)) (h0 : Iv [] τ1)
    (hs : ∀ done x rest τ, xs = done ++ x :: rest → Iv done τ → ∃ τ2, G (P x) τ = some τ2 ∧ OK (g τ2) fun
      | .nx τ3 => Iv (done ++ [x]) τ3
      | .ct τ3 => Iv (done ++ [x]) τ3
      | .bk τ3 => Q (.nx τ3)
      | .rt p τ3 => Q (.rt p τ3))
    (he : ∀ τ, Iv xs τ → Q (.nx τ)) : OK (sfor fi G g τ) Q := by
  have go : ∀ rest done τ, xs = done ++ rest → Iv done τ → OK (forF G g (rest.map P) τ) Q := by
    intro rest
    induction rest with
    | nil =>
      intro done τ ex iv
      rw [List.append_nil] at ex
      subst ex
      exact .mk (he τ iv)
    | cons x rest ih =>
      intro done τ ex iv
      obtain ⟨τ2, hg, hb⟩ := hs done x rest τ ex iv
      obtain ⟨a, ea, k⟩ := OK_ex hb
      rw [List.map_cons]
      unfold forF
      rw [hg]
      simp only [ea, bnd_ok]
      cases a with
      | nx τ3 => exact ih (done ++ [x]) τ3 (by rw [ex]; simp) k
      | ct τ3 => exact ih (done ++ [x]) τ3 (by rw [ex]; simp) k
      | bk τ3 => exact .mk k
      | rt p τ3 => exact .mk k
  unfold sfor
  rw [hi]
  exact go xs [] τ1 rfl h0
theorem freed_ok {o : Bool} {t : List Pt} (hl : t.length ≤ 1000000) (hr : ∀ p ∈ t, p.2.length ≤ 1000000) : OK (F_l_freed [.lst o (t.map partP)]) fun r => r = (.lst true ((t.map freeP).map partP), []) := by
  refine OK_run ?_
  refine OK_seq (OK_asg (by (push_cast <;> rfl)) (by (push_cast <;> rfl)) (sq_nx ?_))
  refine OK_seq (OK_forM (P := partP) (xs := t) (τ1 := [.lst false (t.map partP), .lst true [], .un, .un, .un, .un, .un]) (fun ds τ => ∃ (a b c : PV), τ = [.lst false (t.map partP), .lst true ((ds.map freeP).map partP), a, b, c, .un, .un])
    (by push_cast [ilst] <;> rfl) ⟨_, _, _, rfl⟩ ?_ ?_)
  · rintro ds p rest τ ex ⟨a, b, c, rfl⟩
    have hp : p ∈ t := by rw [ex]; simp
    have lt := congrArg List.length ex
    simp only [List.length_append, List.length_cons] at lt
    have hfit : fits (((ds.map freeP).map partP).length + 1) = true := fits_of (by rw [List.length_map, List.length_map]; omega)
    refine ⟨[.lst false (t.map partP), .lst true ((ds.map freeP).map partP), .int p.1, .lst false (p.2.map stepP), c, .un, .un], rfl, ?_⟩
    obtain ⟨τ', h1, v, h2⟩ := lc_by (P := stepP) (gg := stN 5) (e := vtup (vcons (cal [false] F_l_begin [] (vcons (rd 5) vnil)) (vcons (cal [false] F_l_end [] (vcons (rd 5) vnil)) vnil))) (vs := [5]) (f := ilst (rd 3)) (xs := p.2) (τ := [.lst false (t.map partP), .lst true ((ds.map freeP).map partP), .int p.1, .lst false (p.2.map stepP), c, .un, .un]) (τ1 := [.lst false (t.map partP), .lst true ((ds.map freeP).map partP), .int p.1, .lst false (p.2.map stepP), c, .un, .un])
      (fun τ => ∃ v, τ = [.lst false (t.map partP), .lst true ((ds.map freeP).map partP), .int p.1, .lst false (p.2.map stepP), c, v, .un]) (fun s => pairPV (begS s, endS s))
      (by push_cast [ilst] <;> rfl) (by have := hr p hp; omega) ⟨_, rfl⟩ fun s hs τ ⟨v, e⟩ => by
        subst e
        have e1 := lbegin_eq s
        have e2 := lend_eq s
        exact ⟨[.lst false (t.map partP), .lst true ((ds.map freeP).map partP), .int p.1, .lst false (p.2.map stepP), c, stepP s, .un], [.lst false (t.map partP), .lst true ((ds.map freeP).map partP), .int p.1, .lst false (p.2.map stepP), c, stepP s, .un], rfl, by push_cast [e1, e2] <;> rfl, _, rfl⟩
    subst h2
    have em : p.2.map (fun s => pairPV (begS s, endS s)) = (p.2.map fun s => (begS s, endS s)).map pairPV := by rw [List.map_map]; rfl
    rw [em] at h1
    refine OK_seq (OK_asg h1 (τ' := [.lst false (t.map partP), .lst true ((ds.map freeP).map partP), .int p.1, .lst false (p.2.map stepP), .lst true ((p.2.map fun s => (begS s, endS s)).map pairPV), .un, .un]) rfl (sq_nx ?_))
    obtain ⟨τ', h1, v, h2⟩ := lc_by (P := pairPV) (gg := stN 6) (e := vtup (vcons (vtup (vcons (cb (on1 gMinT) (vcons (rd 6) vnil)) (vcons (cb (on1 gMaxT) (vcons (rd 6) vnil)) (vcons (cst (.bl true)) vnil)))) (vcons (bin gGtA (opB ixAb 6 (cst (.int 0))) (opB ixAb 6 (cst (.int 1)))) vnil))) (vs := [6]) (f := ilst (rd 4)) (xs := p.2.map fun s => (begS s, endS s))
      (τ := [.lst false (t.map partP), .lst true ((ds.map freeP).map partP), .int p.1, .lst false (p.2.map stepP), .lst true ((p.2.map fun s => (begS s, endS s)).map pairPV), .un, .un]) (τ1 := [.lst false (t.map partP), .lst true ((ds.map freeP).map partP), .int p.1, .lst false (p.2.map stepP), .lst false ((p.2.map fun s => (begS s, endS s)).map pairPV), .un, .un])
      (fun τ => ∃ v, τ = [.lst false (t.map partP), .lst true ((ds.map freeP).map partP), .int p.1, .lst false (p.2.map stepP), .lst false ((p.2.map fun s => (begS s, endS s)).map pairPV), .un, v]) (fun q => stepP (mkS q.1 q.2))
      (by push_cast [ilst, fzs_pairPV] <;> rfl) (by have := hr p hp; rw [List.length_map]; omega) ⟨_, rfl⟩ fun q hq τ ⟨v, e⟩ => by
        subst e
        have c0 : ixAb (pairPV q) (.int 0) = some (.str q.1) := rfl
        have c1 : ixAb (pairPV q) (.int 1) = some (.str q.2) := rfl
        have d0 : gMinT (pairPV q) = some (.str (HK.minS q.1 q.2)) := rfl
        have d1 : gMaxT (pairPV q) = some (.str (HK.maxS q.1 q.2)) := rfl
        have t0 : Thing (pairPV q) = True := eq_true rfl
        have f0 : fz (pairPV q) = pairPV q := rfl
        exact ⟨[.lst false (t.map partP), .lst true ((ds.map freeP).map partP), .int p.1, .lst false (p.2.map stepP), .lst false ((p.2.map fun s => (begS s, endS s)).map pairPV), .un, pairPV q], [.lst false (t.map partP), .lst true ((ds.map freeP).map partP), .int p.1, .lst false (p.2.map stepP), .lst false ((p.2.map fun s => (begS s, endS s)).map pairPV), .un, pairPV q], rfl, by push_cast [c0, c1, d0, d1, t0, f0] <;> rfl, _, rfl⟩
    subst h2
    have em : (p.2.map fun s => (begS s, endS s)).map (fun q => stepP (mkS q.1 q.2)) = (p.2.map freeS).map stepP := by rw [List.map_map, List.map_map]; rfl
    rw [em] at h1
    refine OK_drop (τ' := [.lst false (t.map partP), .lst true ((ds.map freeP).map partP ++ [partP (freeP p)]), .int p.1, .lst false (p.2.map stepP), .lst false ((p.2.map fun s => (begS s, endS s)).map pairPV), .un, .un]) (by push_cast [h1, hfit] <;> rfl) ⟨.int p.1, .lst false (p.2.map stepP), .lst false ((p.2.map fun s => (begS s, endS s)).map pairPV), ?_⟩
    rw [List.map_append, List.map_append]
    rfl
  · rintro τ ⟨a, b, c, rfl⟩
    exact sq_nx (OK_ret (p := .lst true ((t.map freeP).map partP)) (τ' := [.lst false (t.map partP), .un, a, b, c, .un, .un]) (by (push_cast <;> rfl)) rfl)
end FL

namespace FL
open PySem PySem.Spec PyProof.Rows L2
/-! ### turned about -/
theorem nabout_eq {s : St3} (h : s.t = true) : F_n_about [stepP s] = .ok (stepP (flip s), []) := by
  have h2 := two_eq s
  obtain ⟨a, b, t, u⟩ := s
  cases h
  refine runF_rt (τ' := [stepP ⟨a, b, true, u⟩, cartP ⟨a, b, true, u⟩, .bl u]) (sseq_nx (τ' := [stepP ⟨a, b, true, u⟩, cartP ⟨a, b, true, u⟩, .bl u]) rfl (sseq_nx (τ' := [stepP ⟨a, b, true, u⟩, cartP ⟨a, b, true, u⟩, .bl u]) (sif_f rfl rfl) (sret_ok ?_)))
  unfold flip
  by_cases e : a = b
  · subst e
    have h3 : F_has_two_steps [cartP ⟨a, a, true, u⟩] = .ok (.bl false, []) := by rw [h2]; simp
    push_cast [h3, vif] <;> rfl
  · have h3 : F_has_two_steps [cartP ⟨a, b, true, u⟩] = .ok (.bl true, []) := by rw [h2]; simp [e]
    push_cast [h3, vif, e] <;> rfl
def aboutR (ss : List St3) : List St3 := ss.reverse.map flip
def aboutP (p : Pt) : Pt := (p.1, aboutR p.2)
def aboutT (t : List Pt) : List Pt := t.reverse.map aboutP
theorem nrow_about_ok {o : Bool} {ss : List St3} (h : AllT ss) (hl : ss.length ≤ 1000000) : F_n_row_about [.lst o (ss.map stepP)] = .ok (.lst true ((aboutR ss).map stepP), []) := by
  obtain ⟨_, hF, k⟩ := OK_ex (first_fixed_ok (o := false) (ss := ss))
  rcases k with ⟨rfl, _⟩ | ⟨n, rfl, hn⟩
  · have er : (ss.map stepP).reverse = ss.reverse.map stepP := List.map_reverse.symm
    obtain ⟨τ', h1, v, h2⟩ := lc_by (P := stepP) (gg := stN 2) (e := cal [false] F_n_about [] (vcons (rd 2) vnil)) (vs := [2]) (f := ilst (revL (rd 0))) (xs := ss.reverse) (τ := [.lst false (ss.map stepP), .non, .un]) (τ1 := [.lst false (ss.map stepP), .non, .un])
      (fun τ => ∃ v, τ = [.lst false (ss.map stepP), .non, v]) (fun s => stepP (flip s))
      (by push_cast [ilst, revL, er] <;> rfl) (by rw [List.length_reverse]; omega) ⟨_, rfl⟩ fun s hs τ ⟨v, e⟩ => by
        subst e
        have ha := nabout_eq (h s (List.mem_reverse.mp hs))
        exact ⟨[.lst false (ss.map stepP), .non, stepP s], [.lst false (ss.map stepP), .non, stepP s], rfl, by push_cast [ha] <;> rfl, _, rfl⟩
    subst h2
    refine runF_rt (τ' := [.lst false (ss.map stepP), .non, .un]) (sseq_nx (τ' := [.lst false (ss.map stepP), .non, .un]) (sasg_ok (by (push_cast [hF] <;> rfl)) (by (push_cast <;> rfl))) (sseq_nx (τ' := [.lst false (ss.map stepP), .non, .un]) (sif_f rfl rfl) (sret_ok ?_)))
    rw [h1]
    unfold aboutR
    rw [List.map_map]
    rfl
  · exact absurd h hn.notAll
def partO (p : Pt) : PV := .tup [.int p.1, .lst true (p.2.map stepP)]
theorem fz_partO (p : Pt) : fz (partO p) = partP p := by
  unfold partO partP
  simp only [fz_tup, fzs_cons, fz_int, fz_lst, fzs_steps, fzs_nil]
theorem fzs_partsO (t : List Pt) : fzs (t.map partO) = t.map partP := by
  rw [fzs_map, List.map_map]
  exact List.map_congr_left fun p _ => fz_partO p
theorem thing_partO (p : Pt) : Thing (partO p) = True := eq_true rfl
local macro_rules
  | `(tactic| push_cast [$ls,*] at $h:ident) => `(tactic| simp only [FL.stN, FL.stNil, FL.stCons, FL.stTup, FL.spar, FL.bnd_ok, FL.bnd_err, FL.bnd_no, FL.opt_some, FL.opt_none, FL.cst, FL.bin, FL.un1, FL.tst, FL.asB, FL.tnot, FL.tand, FL.tor, FL.bval, FL.vand, FL.vor, FL.vnot, FL.vif, FL.vnil, FL.vcons, FL.vtup, FL.vlst, FL.fzE, FL.cb, FL.has, FL.mutM, FL.aug, FL.augN, FL.stS, FL.tyes, FL.isi, FL.isi2, FL.oso, FL.ono, FL.slL, FL.slS, FL.dg2, FL.opC, List.length_cons, List.length_nil, List.set_cons_zero, List.set_cons_succ, List.getElem?_cons_zero, List.getElem?_cons_succ, if_true, if_false, Bool.false_eq_true, reduceCtorEq, List.nil_append, List.cons_append, List.length_append, List.length_replicate, List.replicate_zero, List.replicate_succ, FL.fz_int, FL.fz_str, FL.fz_bl, FL.fz_non, FL.fz_un, FL.fz_tup, FL.fz_lst, FL.fzs_nil, FL.fzs_cons, FL.addA_int, FL.sub_int, FL.gt_int, FL.lt_int, FL.le_int, FL.ge_int, FL.lt_str', FL.gInt_int, FL.gInt_bl, FL.eqA_int, FL.neA_int, FL.mod_int, FL.thing_non, FL.thing_bl, FL.thing_int, FL.thing_str, FL.thing_tup, FL.thing_lst, FL.thing_dct, FL.opB_O, FL.opB1_some, FL.opB2_some, FL.rd_O, FL.mv_O, FL.cb_O, FL.rdO_some, FL.mvO_some, FL.cbO_some, FL.atI_0, FL.atI_1, FL.atI_2, FL.atI_3, FL.ixA_lst, FL.ixA_tup, FL.isFz_int, FL.isFz_str, FL.isFz_bl, FL.isFz_non, FL.isFz_tup, FL.isFz_lstF, FL.isFzs_nil, FL.isFzs_cons, FL.lenA_lst, FL.lenA_tup, FL.on1_eq, FL.ixAb_lst', FL.ixAb_tup', FL.fzs_mapS, FL.isFzs_mapS, FL.isFzs_mapI, FL.ixL_lst, FL.ixSet_eq, Option.bind_some, Option.bind_none, Option.map_some, Option.map_none, FL.fzs_mapI, Bool.and_true, Bool.true_and, FL.mulA_48271, FL.mulA_39373, FL.mulA_30011, FL.mulA_7919, FL.mulA_2, FL.mulA_3, FL.mod_2147483647, FL.mod_1000000007, FL.mod_998244353, FL.mod_26, FL.div_7, FL.tyP_lst, FL.tyP_tup, FL.gList_lst, FL.gList_tup, FL.gTuple_lst, decide_false, FL.tyM_lst, FL.gAppend_eq, FL.gInsert_eq, FL.minA_str, FL.maxA_str, FL.addA_str, FL.addA_lst, FL.fits_n0, FL.fits_n1, FL.fits_n2, FL.fits_n3, FL.fits_n4, FL.fits_n5, FL.fits_n6, FL.fits_n7, FL.fits_n8, FL.fits_n9, FL.fits_n10, FL.fits_n11, FL.fits_n12, FL.fits_n13, FL.fits_n14, FL.fits_n15, FL.fits_n16, FL.fits_n17, FL.fits_n18, FL.fits_n19, FL.fits_n20, FL.fits_n21, FL.fits_n22, FL.fits_n23, FL.fits_n24, FL.fits_n25, FL.fits_n26, FL.fits_n27, FL.fits_n28, FL.fits_n29, FL.fits_n30, FL.cal, FL.takes, FL.puts, FL.weave, FL.selL, Bool.or_true, Bool.true_or, and_true, true_and, decide_true, and_self, eq_self, ne_eq, not_false_eq_true, FL.div_int, FL.wip, FL.fzs_steps, FL.isFzs_steps, FL.fz_step, FL.isFz_step, FL.thing_step, FL.fz_cart, FL.isFz_cart, FL.thing_cart, FL.fz_ck, FL.isFz_ck, FL.thing_ck, FL.kOf_ck, FL.dget2_ent, FL.dset_ent, FL.fz_part, FL.isFz_part, FL.thing_part, FL.fzs_parts, FL.isFzs_parts, FL.gAppendF_eq, FL.gNeg_1, FL.part_0, FL.part_1, FL.partB_0, FL.partB_1, FL.atI_4, FL.atI_5, FL.pow_3, FL.pow_9, FL.pow_17, FL.pow_29, FL.fz_partO, FL.fzs_partsO, FL.thing_partO, $ls,*] at $h:ident)
  | `(tactic| push_cast [$ls,*]) => `(tactic| simp only [FL.stN, FL.stNil, FL.stCons, FL.stTup, FL.spar, FL.bnd_ok, FL.bnd_err, FL.bnd_no, FL.opt_some, FL.opt_none, FL.cst, FL.bin, FL.un1, FL.tst, FL.asB, FL.tnot, FL.tand, FL.tor, FL.bval, FL.vand, FL.vor, FL.vnot, FL.vif, FL.vnil, FL.vcons, FL.vtup, FL.vlst, FL.fzE, FL.cb, FL.has, FL.mutM, FL.aug, FL.augN, FL.stS, FL.tyes, FL.isi, FL.isi2, FL.oso, FL.ono, FL.slL, FL.slS, FL.dg2, FL.opC, List.length_cons, List.length_nil, List.set_cons_zero, List.set_cons_succ, List.getElem?_cons_zero, List.getElem?_cons_succ, if_true, if_false, Bool.false_eq_true, reduceCtorEq, List.nil_append, List.cons_append, List.length_append, List.length_replicate, List.replicate_zero, List.replicate_succ, FL.fz_int, FL.fz_str, FL.fz_bl, FL.fz_non, FL.fz_un, FL.fz_tup, FL.fz_lst, FL.fzs_nil, FL.fzs_cons, FL.addA_int, FL.sub_int, FL.gt_int, FL.lt_int, FL.le_int, FL.ge_int, FL.lt_str', FL.gInt_int, FL.gInt_bl, FL.eqA_int, FL.neA_int, FL.mod_int, FL.thing_non, FL.thing_bl, FL.thing_int, FL.thing_str, FL.thing_tup, FL.thing_lst, FL.thing_dct, FL.opB_O, FL.opB1_some, FL.opB2_some, FL.rd_O, FL.mv_O, FL.cb_O, FL.rdO_some, FL.mvO_some, FL.cbO_some, FL.atI_0, FL.atI_1, FL.atI_2, FL.atI_3, FL.ixA_lst, FL.ixA_tup, FL.isFz_int, FL.isFz_str, FL.isFz_bl, FL.isFz_non, FL.isFz_tup, FL.isFz_lstF, FL.isFzs_nil, FL.isFzs_cons, FL.lenA_lst, FL.lenA_tup, FL.on1_eq, FL.ixAb_lst', FL.ixAb_tup', FL.fzs_mapS, FL.isFzs_mapS, FL.isFzs_mapI, FL.ixL_lst, FL.ixSet_eq, Option.bind_some, Option.bind_none, Option.map_some, Option.map_none, FL.fzs_mapI, Bool.and_true, Bool.true_and, FL.mulA_48271, FL.mulA_39373, FL.mulA_30011, FL.mulA_7919, FL.mulA_2, FL.mulA_3, FL.mod_2147483647, FL.mod_1000000007, FL.mod_998244353, FL.mod_26, FL.div_7, FL.tyP_lst, FL.tyP_tup, FL.gList_lst, FL.gList_tup, FL.gTuple_lst, decide_false, FL.tyM_lst, FL.gAppend_eq, FL.gInsert_eq, FL.minA_str, FL.maxA_str, FL.addA_str, FL.addA_lst, FL.fits_n0, FL.fits_n1, FL.fits_n2, FL.fits_n3, FL.fits_n4, FL.fits_n5, FL.fits_n6, FL.fits_n7, FL.fits_n8, FL.fits_n9, FL.fits_n10, FL.fits_n11, FL.fits_n12, FL.fits_n13, FL.fits_n14, FL.fits_n15, FL.fits_n16, FL.fits_n17, FL.fits_n18, FL.fits_n19, FL.fits_n20, FL.fits_n21, FL.fits_n22, FL.fits_n23, FL.fits_n24, FL.fits_n25, FL.fits_n26, FL.fits_n27, FL.fits_n28, FL.fits_n29, FL.fits_n30, FL.cal, FL.takes, FL.puts, FL.weave, FL.selL, Bool.or_true, Bool.true_or, and_true, true_and, decide_true, and_self, eq_self, ne_eq, not_false_eq_true, FL.div_int, FL.wip, FL.fzs_steps, FL.isFzs_steps, FL.fz_step, FL.isFz_step, FL.thing_step, FL.fz_cart, FL.isFz_cart, FL.thing_cart, FL.fz_ck, FL.isFz_ck, FL.thing_ck, FL.kOf_ck, FL.dget2_ent, FL.dset_ent, FL.fz_part, FL.isFz_part, FL.thing_part, FL.fzs_parts, FL.isFzs_parts, FL.gAppendF_eq, FL.gNeg_1, FL.part_0, FL.part_1, FL.partB_0, FL.partB_1, FL.atI_4, FL.atI_5, FL.pow_3, FL.pow_9, FL.pow_17, FL.pow_29, FL.fz_partO, FL.fzs_partsO, FL.thing_partO, $ls,*])
  | `(tactic| push_cast) => `(tactic| simp only [FL.stN, FL.stNil, FL.stCons, FL.stTup, FL.spar, FL.bnd_ok, FL.bnd_err, FL.bnd_no, FL.opt_some, FL.opt_none, FL.cst, FL.bin, FL.un1, FL.tst, FL.asB, FL.tnot, FL.tand, FL.tor, FL.bval, FL.vand, FL.vor, FL.vnot, FL.vif, FL.vnil, FL.vcons, FL.vtup, FL.vlst, FL.fzE, FL.cb, FL.has, FL.mutM, FL.aug, FL.augN, FL.stS, FL.tyes, FL.isi, FL.isi2, FL.oso, FL.ono, FL.slL, FL.slS, FL.dg2, FL.opC, List.length_cons, List.length_nil, List.set_cons_zero, List.set_cons_succ, List.getElem?_cons_zero, List.getElem?_cons_succ, if_true, if_false, Bool.false_eq_true, reduceCtorEq, List.nil_append, List.cons_append, List.length_append, List.length_replicate, List.replicate_zero, List.replicate_succ, FL.fz_int, FL.fz_str, FL.fz_bl, FL.fz_non, FL.fz_un, FL.fz_tup, FL.fz_lst, FL.fzs_nil, FL.fzs_cons, FL.addA_int, FL.sub_int, FL.gt_int, FL.lt_int, FL.le_int, FL.ge_int, FL.lt_str', FL.gInt_int, FL.gInt_bl, FL.eqA_int, FL.neA_int, FL.mod_int, FL.thing_non, FL.thing_bl, FL.thing_int, FL.thing_str, FL.thing_tup, FL.thing_lst, FL.thing_dct, FL.opB_O, FL.opB1_some, FL.opB2_some, FL.rd_O, FL.mv_O, FL.cb_O, FL.rdO_some, FL.mvO_some, FL.cbO_some, FL.atI_0, FL.atI_1, FL.atI_2, FL.atI_3, FL.ixA_lst, FL.ixA_tup, FL.isFz_int, FL.isFz_str, FL.isFz_bl, FL.isFz_non, FL.isFz_tup, FL.isFz_lstF, FL.isFzs_nil, FL.isFzs_cons, FL.lenA_lst, FL.lenA_tup, FL.on1_eq, FL.ixAb_lst', FL.ixAb_tup', FL.fzs_mapS, FL.isFzs_mapS, FL.isFzs_mapI, FL.ixL_lst, FL.ixSet_eq, Option.bind_some, Option.bind_none, Option.map_some, Option.map_none, FL.fzs_mapI, Bool.and_true, Bool.true_and, FL.mulA_48271, FL.mulA_39373, FL.mulA_30011, FL.mulA_7919, FL.mulA_2, FL.mulA_3, FL.mod_2147483647, FL.mod_1000000007, FL.mod_998244353, FL.mod_26, FL.div_7, FL.tyP_lst, FL.tyP_tup, FL.gList_lst, FL.gList_tup, FL.gTuple_lst, decide_false, FL.tyM_lst, FL.gAppend_eq, FL.gInsert_eq, FL.minA_str, FL.maxA_str, FL.addA_str, FL.addA_lst, FL.fits_n0, FL.fits_n1, FL.fits_n2, FL.fits_n3, FL.fits_n4, FL.fits_n5, FL.fits_n6, FL.fits_n7, FL.fits_n8, FL.fits_n9, FL.fits_n10, FL.fits_n11, FL.fits_n12, FL.fits_n13, FL.fits_n14, FL.fits_n15, FL.fits_n16, FL.fits_n17, FL.fits_n18, FL.fits_n19, FL.fits_n20, FL.fits_n21, FL.fits_n22, FL.fits_n23, FL.fits_n24, FL.fits_n25, FL.fits_n26, FL.fits_n27, FL.fits_n28, FL.fits_n29, FL.fits_n30, FL.cal, FL.takes, FL.puts, FL.weave, FL.selL, Bool.or_true, Bool.true_or, and_true, true_and, decide_true, and_self, eq_self, ne_eq, not_false_eq_true, FL.div_int, FL.wip, FL.fzs_steps, FL.isFzs_steps, FL.fz_step, FL.isFz_step, FL.thing_step, FL.fz_cart, FL.isFz_cart, FL.thing_cart, FL.fz_ck, FL.isFz_ck, FL.thing_ck, FL.kOf_ck, FL.dget2_ent, FL.dset_ent, FL.fz_part, FL.isFz_part, FL.thing_part, FL.fzs_parts, FL.isFzs_parts, FL.gAppendF_eq, FL.gNeg_1, FL.part_0, FL.part_1, FL.partB_0, FL.partB_1, FL.atI_4, FL.atI_5, FL.pow_3, FL.pow_9, FL.pow_17, FL.pow_29, FL.fz_partO, FL.fzs_partsO, FL.thing_partO])
theorem mul_len (n : Int) {l : Nat} (h : l ≤ 1000000) : gMulA (.int n) (.int (l : Nat)) = some (.int (n * (l : Nat))) := mulA_int (cMul_r (by omega) (by omega))
theorem train_about_ok {o : Bool} {t : List Pt} (h : AllTT t) (hl : t.length ≤ 1000000) (hr : ∀ p ∈ t, p.2.length ≤ 1000000) : OK (F_train_about [.lst o (t.map partP)]) fun r => r = (.lst true ((aboutT t).map partO), []) := by
  refine OK_run ?_
  refine OK_seq (OK_asg (by (push_cast <;> rfl)) (by (push_cast <;> rfl)) (sq_nx ?_))
  refine OK_seq (OK_forM (P := partP) (xs := t) (τ1 := [.lst false (t.map partP), .int 0, .un, .un, .un]) (fun _ τ => ∃ (a b c : PV) (n : Int), τ = [.lst false (t.map partP), .int n, a, b, c])
    (by push_cast [ilst] <;> rfl) ⟨_, _, _, _, rfl⟩ ?_ ?_)
  · rintro ds p rest τ ex ⟨a, b, c, n, rfl⟩
    have hp : p ∈ t := by rw [ex]; simp
    refine ⟨[.lst false (t.map partP), .int n, .int p.1, .lst false (p.2.map stepP), c], rfl, ?_⟩
    obtain ⟨_, hF, k⟩ := OK_ex (first_fixed_ok (o := false) (ss := p.2))
    have hm := mul_len p.1 (hr p hp)
    rcases k with ⟨rfl, _⟩ | ⟨m, rfl, hm'⟩
    · refine OK_seq (OK_asg (by (push_cast [hF] <;> rfl)) (by (push_cast <;> rfl)) (sq_nx ?_))
      refine OK_seq (OK_if (b := false) (τ' := [.lst false (t.map partP), .int n, .int p.1, .lst false (p.2.map stepP), .non]) rfl (fun z => nomatch z) fun _ => OK_next (sq_nx ?_))
      exact OK_asg (p := .int (n + p.1 * ((p.2.length : Nat) : Int))) (by push_cast [List.length_map, hm] <;> rfl) (by (push_cast <;> rfl)) ⟨_, _, _, _, rfl⟩
    · exact absurd (h p hp) hm'.notAll
  · rintro τ ⟨a, b, c, n, rfl⟩
    have er : (t.map partP).reverse = t.reverse.map partP := List.map_reverse.symm
    obtain ⟨τ', h1, v, w, h2⟩ := lc_by (P := partP) (gg := stTup 2 (stCons (stN 2) (stCons (stN 3) stNil))) (e := vtup (vcons (rd 2) (vcons (cal [false] F_n_row_about [] (vcons (rd 3) vnil)) vnil))) (vs := [2, 3]) (f := ilst (revL (rd 0))) (xs := t.reverse) (τ := [.lst false (t.map partP), .int n, a, b, c]) (τ1 := [.lst false (t.map partP), .int n, a, b, c])
      (fun τ => ∃ v w, τ = [.lst false (t.map partP), .int n, v, w, c]) (fun p => partO (aboutP p))
      (by push_cast [ilst, revL, er] <;> rfl) (by rw [List.length_reverse]; omega) ⟨_, _, rfl⟩ fun p hp τ ⟨v, w, e⟩ => by
        subst e
        have hp' := List.mem_reverse.mp hp
        have ha := nrow_about_ok (o := false) (h p hp') (hr p hp')
        exact ⟨[.lst false (t.map partP), .int n, .int p.1, .lst false (p.2.map stepP), c], [.lst false (t.map partP), .int n, .int p.1, .lst false (p.2.map stepP), c], rfl, by push_cast [ha] <;> rfl, _, _, rfl⟩
    subst h2
    refine sq_nx (OK_ret (p := .lst true (t.reverse.map fun p => partO (aboutP p))) h1 ?_)
    unfold aboutT
    rw [List.map_map]
    rfl
/-! ### length, ends -/
def lenT (t : List Pt) : Int := (t.map fun p => p.1 * (p.2.length : Int)).sum
theorem length_ok {o : Bool} {t : List Pt} (hl : t.length ≤ 1000000) (hr : ∀ p ∈ t, p.2.length ≤ 1000000) : F_length [.lst o (t.map partP)] = .ok (.int (lenT t), []) := by
  obtain ⟨τ', h1, v, w, h2⟩ := lc_by (P := partP) (gg := stTup 2 (stCons (stN 1) (stCons (stN 2) stNil))) (e := bin gMulA (rd 1) (cbB gLenA 2)) (vs := [1, 2]) (f := ilst (rd 0)) (xs := t) (τ := [.lst o (t.map partP), .un, .un]) (τ1 := [.lst false (t.map partP), .un, .un])
      (fun τ => ∃ v w, τ = [.lst false (t.map partP), v, w]) (fun p => .int (p.1 * (p.2.length : Int)))
      (by push_cast [ilst] <;> rfl) (by omega) ⟨_, _, rfl⟩ fun p hp τ ⟨v, w, e⟩ => by
        subst e
        have hm := mul_len p.1 (hr p hp)
        exact ⟨[.lst false (t.map partP), .int p.1, .lst false (p.2.map stepP)], [.lst false (t.map partP), .int p.1, .lst false (p.2.map stepP)], rfl, by push_cast [List.length_map, hm] <;> rfl, _, _, rfl⟩
  subst h2
  have e : (t.map fun p => PV.int (p.1 * (p.2.length : Int))) = (t.map fun p => p.1 * (p.2.length : Int)).map .int := by rw [List.map_map]; rfl
  rw [e] at h1
  have hs : gSum (.lst true ((t.map fun p => p.1 * (p.2.length : Int)).map .int)) = some (.int (lenT t)) := by
    unfold gSum
    simp only [ints_map]
    rfl
  exact runF_rt (τ' := [.lst false (t.map partP), .un, .un]) (sret_ok (by push_cast [h1, hs] <;> rfl))
theorem couple_eq (s u : St3) : F_couple [stepP s, stepP u] = .ok (.bl (decide (endS s = begS u)), []) := by
  have h1 := end_eq s
  have h2 := begin_eq u
  exact runF_rt (τ' := [stepP s, stepP u]) (sret_ok (by push_cast [h1, h2, eqA_str] <;> rfl))
theorem parts_couple_ok {a b : Str} {p q : Pt} (hp : PtV a p) (hq : PtV b q) : F__parts_couple [partP p, partP q] = .ok (.bl (decide (ends a p.2 = b)), []) := by
  obtain ⟨s, hs, _⟩ := last_at hp.ne
  obtain ⟨u, hu, _⟩ := first_at hq.ne
  have a1 : L2.atI (p.2.map stepP) (-1) = some (stepP s) := atI_neg1 (by rw [List.length_map, List.getElem?_map, hs]; rfl)
  have a2 : L2.atI (q.2.map stepP) 0 = some (stepP u) := atI_ofNat (j := 0) (by rw [List.getElem?_map, hu]; rfl)
  have e1 := ends_last (a := a) hs
  have e2 := runs_first hq.run hu
  have h := couple_eq s u
  rw [e1, e2] at h
  exact runF_rt (τ' := [partP p, partP q]) (sret_ok (by push_cast [a1, a2, h] <;> rfl))
theorem TrV_first : ∀ {a : Str} {t : List Pt} {p : Pt}, TrV a t → t[0]? = some p → PtV a p
  | a, q :: t, p, h, e => by
    have : q = p := by simpa using e
    subst this
    exact h.1
theorem TrV_last : ∀ {a : Str} {t : List Pt} {p : Pt}, TrV a t → t[t.length - 1]? = some p → ∃ b, PtV b p ∧ ends b p.2 = endT a t
  | _, [], _, _, h => by simp at h
  | a, [x], s, v, h => by
    have : x = s := by simpa using h
    subst this
    exact ⟨a, v.1, rfl⟩
  | a, x :: y :: xs, s, v, h => by
    have h : (y :: xs)[(y :: xs).length - 1]? = some s := by
      rw [List.length_cons, List.length_cons, Nat.add_sub_cancel, List.getElem?_cons_succ] at h
      simpa using h
    exact TrV_last (a := ends a x.2) v.2 h
theorem train_ends_ok {a : Str} {o : Bool} {t : List Pt} (h : TrV a t) (ne : t ≠ []) : F_train_ends [.lst o (t.map partP)] = .ok (.tup [.str a, .str (endT a t)], []) := by
  obtain ⟨p, hp, _⟩ := first_at ne
  obtain ⟨q, hq, _⟩ := last_at ne
  have vp := TrV_first h hp
  obtain ⟨b, vq, eq⟩ := TrV_last h hq
  obtain ⟨s1, hs1, _⟩ := first_at vp.ne
  obtain ⟨s2, hs2, _⟩ := last_at vp.ne
  obtain ⟨s3, hs3, _⟩ := first_at vq.ne
  obtain ⟨s4, hs4, _⟩ := last_at vq.ne
  have r1 := row_ends_ok (o := false) hs1 hs2
  have r2 := row_ends_ok (o := false) hs3 hs4
  have e1 := runs_first vp.run hs1
  have e2 := (ends_last (a := b) hs4).trans eq
  have a1 : L2.atI (t.map partP) 0 = some (partP p) := atI_ofNat (j := 0) (by rw [List.getElem?_map, hp]; rfl)
  have a2 : L2.atI (t.map partP) (-1) = some (partP q) := atI_neg1 (by rw [List.length_map, List.getElem?_map, hq]; rfl)
  refine runF_rt (τ' := [.lst o (t.map partP)]) (sret_ok ?_)
  push_cast [a1, a2, r1, r2, e1, e2] <;> rfl
theorem joined_ok {a b : Str} {o o' : Bool} {t u : List Pt} (ht : TrV a t) (hu : TrV b u) (nt : t ≠ []) (nu : u ≠ []) (e : endT a t = b) (lt : t.length + u.length ≤ 1000000) : F_joined [.lst o (t.map partP), .lst o' (u.map partP)] = .ok (.lst true ((t ++ u).map partO), []) := by
  obtain ⟨p, hp, _⟩ := last_at nt
  obtain ⟨q, hq, _⟩ := first_at nu
  obtain ⟨c, vp, ep⟩ := TrV_last ht hp
  have vq := TrV_first hu hq
  have hc := parts_couple_ok vp vq
  rw [ep, e, decide_eq_true rfl] at hc
  have a1 : L2.atI (t.map partP) (-1) = some (partP p) := atI_neg1 (by rw [List.length_map, List.getElem?_map, hp]; rfl)
  have a2 : L2.atI (u.map partP) 0 = some (partP q) := atI_ofNat (j := 0) (by rw [List.getElem?_map, hq]; rfl)
  have hf : fits ((t.map partP).length + (u.map partP).length) = true := fits_of (by rw [List.length_map, List.length_map]; omega)
  have hz : fzs (t.map partP ++ u.map partP) = (t ++ u).map partP := by rw [← List.map_append, fzs_parts]
  obtain ⟨τ', h1, v, w, h2⟩ := lc_by (P := partP) (gg := stTup 2 (stCons (stN 2) (stCons (stN 3) stNil))) (e := vtup (vcons (rd 2) (vcons (cb gList (vcons (rd 3) vnil)) vnil))) (vs := [2, 3]) (f := ilst (vlst (vstar (rd 0) (vstar (rd 1) vnil)))) (xs := t ++ u) (τ := [.lst o (t.map partP), .lst o' (u.map partP), .un, .un]) (τ1 := [.lst false (t.map partP), .lst false (u.map partP), .un, .un])
      (fun τ => ∃ v w, τ = [.lst false (t.map partP), .lst false (u.map partP), v, w]) partO
      (by push_cast [ilst, vstar, List.append_nil, hf, hz] <;> rfl) (by rw [List.length_append]; omega) ⟨_, _, rfl⟩ fun p hp τ ⟨v, w, e⟩ => by
        subst e
        exact ⟨[.lst false (t.map partP), .lst false (u.map partP), .int p.1, .lst false (p.2.map stepP)], [.lst false (t.map partP), .lst false (u.map partP), .int p.1, .lst false (p.2.map stepP)], rfl, by push_cast <;> rfl, _, _, rfl⟩
  subst h2
  exact runF_rt (τ' := [.lst false (t.map partP), .lst false (u.map partP), .un, .un]) (sseq_nx (τ' := [.lst o (t.map partP), .lst o' (u.map partP), .un, .un]) (sif_f (τ' := [.lst o (t.map partP), .lst o' (u.map partP), .un, .un]) (by push_cast [a1, a2, hc] <;> rfl) rfl) (sret_ok h1))
end FL

local macro_rules
  | `(tactic| push_cast [$ls,*] at $h:ident) => `(tactic| simp only [FL.stN, FL.stNil, FL.stCons, FL.stTup, FL.spar, FL.bnd_ok, FL.bnd_err, FL.bnd_no, FL.opt_some, FL.opt_none, FL.cst, FL.bin, FL.un1, FL.tst, FL.asB, FL.tnot, FL.tand, FL.tor, FL.bval, FL.vand, FL.vor, FL.vnot, FL.vif, FL.vnil, FL.vcons, FL.vtup, FL.vlst, FL.fzE, FL.cb, FL.has, FL.mutM, FL.aug, FL.augN, FL.stS, FL.tyes, FL.isi, FL.isi2, FL.oso, FL.ono, FL.slL, FL.slS, FL.dg2, FL.opC, List.length_cons, List.length_nil, List.set_cons_zero, List.set_cons_succ, List.getElem?_cons_zero, List.getElem?_cons_succ, if_true, if_false, Bool.false_eq_true, reduceCtorEq, List.nil_append, List.cons_append, List.length_append, List.length_replicate, List.replicate_zero, List.replicate_succ, FL.fz_int, FL.fz_str, FL.fz_bl, FL.fz_non, FL.fz_un, FL.fz_tup, FL.fz_lst, FL.fzs_nil, FL.fzs_cons, FL.addA_int, FL.sub_int, FL.gt_int, FL.lt_int, FL.le_int, FL.ge_int, FL.lt_str', FL.gInt_int, FL.gInt_bl, FL.eqA_int, FL.neA_int, FL.mod_int, FL.thing_non, FL.thing_bl, FL.thing_int, FL.thing_str, FL.thing_tup, FL.thing_lst, FL.thing_dct, FL.opB_O, FL.opB1_some, FL.opB2_some, FL.rd_O, FL.mv_O, FL.cb_O, FL.rdO_some, FL.mvO_some, FL.cbO_some, FL.atI_0, FL.atI_1, FL.atI_2, FL.atI_3, FL.ixA_lst, FL.ixA_tup, FL.isFz_int, FL.isFz_str, FL.isFz_bl, FL.isFz_non, FL.isFz_tup, FL.isFz_lstF, FL.isFzs_nil, FL.isFzs_cons, FL.lenA_lst, FL.lenA_tup, FL.on1_eq, FL.ixAb_lst', FL.ixAb_tup', FL.fzs_mapS, FL.isFzs_mapS, FL.isFzs_mapI, FL.ixL_lst, FL.ixSet_eq, Option.bind_some, Option.bind_none, Option.map_some, Option.map_none, FL.fzs_mapI, Bool.and_true, Bool.true_and, FL.mulA_48271, FL.mulA_39373, FL.mulA_30011, FL.mulA_7919, FL.mulA_2, FL.mulA_3, FL.mod_2147483647, FL.mod_1000000007, FL.mod_998244353, FL.mod_26, FL.div_7, FL.tyP_lst, FL.tyP_tup, FL.gList_lst, FL.gList_tup, FL.gTuple_lst, decide_false, FL.tyM_lst, FL.gAppend_eq, FL.gInsert_eq, FL.minA_str, FL.maxA_str, FL.addA_str, FL.addA_lst, FL.fits_n0, FL.fits_n1, FL.fits_n2, FL.fits_n3, FL.fits_n4, FL.fits_n5, FL.fits_n6, FL.fits_n7, FL.fits_n8, FL.fits_n9, FL.fits_n10, FL.fits_n11, FL.fits_n12, FL.fits_n13, FL.fits_n14, FL.fits_n15, FL.fits_n16, FL.fits_n17, FL.fits_n18, FL.fits_n19, FL.fits_n20, FL.fits_n21, FL.fits_n22, FL.fits_n23, FL.fits_n24, FL.fits_n25, FL.fits_n26, FL.fits_n27, FL.fits_n28, FL.fits_n29, FL.fits_n30, FL.cal, FL.takes, FL.puts, FL.weave, FL.selL, Bool.or_true, Bool.true_or, and_true, true_and, decide_true, and_self, eq_self, ne_eq, not_false_eq_true, FL.div_int, FL.wip, FL.fzs_steps, FL.isFzs_steps, FL.fz_step, FL.isFz_step, FL.thing_step, FL.fz_cart, FL.isFz_cart, FL.thing_cart, FL.fz_ck, FL.isFz_ck, FL.thing_ck, FL.kOf_ck, FL.dget2_ent, FL.dset_ent, FL.fz_part, FL.isFz_part, FL.thing_part, FL.fzs_parts, FL.isFzs_parts, FL.gAppendF_eq, FL.gNeg_1, FL.part_0, FL.part_1, FL.partB_0, FL.partB_1, FL.atI_4, FL.atI_5, FL.pow_3, FL.pow_9, FL.pow_17, FL.pow_29, FL.fz_partO, FL.fzs_partsO, FL.thing_partO, $ls,*] at $h:ident)
  | `(tactic| push_cast [$ls,*]) => `(tactic| simp only [FL.stN, FL.stNil, FL.stCons, FL.stTup, FL.spar, FL.bnd_ok, FL.bnd_err, FL.bnd_no, FL.opt_some, FL.opt_none, FL.cst, FL.bin, FL.un1, FL.tst, FL.asB, FL.tnot, FL.tand, FL.tor, FL.bval, FL.vand, FL.vor, FL.vnot, FL.vif, FL.vnil, FL.vcons, FL.vtup, FL.vlst, FL.fzE, FL.cb, FL.has, FL.mutM, FL.aug, FL.augN, FL.stS, FL.tyes, FL.isi, FL.isi2, FL.oso, FL.ono, FL.slL, FL.slS, FL.dg2, FL.opC, List.length_cons, List.length_nil, List.set_cons_zero, List.set_cons_succ, List.getElem?_cons_zero, List.getElem?_cons_succ, if_true, if_false, Bool.false_eq_true, reduceCtorEq, List.nil_append, List.cons_append, List.length_append, List.length_replicate, List.replicate_zero, List.replicate_succ, FL.fz_int, FL.fz_str, FL.fz_bl, FL.fz_non, FL.fz_un, FL.fz_tup, FL.fz_lst, FL.fzs_nil, FL.fzs_cons, FL.addA_int, FL.sub_int, FL.gt_int, FL.lt_int, FL.le_int, FL.ge_int, FL.lt_str', FL.gInt_int, FL.gInt_bl, FL.eqA_int, FL.neA_int, FL.mod_int, FL.thing_non, FL.thing_bl, FL.thing_int, FL.thing_str, FL.thing_tup, FL.thing_lst, FL.thing_dct, FL.opB_O, FL.opB1_some, FL.opB2_some, FL.rd_O, FL.mv_O, FL.cb_O, FL.rdO_some, FL.mvO_some, FL.cbO_some, FL.atI_0, FL.atI_1, FL.atI_2, FL.atI_3, FL.ixA_lst, FL.ixA_tup, FL.isFz_int, FL.isFz_str, FL.isFz_bl, FL.isFz_non, FL.isFz_tup, FL.isFz_lstF, FL.isFzs_nil, FL.isFzs_cons, FL.lenA_lst, FL.lenA_tup, FL.on1_eq, FL.ixAb_lst', FL.ixAb_tup', FL.fzs_mapS, FL.isFzs_mapS, FL.isFzs_mapI, FL.ixL_lst, FL.ixSet_eq, Option.bind_some, Option.bind_none, Option.map_some, Option.map_none, FL.fzs_mapI, Bool.and_true, Bool.true_and, FL.mulA_48271, FL.mulA_39373, FL.mulA_30011, FL.mulA_7919, FL.mulA_2, FL.mulA_3, FL.mod_2147483647, FL.mod_1000000007, FL.mod_998244353, FL.mod_26, FL.div_7, FL.tyP_lst, FL.tyP_tup, FL.gList_lst, FL.gList_tup, FL.gTuple_lst, decide_false, FL.tyM_lst, FL.gAppend_eq, FL.gInsert_eq, FL.minA_str, FL.maxA_str, FL.addA_str, FL.addA_lst, FL.fits_n0, FL.fits_n1, FL.fits_n2, FL.fits_n3, FL.fits_n4, FL.fits_n5, FL.fits_n6, FL.fits_n7, FL.fits_n8, FL.fits_n9, FL.fits_n10, FL.fits_n11, FL.fits_n12, FL.fits_n13, FL.fits_n14, FL.fits_n15, FL.fits_n16, FL.fits_n17, FL.fits_n18, FL.fits_n19, FL.fits_n20, FL.fits_n21, FL.fits_n22, FL.fits_n23, FL.fits_n24, FL.fits_n25, FL.fits_n26, FL.fits_n27, FL.fits_n28, FL.fits_n29, FL.fits_n30, FL.cal, FL.takes, FL.puts, FL.weave, FL.selL, Bool.or_true, Bool.true_or, and_true, true_and, decide_true, and_self, eq_self, ne_eq, not_false_eq_true, FL.div_int, FL.wip, FL.fzs_steps, FL.isFzs_steps, FL.fz_step, FL.isFz_step, FL.thing_step, FL.fz_cart, FL.isFz_cart, FL.thing_cart, FL.fz_ck, FL.isFz_ck, FL.thing_ck, FL.kOf_ck, FL.dget2_ent, FL.dset_ent, FL.fz_part, FL.isFz_part, FL.thing_part, FL.fzs_parts, FL.isFzs_parts, FL.gAppendF_eq, FL.gNeg_1, FL.part_0, FL.part_1, FL.partB_0, FL.partB_1, FL.atI_4, FL.atI_5, FL.pow_3, FL.pow_9, FL.pow_17, FL.pow_29, FL.fz_partO, FL.fzs_partsO, FL.thing_partO, $ls,*])
  | `(tactic| push_cast) => `(tactic| simp only [FL.stN, FL.stNil, FL.stCons, FL.stTup, FL.spar, FL.bnd_ok, FL.bnd_err, FL.bnd_no, FL.opt_some, FL.opt_none, FL.cst, FL.bin, FL.un1, FL.tst, FL.asB, FL.tnot, FL.tand, FL.tor, FL.bval, FL.vand, FL.vor, FL.vnot, FL.vif, FL.vnil, FL.vcons, FL.vtup, FL.vlst, FL.fzE, FL.cb, FL.has, FL.mutM, FL.aug, FL.augN, FL.stS, FL.tyes, FL.isi, FL.isi2, FL.oso, FL.ono, FL.slL, FL.slS, FL.dg2, FL.opC, List.length_cons, List.length_nil, List.set_cons_zero, List.set_cons_succ, List.getElem?_cons_zero, List.getElem?_cons_succ, if_true, if_false, Bool.false_eq_true, reduceCtorEq, List.nil_append, List.cons_append, List.length_append, List.length_replicate, List.replicate_zero, List.replicate_succ, FL.fz_int, FL.fz_str, FL.fz_bl, FL.fz_non, FL.fz_un, FL.fz_tup, FL.fz_lst, FL.fzs_nil, FL.fzs_cons, FL.addA_int, FL.sub_int, FL.gt_int, FL.lt_int, FL.le_int, FL.ge_int, FL.lt_str', FL.gInt_int, FL.gInt_bl, FL.eqA_int, FL.neA_int, FL.mod_int, FL.thing_non, FL.thing_bl, FL.thing_int, FL.thing_str, FL.thing_tup, FL.thing_lst, FL.thing_dct, FL.opB_O, FL.opB1_some, FL.opB2_some, FL.rd_O, FL.mv_O, FL.cb_O, FL.rdO_some, FL.mvO_some, FL.cbO_some, FL.atI_0, FL.atI_1, FL.atI_2, FL.atI_3, FL.ixA_lst, FL.ixA_tup, FL.isFz_int, FL.isFz_str, FL.isFz_bl, FL.isFz_non, FL.isFz_tup, FL.isFz_lstF, FL.isFzs_nil, FL.isFzs_cons, FL.lenA_lst, FL.lenA_tup, FL.on1_eq, FL.ixAb_lst', FL.ixAb_tup', FL.fzs_mapS, FL.isFzs_mapS, FL.isFzs_mapI, FL.ixL_lst, FL.ixSet_eq, Option.bind_some, Option.bind_none, Option.map_some, Option.map_none, FL.fzs_mapI, Bool.and_true, Bool.true_and, FL.mulA_48271, FL.mulA_39373, FL.mulA_30011, FL.mulA_7919, FL.mulA_2, FL.mulA_3, FL.mod_2147483647, FL.mod_1000000007, FL.mod_998244353, FL.mod_26, FL.div_7, FL.tyP_lst, FL.tyP_tup, FL.gList_lst, FL.gList_tup, FL.gTuple_lst, decide_false, FL.tyM_lst, FL.gAppend_eq, FL.gInsert_eq, FL.minA_str, FL.maxA_str, FL.addA_str, FL.addA_lst, FL.fits_n0, FL.fits_n1, FL.fits_n2, FL.fits_n3, FL.fits_n4, FL.fits_n5, FL.fits_n6, FL.fits_n7, FL.fits_n8, FL.fits_n9, FL.fits_n10, FL.fits_n11, FL.fits_n12, FL.fits_n13, FL.fits_n14, FL.fits_n15, FL.fits_n16, FL.fits_n17, FL.fits_n18, FL.fits_n19, FL.fits_n20, FL.fits_n21, FL.fits_n22, FL.fits_n23, FL.fits_n24, FL.fits_n25, FL.fits_n26, FL.fits_n27, FL.fits_n28, FL.fits_n29, FL.fits_n30, FL.cal, FL.takes, FL.puts, FL.weave, FL.selL, Bool.or_true, Bool.true_or, and_true, true_and, decide_true, and_self, eq_self, ne_eq, not_false_eq_true, FL.div_int, FL.wip, FL.fzs_steps, FL.isFzs_steps, FL.fz_step, FL.isFz_step, FL.thing_step, FL.fz_cart, FL.isFz_cart, FL.thing_cart, FL.fz_ck, FL.isFz_ck, FL.thing_ck, FL.kOf_ck, FL.dget2_ent, FL.dset_ent, FL.fz_part, FL.isFz_part, FL.thing_part, FL.fzs_parts, FL.isFzs_parts, FL.gAppendF_eq, FL.gNeg_1, FL.part_0, FL.part_1, FL.partB_0, FL.partB_1, FL.atI_4, FL.atI_5, FL.pow_3, FL.pow_9, FL.pow_17, FL.pow_29, FL.fz_partO, FL.fzs_partsO, FL.thing_partO])
namespace FL
open PySem PySem.Spec PyProof.Rows L2
/-! ### the long row -/
def rep (n : Int) (ss : List St3) : List St3 := (List.replicate n.toNat ss).flatten
def lr (t : List Pt) : List St3 := (t.map fun p => rep p.1 p.2).flatten
theorem lr_app (t u : List Pt) : lr (t ++ u) = lr t ++ lr u := by
  unfold lr
  rw [List.map_append, List.flatten_append]
theorem lr_one (p : Pt) : lr [p] = rep p.1 p.2 := by
  unfold lr
  simp
theorem lr_cons (p : Pt) (t : List Pt) : lr (p :: t) = rep p.1 p.2 ++ lr t := rfl
theorem repl_get {α : Type} (ss : List α) : ∀ (n j : Nat), j < n * ss.length → (List.replicate n ss).flatten[j]? = ss[j % ss.length]?
  | 0, j, h => by simp at h
  | n + 1, j, h => by
    rw [List.replicate_succ, List.flatten_cons]
    by_cases hj : j < ss.length
    · rw [List.getElem?_append_left hj, Nat.mod_eq_of_lt hj]
    · have h2 : ss.length ≤ j := by omega
      rw [List.getElem?_append_right h2, repl_get ss n (j - ss.length) (by rw [Nat.succ_mul] at h; omega)]
      congr 1
      exact (Nat.mod_eq_sub_mod h2).symm
theorem repl_len {α : Type} (ss : List α) : ∀ n : Nat, (List.replicate n ss).flatten.length = n * ss.length
  | 0 => by simp
  | n + 1 => by rw [List.replicate_succ, List.flatten_cons, List.length_append, repl_len ss n, Nat.succ_mul, Nat.add_comm]
theorem rep_len (n : Int) (ss : List St3) : (rep n ss).length = n.toNat * ss.length := repl_len ss _
theorem lenT_nil : lenT [] = 0 := rfl
theorem lenT_cons (p : Pt) (t : List Pt) : lenT (p :: t) = p.1 * (p.2.length : Int) + lenT t := by
  unfold lenT
  rw [List.map_cons, List.sum_cons]
theorem lenT_app (t u : List Pt) : lenT (t ++ u) = lenT t + lenT u := by
  unfold lenT
  rw [List.map_append, List.sum_append]
theorem lr_len : ∀ {t : List Pt}, (∀ p ∈ t, 0 ≤ p.1) → ((lr t).length : Int) = lenT t
  | [], _ => rfl
  | p :: t, h => by
    rw [lr_cons, List.length_append, lenT_cons, rep_len, Int.natCast_add, lr_len fun q hq => h q (by simp [hq]), Int.natCast_mul, Int.toNat_of_nonneg (h p (by simp))]
theorem is_number_eq (a : Int) : F_is_number [.int 0, .int a] = .ok (.bl (decide (0 ≤ a)), []) := by
  have h1 : F_is_integer [.int a] = .ok (.bl true, []) := rfl
  refine runF_rt (τ' := [.int 0, .int a]) (sret_ok ?_)
  push_cast [h1] <;> rfl
theorem fmod_nat (x m : Nat) : ((x : Nat) : Int).fmod (m : Nat) = ((x % m : Nat) : Int) := by
  rw [Int.fmod_eq_emod_of_nonneg _ (by omega)]
  rfl
theorem minA_int (i j : Int) : gMinA [.int i, .int j] = some (.int (if j < i then j else i)) := rfl
theorem maxA_int (i j : Int) : gMaxA [.int i, .int j] = some (.int (if i < j then j else i)) := rfl
theorem gExtend_eq (xs ys : List PV) (o : Bool) : gExtend (.lst true xs) [.lst o ys] = if fits (xs.length + ys.length) = true then some (.lst true (xs ++ fzs ys), .non) else none := rfl
/-- what a part gives to a stretch -/
theorem cut_part {α : Type} (ss : List α) {β : Type} (f : α → β) (d : β) (n sk N : Nat) (h : 0 < ss.length) : (List.range (min N (n * ss.length - sk))).map (fun i => ((ss.map f)[(sk % ss.length + i) % ss.length]?).getD d) = ((((List.replicate n ss).flatten).drop sk).take N).map f := by
  refine List.ext_getElem? fun i => ?_
  rw [List.getElem?_map, List.getElem?_map]
  by_cases hi : i < min N (n * ss.length - sk)
  · have h1 : i < N := by omega
    have h2 : sk + i < n * ss.length := by omega
    rw [List.getElem?_range hi, List.getElem?_take_of_lt h1, List.getElem?_drop, repl_get ss n (sk + i) h2]
    have e : (sk % ss.length + i) % ss.length = (sk + i) % ss.length := by rw [Nat.mod_add_mod]
    have hm : (sk + i) % ss.length < ss.length := Nat.mod_lt _ h
    simp only [Option.map_some, e, List.getElem?_map, List.getElem?_eq_getElem hm, Option.getD_some]
  · have l1 : (((((List.replicate n ss).flatten).drop sk).take N)).length ≤ i := by
      rw [List.length_take, List.length_drop, repl_len]
      omega
    have l2 : (List.range (min N (n * ss.length - sk))).length ≤ i := by rw [List.length_range]; omega
    rw [List.getElem?_eq_none l1, List.getElem?_eq_none l2]
    rfl
structure PtB (p : Pt) : Prop where
  n1 : 1 ≤ p.1
  ne : p.2 ≠ []
  len : p.2.length ≤ 1000000
theorem stretch_ok {o : Bool} {t : List Pt} {a k : Int} (hl : t.length ≤ 1000000) (hr : ∀ p ∈ t, PtB p) (h0 : 0 ≤ a) (k0 : 0 ≤ k) (k1 : k ≤ 1000000) (hk : a + k ≤ lenT t) :
    OK (F_stretch [.lst o (t.map partP), .int a, .int k]) fun r => r = (.lst true ((((lr t).drop a.toNat).take k.toNat).map stepP), []) := by
  have hL := length_ok (o := false) hl fun p hp => (hr p hp).len
  have hn := is_number_eq a
  have d0 : decide (0 ≤ a) = true := decide_eq_true h0
  have dk : decide (lenT t < a + k) = false := decide_eq_false (by omega)
  refine OK_run ?_
  refine OK_seq (OK_if (b := false) (τ' := [.lst false (t.map partP), .int a, .int k, .un, .un, .un, .un, .un, .un, .un, .un]) (by push_cast [hn, d0, hL, dk, Bool.not_true] <;> rfl) (fun z => nomatch z) fun _ => OK_next (sq_nx ?_))
  refine OK_seq (OK_asg (by (push_cast <;> rfl)) (by (push_cast <;> rfl)) (sq_nx ?_))
  refine OK_seq (OK_asg (by (push_cast <;> rfl)) (by (push_cast <;> rfl)) (sq_nx ?_))
  refine OK_seq (OK_forM (P := partP) (xs := t) (τ1 := [.lst false (t.map partP), .int a, .int k, .lst true [], .int a, .un, .un, .un, .un, .un, .un]) (fun ds τ => ∃ (v1 v2 v3 v4 v5 v6 : PV), τ = [.lst false (t.map partP), .int a, .int k, .lst true ((((lr ds).drop a.toNat).take k.toNat).map stepP), .int ((a.toNat - (lr ds).length : Nat) : Int), v1, v2, v3, v4, v5, v6])
    (by push_cast [ilst] <;> rfl) ⟨.un, .un, .un, .un, .un, .un, ?_⟩ ?_ ?_)
  · have : ((a.toNat - (lr []).length : Nat) : Int) = a := by
      show ((a.toNat - 0 : Nat) : Int) = a
      omega
    rw [this]
    have : ((lr []).drop a.toNat).take k.toNat = [] := by simp [lr]
    rw [this]
    rfl
  · rintro ds p rest τ ex ⟨v1, v2, v3, v4, v5, v6, rfl⟩
    have hp : p ∈ t := by rw [ex]; simp
    obtain ⟨n1, ne, len⟩ := hr p hp
    obtain ⟨n, ss⟩ := p
    have n1 : 1 ≤ n := n1
    have ne : ss ≠ [] := ne
    have len : ss.length ≤ 1000000 := len
    have lp : 0 < ss.length := List.length_pos_iff.mpr ne
    have hm := mul_len n len
    generalize hsk : a.toNat - (lr ds).length = sk
    generalize hfo : ((lr ds).drop a.toNat).take k.toNat = fo
    have lf : fo.length = min k.toNat ((lr ds).length - a.toNat) := by rw [← hfo, List.length_take, List.length_drop]
    refine ⟨[.lst false (t.map partP), .int a, .int k, .lst true (fo.map stepP), .int ((sk : Nat) : Int), .int n, .lst false (ss.map stepP), v3, v4, v5, v6], rfl, ?_⟩
    refine OK_seq (OK_asg (p := .int (n * (ss.length : Nat))) (by push_cast [List.length_map, hm] <;> rfl) (by (push_cast <;> rfl)) (sq_nx ?_))
    have e1 : (if n * (ss.length : Int) - (sk : Int) < k - (fo.length : Int) then n * (ss.length : Int) - (sk : Int) else k - (fo.length : Int)).toNat = min (k.toNat - fo.length) (n.toNat * ss.length - sk) := by
      have e2 : n * (ss.length : Int) = ((n.toNat * ss.length : Nat) : Int) := by rw [Int.natCast_mul, Int.toNat_of_nonneg (by omega)]
      rw [e2]
      generalize n.toNat * ss.length = S
      split <;> omega
    refine OK_seq (OK_asg (p := .int (if n * (ss.length : Int) - (sk : Int) < k - (fo.length : Int) then n * (ss.length : Int) - (sk : Int) else k - (fo.length : Int))) (by push_cast [List.length_map, minA_int] <;> rfl) (by (push_cast <;> rfl)) (sq_nx ?_))
    generalize hT : (if n * (ss.length : Int) - (sk : Int) < k - (fo.length : Int) then n * (ss.length : Int) - (sk : Int) else k - (fo.length : Int)) = T at e1
    have nz : ((ss.length : Nat) : Int) ≠ 0 := by omega
    have nz' : ¬ ((ss.length : Nat) : Int) = 0 := nz
    refine OK_seq (OK_asg (p := .int ((sk % ss.length : Nat) : Int)) (by push_cast [List.length_map, nz', fmod_nat] <;> rfl) (by (push_cast <;> rfl)) (sq_nx ?_))
    obtain ⟨τ', h1, v, h2⟩ := lc_by (P := fun i : Nat => PV.int (0 + (i : Int))) (gg := stN 10) (e := opB ixAb 6 (bin gMod (bin gAddA (rd 9) (rd 10)) (cbB gLenA 6))) (vs := [10]) (f := irngW (vcons (rd 8) vnil)) (xs := List.range T.toNat)
      (τ := [.lst false (t.map partP), .int a, .int k, .lst true (fo.map stepP), .int ((sk : Nat) : Int), .int n, .lst false (ss.map stepP), .int (n * (ss.length : Nat)), .int T, .int ((sk % ss.length : Nat) : Int), v6])
      (τ1 := [.lst false (t.map partP), .int a, .int k, .lst true (fo.map stepP), .int ((sk : Nat) : Int), .int n, .lst false (ss.map stepP), .int (n * (ss.length : Nat)), .int T, .int ((sk % ss.length : Nat) : Int), v6])
      (fun τ => ∃ v, τ = [.lst false (t.map partP), .int a, .int k, .lst true (fo.map stepP), .int ((sk : Nat) : Int), .int n, .lst false (ss.map stepP), .int (n * (ss.length : Nat)), .int T, .int ((sk % ss.length : Nat) : Int), v]) (fun i => ((ss.map stepP)[(sk % ss.length + i) % ss.length]?).getD .non)
      (irngW_ok (by (push_cast <;> rfl))) (by rw [List.length_range, e1]; omega) ⟨_, rfl⟩ fun i hi τ ⟨v, e⟩ => by
        subst e
        have hmod : (sk % ss.length + i) % ss.length < ss.length := Nat.mod_lt _ lp
        have hat : L2.atI (ss.map stepP) (((sk % ss.length + i) % ss.length : Nat) : Int) = some (stepP ss[(sk % ss.length + i) % ss.length]) := atI_ofNat (by rw [List.getElem?_map, List.getElem?_eq_getElem hmod]; rfl)
        have ea : ((sk % ss.length : Nat) : Int) + (0 + (i : Int)) = ((sk % ss.length + i : Nat) : Int) := by omega
        have eg : ((ss.map stepP)[(sk % ss.length + i) % ss.length]?).getD .non = stepP ss[(sk % ss.length + i) % ss.length] := by rw [List.getElem?_map, List.getElem?_eq_getElem hmod]; rfl
        refine ⟨[.lst false (t.map partP), .int a, .int k, .lst true (fo.map stepP), .int ((sk : Nat) : Int), .int n, .lst false (ss.map stepP), .int (n * (ss.length : Nat)), .int T, .int ((sk % ss.length : Nat) : Int), .int (0 + (i : Int))], _, rfl, ?_, .int (0 + (i : Int)), rfl⟩
        rw [eg]
        push_cast [List.length_map, nz', ea, fmod_nat, hat] <;> rfl
    subst h2
    rw [e1, cut_part ss stepP .non n.toNat sk (k.toNat - fo.length) lp] at h1
    have hfit : fits ((fo.map stepP).length + (((((List.replicate n.toNat ss).flatten).drop sk).take (k.toNat - fo.length)).map stepP).length) = true := fits_of (by
      rw [List.length_map, List.length_map, List.length_take]; omega)
    refine OK_seq (OK_drop (τ' := [.lst false (t.map partP), .int a, .int k, .lst true (fo.map stepP ++ ((((List.replicate n.toNat ss).flatten).drop sk).take (k.toNat - fo.length)).map stepP), .int ((sk : Nat) : Int), .int n, .lst false (ss.map stepP), .int (n * (ss.length : Nat)), .int T, .int ((sk % ss.length : Nat) : Int), .un]) (by push_cast [h1, gExtend_eq, hfit] <;> rfl) (sq_nx ?_))
    have eL : (lr (ds ++ [(n, ss)])).length = (lr ds).length + n.toNat * ss.length := by rw [lr_app, lr_one, List.length_append, rep_len]
    have es : (if (0 : Int) < (sk : Int) - n * (ss.length : Int) then (sk : Int) - n * (ss.length : Int) else 0) = ((a.toNat - (lr (ds ++ [(n, ss)])).length : Nat) : Int) := by
      have e2 : n * (ss.length : Int) = ((n.toNat * ss.length : Nat) : Int) := by rw [Int.natCast_mul, Int.toNat_of_nonneg (by omega)]
      rw [e2, eL]
      generalize n.toNat * ss.length = S
      split <;> omega
    have ef : fo.map stepP ++ ((((List.replicate n.toNat ss).flatten).drop sk).take (k.toNat - fo.length)).map stepP = (((lr (ds ++ [(n, ss)])).drop a.toNat).take k.toNat).map stepP := by
      rw [← List.map_append]
      congr 1
      rw [lr_app, lr_one, List.drop_append, List.take_append, hfo, hsk]
      congr 1
      show _ = List.take _ (List.drop sk (List.replicate n.toNat ss).flatten)
      congr 1
      rw [lf, List.length_drop]
      omega
    rw [ef]
    refine OK_asg (p := .int ((a.toNat - (lr (ds ++ [(n, ss)])).length : Nat) : Int)) (by rw [← es]; push_cast [maxA_int] <;> rfl) (by (push_cast <;> rfl)) ⟨_, _, _, _, _, _, rfl⟩
  · rintro τ ⟨v1, v2, v3, v4, v5, v6, rfl⟩
    exact sq_nx (OK_ret (p := .lst true ((((lr t).drop a.toNat).take k.toNat).map stepP)) (τ' := [.lst false (t.map partP), .int a, .int k, .un, .int ((a.toNat - (lr t).length : Nat) : Int), v1, v2, v3, v4, v5, v6]) (by (push_cast <;> rfl)) rfl)
theorem step_at_ok {o : Bool} {t : List Pt} {i : Int} (hl : t.length ≤ 1000000) (hr : ∀ p ∈ t, PtB p) (h0 : 0 ≤ i) (hi : i < lenT t) :
    ∃ s, (lr t)[i.toNat]? = some s ∧ F_step_at [.lst o (t.map partP), .int i] = .ok (stepP s, []) := by
  have hlen := lr_len (t := t) fun p hp => by have := (hr p hp).n1; omega
  have li : i.toNat < (lr t).length := by omega
  refine ⟨(lr t)[i.toNat], List.getElem?_eq_getElem li, ?_⟩
  obtain ⟨_, hF, rfl⟩ := OK_ex (stretch_ok (o := false) (a := i) (k := 1) hl hr h0 (by omega) (by omega) (by omega))
  have e : (((lr t).drop i.toNat).take (1 : Int).toNat) = [(lr t)[i.toNat]] := by
    rw [List.drop_eq_getElem_cons li]
    rfl
  rw [e] at hF
  refine runF_rt (τ' := [.lst false (t.map partP), .int i]) (sret_ok ?_)
  push_cast [hF, List.map_cons, List.map_nil] <;> rfl
end FL

namespace FL
open PySem PySem.Spec PyProof.Rows L2
open PySem.W (dataLe keyToks keyToksAll)
/-! ### sums of entries -/
theorem getC_cons (e : Ck × Int) (es : List (Ck × Int)) (d : Ck) : getC (e :: es) d = if e.1 = d then some e.2 else getC es d := by
  unfold getC
  by_cases h : e.1 = d
  · rw [List.find?_cons_of_pos (by simp [h]), if_pos h]; rfl
  · rw [List.find?_cons_of_neg (by simp [h]), if_neg h]
theorem getC_nil (d : Ck) : getC [] d = none := rfl
theorem getC_app (es fs : List (Ck × Int)) (d : Ck) : getC (es ++ fs) d = (getC es d).or (getC fs d) := by
  induction es with
  | nil => rfl
  | cons e es ih =>
    rw [List.cons_append, getC_cons, getC_cons]
    split
    · rfl
    · exact ih
theorem getC_upd (c : Ck) (n : Int) : ∀ (es : List (Ck × Int)) (d : Ck), getC (es.map fun e => if e.1 = c then (e.1, n) else e) d = if d = c ∧ (getC es c).isSome = true then some n else getC es d
  | [], d => by simp [getC_nil]
  | e :: es, d => by
    rw [List.map_cons, getC_cons, getC_cons, getC_upd c n es d, getC_cons]
    by_cases h : e.1 = c
    · simp only [h, if_true]
      by_cases hd : c = d
      · subst hd; simp
      · have : ¬ d = c := fun z => hd z.symm
        simp [hd, this]
    · simp only [h, if_false]
      by_cases hd : e.1 = d
      · subst hd; simp [h]
      · simp [hd]
theorem getC_put (es : List (Ck × Int)) (c : Ck) (n : Int) (d : Ck) : getC (putE es c n) d = if d = c then some n else getC es d := by
  unfold putE
  split
  · rename_i h
    rw [getC_upd]
    by_cases hd : d = c
    · simp [hd, h]
    · simp [hd]
  · rename_i h
    have h : getC es c = none := by cases e : getC es c with
      | none => rfl
      | some v => rw [e] at h; exact absurd rfl h
    rw [getC_app, getC_cons]
    by_cases hd : d = c
    · subst hd
      rw [h]
      simp
    · have : ¬ c = d := fun z => hd z.symm
      simp [hd, this, getC_nil]
def addE (es : List (Ck × Int)) (x : Ck × Int) : List (Ck × Int) := putE es x.1 ((getC es x.1).getD 0 + x.2)
def sumE (L : List (Ck × Int)) : List (Ck × Int) := L.foldl addE []
def tot (d : Ck) : List (Ck × Int) → Int
  | [] => 0
  | e :: L => (if e.1 = d then e.2 else 0) + tot d L
theorem tot_none {d : Ck} : ∀ {L : List (Ck × Int)}, d ∉ L.map (·.1) → tot d L = 0
  | [], _ => rfl
  | e :: L, h => by
    rw [List.map_cons, List.mem_cons, not_or] at h
    unfold tot
    rw [if_neg (fun z => h.1 z.symm), tot_none h.2]
    rfl
theorem tot_perm {d : Ck} {L M : List (Ck × Int)} (h : L.Perm M) : tot d L = tot d M := by
  induction h with
  | nil => rfl
  | cons x _ ih => simp only [tot, ih]
  | swap x y l => simp only [tot]; omega
  | trans _ _ h1 h2 => exact h1.trans h2
theorem getC_fold : ∀ (L es : List (Ck × Int)) (d : Ck), getC (L.foldl addE es) d = if d ∈ L.map (·.1) then some ((getC es d).getD 0 + tot d L) else getC es d
  | [], es, d => by simp
  | x :: L, es, d => by
    rw [List.foldl_cons, getC_fold L (addE es x) d]
    unfold addE
    simp only [getC_put, List.map_cons, List.mem_cons]
    by_cases hL : d ∈ L.map (·.1)
    · simp only [hL, or_true, if_true]
      by_cases hd : d = x.1
      · subst hd
        simp only [if_true, Option.getD_some, tot]
        congr 1
        omega
      · have : ¬ x.1 = d := fun z => hd z.symm
        simp only [hd, if_false, tot, this]
        congr 1
        omega
    · simp only [hL, or_false, if_false]
      by_cases hd : d = x.1
      · subst hd
        simp only [if_true, tot, tot_none hL]
        congr 1
        omega
      · simp only [hd, if_false]
theorem getC_sum (L : List (Ck × Int)) (d : Ck) : getC (sumE L) d = if d ∈ L.map (·.1) then some (tot d L) else none := by
  unfold sumE
  rw [getC_fold]
  simp [getC_nil]
theorem fold_nd : ∀ (L es : List (Ck × Int)), (es.map (·.1)).Nodup → ((L.foldl addE es).map (·.1)).Nodup
  | [], _, h => h
  | x :: L, es, h => fold_nd L (addE es x) (putE_keys h)
theorem sum_nd (L : List (Ck × Int)) : ((sumE L).map (·.1)).Nodup := fold_nd L [] List.nodup_nil
theorem fold_len : ∀ (L es : List (Ck × Int)), (L.foldl addE es).length ≤ es.length + L.length
  | [], _ => Nat.le_refl _
  | x :: L, es => by
    have := fold_len L (addE es x)
    have h2 := putE_len es x.1 ((getC es x.1).getD 0 + x.2)
    rw [List.foldl_cons, List.length_cons]
    unfold addE at this ⊢
    omega
theorem sum_len (L : List (Ck × Int)) : (sumE L).length ≤ L.length := by
  have := fold_len L []
  unfold sumE
  simpa using this
theorem sum_snoc (L : List (Ck × Int)) (x : Ck × Int) : sumE (L ++ [x]) = addE (sumE L) x := by
  unfold sumE
  rw [List.foldl_append]
  rfl
theorem nodup_of_keys {es : List (Ck × Int)} (nd : (es.map (·.1)).Nodup) : es.Nodup := by
  refine List.pairwise_map.mp nd |>.imp fun h e => h (by rw [e])
theorem mem_getC {es : List (Ck × Int)} (nd : (es.map (·.1)).Nodup) {e : Ck × Int} : e ∈ es ↔ getC es e.1 = some e.2 :=
  ⟨fun h => getC_of nd h, fun h => getC_mem h⟩
theorem perm_of_get {es fs : List (Ck × Int)} (n1 : (es.map (·.1)).Nodup) (n2 : (fs.map (·.1)).Nodup) (h : ∀ d, getC es d = getC fs d) : es.Perm fs :=
  (List.perm_ext_iff_of_nodup (nodup_of_keys n1) (nodup_of_keys n2)).mpr fun a => by rw [mem_getC n1, mem_getC n2, h]
theorem sum_perm {L M : List (Ck × Int)} (h : L.Perm M) : (sumE L).Perm (sumE M) := perm_of_get (sum_nd L) (sum_nd M) fun d => by
  rw [getC_sum, getC_sum, tot_perm h]
  have : d ∈ L.map (·.1) ↔ d ∈ M.map (·.1) := (h.map _).mem_iff
  simp only [this]
/-! one order -/
theorem leD_def (p q : PV) : leD p q = !(listOrd itemOrd).blt (keyToks (dOf q)) (keyToks (dOf p)) := rfl
theorem leD_trans {a b c : PV} (h1 : leD a b = true) (h2 : leD b c = true) : leD a c = true := by
  rw [leD_def, Bool.not_eq_true'] at h1 h2 ⊢
  cases h : (listOrd itemOrd).blt (keyToks (dOf c)) (keyToks (dOf a)) with
  | false => rfl
  | true =>
    rcases (listOrd itemOrd).negTrans _ (keyToks (dOf b)) _ h with h | h
    · rw [h2] at h; cases h
    · rw [h1] at h; cases h
theorem leD_total (a b : PV) : (leD a b || leD b a) = true := by
  rw [leD_def, leD_def]
  cases h1 : (listOrd itemOrd).blt (keyToks (dOf b)) (keyToks (dOf a)) with
  | false => rfl
  | true =>
    cases h2 : (listOrd itemOrd).blt (keyToks (dOf a)) (keyToks (dOf b)) with
    | false => rfl
    | true =>
      have := (listOrd itemOrd).trans _ _ _ h1 h2
      rw [(listOrd itemOrd).irrefl] at this
      cases this
theorem leD_anti {e f : Ck × Int} (h1 : leD (entP e) (entP f) = true) (h2 : leD (entP f) (entP e) = true) : e = f := by
  rw [leD_def, Bool.not_eq_true'] at h1 h2
  have h := (listOrd itemOrd).total _ _ h2 h1
  have r1 : dOf (entP e) = .tuple [ckD e.1, .int e.2] := rfl
  have r2 : dOf (entP f) = .tuple [ckD f.1, .int f.2] := rfl
  rw [r1, r2, ent_toks, ent_toks] at h
  injection h with _ h
  obtain ⟨h3, h4⟩ := List.append_inj h rfl
  have e1 := ckT_inj h3
  simp only [List.cons.injEq, Sum.inl.injEq, and_true, true_and] at h4
  exact Prod.ext e1 h4
theorem SE_pw (es : List (Ck × Int)) : (SE es).Pairwise fun a b => leD (entP a) (entP b) = true :=
  List.pairwise_mergeSort (le := fun a b => leD (entP a) (entP b)) (fun a b c h1 h2 => leD_trans (b := entP b) h1 h2) (fun a b => leD_total (entP a) (entP b)) es
theorem SE_eq {es fs : List (Ck × Int)} (h : es.Perm fs) : SE es = SE fs :=
  List.Perm.eq_of_pairwise (le := fun a b => leD (entP a) (entP b) = true) (fun a b _ _ => leD_anti) (SE_pw es) (SE_pw fs) ((SE_perm es).trans (h.trans (SE_perm fs).symm))
theorem tally_sum (cs : List Ck) : tally cs = sumE (cs.map fun c => (c, 1)) := by
  unfold tally sumE
  rw [List.foldl_map]
  rfl
theorem tally_perm {cs ds : List Ck} (h : cs.Perm ds) : SE (tally cs) = SE (tally ds) := by
  rw [tally_sum, tally_sum]
  exact SE_eq (sum_perm (h.map _))
end FL

namespace FL
open PySem PySem.Spec PyProof.Rows L2
/-- a walk over a dict that a slot holds -/
theorem OK_forD {α : Type} {P : α → PV} {g : En → Rs Fl} {G : PV → En → Option En} {τ : En} {Q : Fl → Prop} {i : Nat} {es : List PV} {xs : List α} (Iv : List α → En → Prop) (hi : τ[i]? = some (.dct true true es)) (hk : (fzs es).map eK = xs.map P) (h0 : Iv [] (τ.set i (.dct false true (fzs es))))
    (hs : ∀ done x rest τ, xs = done ++ x :: rest → Iv done τ → ∃ τ2, G (P x) τ = some τ2 ∧ OK (g τ2) fun fl => ∃ τ3, fl = .nx τ3 ∧ Iv (done ++ [x]) τ3)
    (he : ∀ τ, Iv xs τ → Q (.nx τ)) : OK (sforD i G g τ) Q := by
  have go : ∀ rest done τ, xs = done ++ rest → Iv done τ → ∃ τ', forF G g (rest.map P) τ = .ok (.nx τ') ∧ Iv xs τ' := by
    intro rest
    induction rest with
    | nil =>
      intro done τ ex iv
      rw [List.append_nil] at ex
      subst ex
      exact ⟨τ, rfl, iv⟩
    | cons x rest ih =>
      intro done τ ex iv
      obtain ⟨τ2, hg, hb⟩ := hs done x rest τ ex iv
      obtain ⟨a, ea, τ3, rfl, k⟩ := OK_ex hb
      obtain ⟨τ', h1, h2⟩ := ih (done ++ [x]) τ3 (by rw [ex]; simp) k
      refine ⟨τ', ?_, h2⟩
      rw [List.map_cons]
      unfold forF
      rw [hg]
      simp only [ea, bnd_ok]
      exact h1
  obtain ⟨τ', h1, h2⟩ := go xs [] _ rfl h0
  unfold sforD
  rw [hi]
  simp only [hk, h1]
  exact .mk (he τ' h2)
def wt (p : Pt) : List (Ck × Int) := (SE (tally (p.2.map ckOf))).map fun e => (e.1, p.1 * e.2)
def cartsT (t : List Pt) : List (Ck × Int) := SE (sumE (t.flatMap wt))
theorem SE_tally_len (cs : List Ck) : (SE (tally cs)).length ≤ cs.length := by
  rw [(SE_perm _).length_eq]
  exact (tally_tal cs).len
theorem wt_len (p : Pt) : (wt p).length ≤ p.2.length := by
  unfold wt
  rw [List.length_map]
  have := SE_tally_len (p.2.map ckOf)
  rwa [List.length_map] at this
theorem wts_len : ∀ {t : List Pt}, (∀ p ∈ t, p.2.length ≤ 100) → (t.flatMap wt).length ≤ 100 * t.length
  | [], _ => Nat.le_refl _
  | p :: t, h => by
    rw [List.flatMap_cons, List.length_append, List.length_cons]
    have h1 := wt_len p
    have h2 := h p (by simp)
    have h3 := wts_len (t := t) fun q hq => h q (by simp [hq])
    omega
theorem dc_run6 {a b c d : PV} {es : List (Ck × Int)} (nd : (es.map (·.1)).Nodup) : ∀ (rest acc : List (Ck × Int)) (v : PV), ((acc ++ rest).map (·.1)).Nodup → (∀ e ∈ rest, e ∈ es) → (acc ++ rest).length ≤ 1000000 →
    ∃ w, dcF (stN 5) tyes (rd 5) (opB dget1 1 (rd 5)) [5] (rest.map fun e => ckP e.1) [a, .dct true true (es.map entP), b, c, d, v] (acc.map entP) = .ok ((acc ++ rest).map entP, [a, .dct true true (es.map entP), b, c, d, w])
  | [], acc, v, _, _, _ => ⟨.un, by rw [List.append_nil]; rfl⟩
  | e :: rest, acc, v, h, m, l => by
    have he := m e List.mem_cons_self
    have hg := dget1_ent (o := true) (getC_of nd he)
    have h1 : opB dget1 1 (rd 5) [a, .dct true true (es.map entP), b, c, d, ckP e.1] = .ok (.int e.2, [a, .dct true true (es.map entP), b, c, d, ckP e.1]) := by
      push_cast [hg]
    have hn : getC acc e.1 = none := by
      cases q : getC acc e.1 with
      | none => rfl
      | some u =>
        have hm := getC_mem q
        rw [List.map_append] at h
        obtain ⟨_, _, h3⟩ := List.nodup_append.mp h
        exact absurd rfl (h3 e.1 (List.mem_map.mpr ⟨_, hm, rfl⟩) e.1 (List.mem_map.mpr ⟨e, List.mem_cons_self, rfl⟩))
    have hp : putE acc e.1 e.2 = acc ++ [e] := by
      unfold putE
      rw [hn]
      rfl
    rw [List.length_append, List.length_cons] at l
    have hf : fits ((acc.map entP).length + 1) = true := fits_of (by rw [List.length_map]; omega)
    obtain ⟨w, hw⟩ := dc_run6 (a := a) (b := b) (c := c) (d := d) nd rest (acc ++ [e]) (ckP e.1) (by rw [List.append_assoc]; exact h) (fun x hx => m x (List.mem_cons_of_mem _ hx)) (by rw [List.length_append, List.length_append]; simp; omega)
    refine ⟨w, ?_⟩
    rw [List.map_cons]
    unfold dcF
    have g1 : stN 5 (ckP e.1) (wip [a, .dct true true (es.map entP), b, c, d, v] [5]) = some [a, .dct true true (es.map entP), b, c, d, ckP e.1] := rfl
    have g2 : rd 5 [a, .dct true true (es.map entP), b, c, d, ckP e.1] = .ok (ckP e.1, [a, .dct true true (es.map entP), b, c, d, ckP e.1]) := by push_cast
    simp only [g1, tyes, g2, h1, ck_kOf, hf, if_true, fz_int, dput_ent, hp]
    rw [hw, List.append_assoc]
    rfl
theorem tcarts_ok {o : Bool} {t : List Pt} (hl : t.length ≤ 10000) (hr : ∀ p ∈ t, p.2.length ≤ 100) : OK (F_carts_of [.lst o (t.map partP)]) fun r => r = (.dct true true ((cartsT t).map entP), []) := by
  refine OK_run (OK_seq (OK_asg (p := .dct true true []) (τ' := [.lst o (t.map partP), .dct true true [], .un, .un, .un, .un]) rfl rfl (sq_nx ?_)))
  refine OK_seq (OK_forM (P := partP) (xs := t) (τ1 := [.lst false (t.map partP), .dct true true [], .un, .un, .un, .un]) (fun ds τ => ∃ (a b c d : PV), τ = [.lst false (t.map partP), .dct true true ((sumE (ds.flatMap wt)).map entP), a, b, c, d])
    (by push_cast [ilst] <;> rfl) ⟨.un, .un, .un, .un, rfl⟩ ?_ ?_)
  · rintro ds p rest τ ex ⟨a, b, c, d, rfl⟩
    have hp : p ∈ t := by rw [ex]; simp
    have hlp := hr p hp
    have hld : (ds.flatMap wt).length ≤ 100 * ds.length := wts_len fun q hq => hr q (by rw [ex]; simp [hq])
    have lt := congrArg List.length ex
    rw [List.length_append, List.length_cons] at lt
    refine ⟨[.lst false (t.map partP), .dct true true ((sumE (ds.flatMap wt)).map entP), .int p.1, .lst false (p.2.map stepP), c, d], rfl, ?_⟩
    obtain ⟨_, hF, rfl⟩ := OK_ex (carts_in_ok (o := false) (ss := p.2) (by omega))
    refine OK_seq (OK_asg (p := .dct true true ((SE (tally (p.2.map ckOf))).map entP)) (by (push_cast [hF] <;> rfl)) (by (push_cast <;> rfl)) (sq_nx ?_))
    generalize hE : SE (tally (p.2.map ckOf)) = E
    have T := tally_tal (p.2.map ckOf)
    have pmE : E.Perm (tally (p.2.map ckOf)) := hE ▸ SE_perm _
    have ndE : (E.map (·.1)).Nodup := (pmE.map _).nodup_iff.mpr T.nd
    have lE : E.length ≤ 100 := by rw [pmE.length_eq]; have := T.len; rw [List.length_map] at this; omega
    have ew : wt p = E.map fun e => (e.1, p.1 * e.2) := by unfold wt; rw [hE]
    have fE : fzs (E.map entP) = E.map entP := fzs_of (isFzs_ent E)
    refine OK_forD (P := fun e : Ck × Int => ckP e.1) (xs := E) (fun es τ => ∃ v, τ = [.lst false (t.map partP), .dct true true ((sumE (ds.flatMap wt ++ es.map fun e => (e.1, p.1 * e.2))).map entP), .int p.1, .lst false (p.2.map stepP), .dct false true (E.map entP), v]) rfl (by rw [fE, eK_ents]) ⟨d, by rw [fE]; simp⟩ ?_ ?_
    · rintro es e rest' τ ex' ⟨v, rfl⟩
      have he : e ∈ E := by rw [ex']; simp
      have hg := dget1_ent (o := false) (getC_of ndE he)
      have b2 := T.num e (pmE.mem_iff.mp he)
      rw [List.length_map] at b2
      have hm : gMulA (.int p.1) (.int e.2) = some (.int (p.1 * e.2)) := mulA_int (cMul_r (by omega) (by omega))
      have lt' := congrArg List.length ex'
      rw [List.length_append, List.length_cons] at lt'
      have hs := sum_len (ds.flatMap wt ++ es.map fun e => (e.1, p.1 * e.2))
      rw [List.length_append, List.length_map] at hs
      have hf : fits ((sumE (ds.flatMap wt ++ es.map fun e => (e.1, p.1 * e.2))).length + 1) = true := fits_of (by omega)
      generalize hS : sumE (ds.flatMap wt ++ es.map fun e => (e.1, p.1 * e.2)) = S at hf
      refine ⟨[.lst false (t.map partP), .dct true true (S.map entP), .int p.1, .lst false (p.2.map stepP), .dct false true (E.map entP), ckP e.1], rfl, ?_⟩
      have hadd : addE S (e.1, p.1 * e.2) = sumE (ds.flatMap wt ++ (es ++ [e]).map fun e => (e.1, p.1 * e.2)) := by
        rw [List.map_append, ← List.append_assoc, List.map_cons, List.map_nil, sum_snoc, hS]
      refine OK_asg (p := .int ((getC S e.1).getD 0 + p.1 * e.2)) (τ1 := [.lst false (t.map partP), .dct true true (S.map entP), .int p.1, .lst false (p.2.map stepP), .dct false true (E.map entP), ckP e.1]) (by push_cast [hg, hm])
        (τ' := [.lst false (t.map partP), .dct true true ((putE S e.1 ((getC S e.1).getD 0 + p.1 * e.2)).map entP), .int p.1, .lst false (p.2.map stepP), .dct false true (E.map entP), ckP e.1]) (by push_cast [hf]) ⟨_, rfl, ckP e.1, ?_⟩
      rw [← hadd]
      rfl
    · rintro τ ⟨v, rfl⟩
      refine ⟨.int p.1, .lst false (p.2.map stepP), .dct false true (E.map entP), v, ?_⟩
      rw [List.flatMap_append, ← ew]
      simp only [List.flatMap_cons, List.flatMap_nil, List.append_nil]
  · rintro τ ⟨a, b, c, d, rfl⟩
    have hlt := wts_len hr
    have hs := sum_len (t.flatMap wt)
    have nd := sum_nd (t.flatMap wt)
    unfold cartsT
    generalize sumE (t.flatMap wt) = S at hs nd
    have pm := SE_perm S
    have nd2 : ((SE S).map (·.1)).Nodup := (pm.map _).nodup_iff.mpr nd
    obtain ⟨w, hw⟩ := dc_run6 (a := .lst false (t.map partP)) (b := a) (c := b) (d := c) nd (SE S) [] d nd2 (fun e he => pm.mem_iff.mp he) (by rw [List.nil_append, pm.length_eq]; omega)
    have hs := sortedD_ok (o := true) nd
    have fzk : fzs ((SE S).map fun e => ckP e.1) = (SE S).map fun e => ckP e.1 := fzs_of (isFzs_map (fun _ => rfl) _)
    refine sq_nx (OK_ret (p := .dct true true ((SE S).map entP)) (τ' := [.lst false (t.map partP), .dct true true (S.map entP), a, b, c, w]) ?_ rfl)
    unfold vdc
    have e1 : ilst (cbB gSortedD 1) [.lst false (t.map partP), .dct true true (S.map entP), a, b, c, d] = .ok ((SE S).map fun e => ckP e.1, [.lst false (t.map partP), .dct true true (S.map entP), a, b, c, d]) := by
      push_cast [ilst, hs, fzk]
    have e2 : dcF (stN 5) tyes (rd 5) (opB dget1 1 (rd 5)) [5] ((SE S).map fun e => ckP e.1) [.lst false (t.map partP), .dct true true (S.map entP), a, b, c, d] [] = .ok ((SE S).map entP, [.lst false (t.map partP), .dct true true (S.map entP), a, b, c, w]) := by
      have hw := hw
      rw [List.nil_append] at hw
      exact hw
    rw [e1]
    simp only [bnd_ok, e2]
/-! ### the same carts -/
theorem flip_ck (s : St3) : ckOf (flip s) = ckOf s := rfl
theorem aboutR_carts (ss : List St3) : ((aboutR ss).map ckOf).Perm (ss.map ckOf) := by
  unfold aboutR
  rw [List.map_map]
  have : (ckOf ∘ flip) = ckOf := rfl
  rw [this]
  exact (List.reverse_perm ss).map _
theorem wt_about (p : Pt) : wt (aboutP p) = wt p := by
  unfold wt aboutP
  rw [tally_perm (aboutR_carts p.2)]
theorem cartsT_perm {t u : List Pt} (h : (t.flatMap wt).Perm (u.flatMap wt)) : cartsT t = cartsT u := SE_eq (sum_perm h)
theorem cartsT_about (t : List Pt) : cartsT (aboutT t) = cartsT t := by
  refine cartsT_perm ?_
  unfold aboutT
  rw [List.flatMap_map]
  have : (fun p => wt (aboutP p)) = wt := funext wt_about
  rw [this]
  exact (List.reverse_perm t).flatMap_right _
theorem eqK_same (ne o o' : Bool) (es : List (Ck × Int)) : gEqK ne (.dct o true (es.map entP)) (.dct o' true (es.map entP)) = some (.bl (!ne)) := by
  unfold gEqK
  have e : (es.map entP).map eVal = (es.map (·.2)).map .int := by rw [List.map_map, List.map_map]; rfl
  simp only [e, ints_map]
  simp
end FL

namespace FL
open PySem PySem.Spec PyProof.Rows L2
open HK (SX SXs Asc Sm SmA Sh Tells)
/-! ### turned about, as it stands -/
theorem flip_beg (s : St3) : begS (flip s) = endS s := by
  obtain ⟨a, b, t, u⟩ := s
  unfold flip begS endS
  by_cases h : a = b
  · subst h; cases u <;> simp
  · simp only [h, if_false]
    cases u <;> rfl
theorem flip_end (s : St3) : endS (flip s) = begS s := by
  obtain ⟨a, b, t, u⟩ := s
  unfold flip begS endS
  by_cases h : a = b
  · subst h; cases u <;> simp
  · simp only [h, if_false]
    cases u <;> rfl
theorem flip_flip (s : St3) : flip (flip s) = s := by
  obtain ⟨a, b, t, u⟩ := s
  unfold flip
  by_cases h : a = b
  · subst h; simp
  · simp [h]
theorem flip_v {s : St3} (h : StV s) (ht : s.t = true) : StV (flip s) where
  ok := h.ok
  le := h.le
  tu := fun z => ⟨ht, fun e => by
    have e : s.a = s.b := e
    unfold flip at z
    simp only [e, if_true] at z
    exact (h.tu z).2 e⟩
theorem aboutR_cons (s : St3) (ss : List St3) : aboutR (s :: ss) = aboutR ss ++ [flip s] := by
  unfold aboutR
  rw [List.reverse_cons, List.map_append]
  rfl
theorem aboutR_app (xs ys : List St3) : aboutR (xs ++ ys) = aboutR ys ++ aboutR xs := by
  unfold aboutR
  rw [List.reverse_append, List.map_append]
theorem aboutR_aboutR (ss : List St3) : aboutR (aboutR ss) = ss := by
  unfold aboutR
  rw [← List.map_reverse, List.reverse_reverse, List.map_map]
  have : flip ∘ flip = id := funext flip_flip
  rw [this, List.map_id]
theorem aboutR_len (ss : List St3) : (aboutR ss).length = ss.length := by
  unfold aboutR
  rw [List.length_map, List.length_reverse]
theorem runs_about : ∀ {a : Str} {ss : List St3}, runs a ss → runs (ends a ss) (aboutR ss) ∧ ends (ends a ss) (aboutR ss) = a
  | _, [], _ => ⟨trivial, rfl⟩
  | a, s :: ss, h => by
    obtain ⟨h1, h2⟩ := runs_about (a := endS s) h.2
    rw [aboutR_cons]
    refine ⟨runs_app.mpr ⟨h1, ?_, trivial⟩, ?_⟩
    · show begS (flip s) = ends (ends (endS s) ss) (aboutR ss)
      rw [h2, flip_beg]
    · rw [ends_app]
      show endS (flip s) = a
      rw [flip_end]
      exact h.1
theorem allT_about {ss : List St3} (h : AllT ss) : AllT (aboutR ss) := fun s hs => by
  unfold aboutR at hs
  obtain ⟨s', hs', rfl⟩ := List.mem_map.mp hs
  exact h s' (List.mem_reverse.mp hs')
theorem PtV.about {a : Str} {p : Pt} (h : PtV a p) (ht : AllT p.2) : PtV (ends a p.2) (aboutP p) where
  ne := fun z => h.ne (by
    have := congrArg List.length z
    unfold aboutP at this
    rw [aboutR_len] at this
    exact List.length_eq_zero_iff.mp this)
  len := by unfold aboutP; rw [aboutR_len]; exact h.len
  run := (runs_about h.run).1
  st := fun s hs => by
    unfold aboutP aboutR at hs
    obtain ⟨s', hs', rfl⟩ := List.mem_map.mp hs
    have m := List.mem_reverse.mp hs'
    exact flip_v (h.st s' m) (ht s' m)
  n1 := h.n1
  n2 := h.n2
  cl := fun z => by
    have := (runs_about h.run).2
    rw [h.cl z] at this ⊢
    exact this
theorem aboutT_cons (p : Pt) (t : List Pt) : aboutT (p :: t) = aboutT t ++ [aboutP p] := by
  unfold aboutT
  rw [List.reverse_cons, List.map_append]
  rfl
theorem aboutT_app (t u : List Pt) : aboutT (t ++ u) = aboutT u ++ aboutT t := by
  unfold aboutT
  rw [List.reverse_append, List.map_append]
theorem aboutP_aboutP (p : Pt) : aboutP (aboutP p) = p := by
  unfold aboutP
  rw [aboutR_aboutR]
theorem aboutT_aboutT (t : List Pt) : aboutT (aboutT t) = t := by
  unfold aboutT
  rw [← List.map_reverse, List.reverse_reverse, List.map_map]
  have : aboutP ∘ aboutP = id := funext aboutP_aboutP
  rw [this, List.map_id]
theorem aboutT_len (t : List Pt) : (aboutT t).length = t.length := by
  unfold aboutT
  rw [List.length_map, List.length_reverse]
theorem aboutT_ne {t : List Pt} (h : t ≠ []) : aboutT t ≠ [] := fun z => h (List.length_eq_zero_iff.mp (by rw [← aboutT_len, z]; rfl))
theorem TrV.about : ∀ {a : Str} {t : List Pt}, TrV a t → AllTT t → TrV (endT a t) (aboutT t) ∧ endT (endT a t) (aboutT t) = a
  | _, [], _, _ => ⟨trivial, rfl⟩
  | a, p :: t, h, ht => by
    obtain ⟨h1, h2⟩ := TrV.about (a := ends a p.2) h.2 fun q hq => ht q (by simp [hq])
    have hp := ht p (by simp)
    rw [aboutT_cons]
    refine ⟨TrV_app.mpr ⟨h1, ?_, trivial⟩, ?_⟩
    · show PtV (endT (endT (ends a p.2) t) (aboutT t)) (aboutP p)
      rw [h2]
      exact h.1.about hp
    · rw [endT_app]
      show ends (endT (endT (ends a p.2) t) (aboutT t)) (aboutR p.2) = a
      rw [h2]
      exact (runs_about h.1.run).2
theorem allTT_about {t : List Pt} (h : AllTT t) : AllTT (aboutT t) := fun p hp => by
  unfold aboutT at hp
  obtain ⟨q, hq, rfl⟩ := List.mem_map.mp hp
  exact allT_about (h q (List.mem_reverse.mp hq))
theorem allTT_app {t u : List Pt} (h : AllTT t) (h' : AllTT u) : AllTT (t ++ u) := fun p hp => by
  rcases List.mem_append.mp hp with hp | hp
  · exact h p hp
  · exact h' p hp
theorem PtV.b {a : Str} {p : Pt} (h : PtV a p) : PtB p := ⟨h.n1, h.ne, by have := h.len; omega⟩
theorem TrV.b {a : Str} {t : List Pt} (h : TrV a t) : ∀ p ∈ t, PtB p := fun p hp => let ⟨_, v⟩ := TrV_mem h hp; v.b
theorem TrV.len4 {a : Str} {t : List Pt} (h : TrV a t) : ∀ p ∈ t, p.2.length ≤ 4 := fun p hp => let ⟨_, v⟩ := TrV_mem h hp; v.len
theorem lenT_le : ∀ {a : Str} {t : List Pt}, TrV a t → lenT t ≤ (t.length : Int) * 400000000000000000000000000024 ∧ (t.length : Int) ≤ lenT t
  | _, [], _ => ⟨by simp [lenT_nil], by simp [lenT_nil]⟩
  | a, p :: t, h => by
    obtain ⟨h1, h2⟩ := lenT_le (a := ends a p.2) h.2
    have l0 : 0 < p.2.length := List.length_pos_iff.mpr h.1.ne
    have b1 : p.1 * (p.2.length : Int) ≤ 100000000000000000000000000006 * 4 := Int.mul_le_mul h.1.n2 (by have := h.1.len; omega) (by omega) (by omega)
    have b2 : 1 * 1 ≤ p.1 * (p.2.length : Int) := Int.mul_le_mul h.1.n1 (by omega) (by omega) (by have := h.1.n1; omega)
    rw [lenT_cons, List.length_cons]
    constructor
    · rw [Int.natCast_add, Int.add_mul]
      omega
    · omega
/-! ### the same -/
theorem neD_of {p q : PV} {d : PyData} {n m : Nat} (h : toD p = some d) (h' : toD q = some d) (s : Sm d n m) (c : m ≤ 60) : gEqD true p q = some (.bl false) := by
  unfold gEqD
  rw [h, h']
  simp only [s.shaped c, Bool.and_self, if_true]
  rw [SeqAt.eqv_refl d s.lay]
  rfl
theorem eqA_tup {ne : Bool} {ps qs : List PV} : gEqA ne (.tup ps) (.tup qs) = gEqD ne (.tup ps) (.tup qs) := rfl
theorem eqA_lsts {ne o o' : Bool} {ps qs : List PV} : gEqA ne (.lst o ps) (.lst o' qs) = gEqD ne (.lst o ps) (.lst o' qs) := rfl
theorem ne_ends {a b : Str} (ha : KindOK a) (hb : KindOK b) : gEqA true (.tup [.str a, .str b]) (.tup [.str a, .str b]) = some (.bl false) :=
  eqA_tup.trans (neD_of (d := .tuple [.str a, .str b]) rfl rfl (Sm.tuple ((SmA.cons (kind_sm ha) (SmA.cons (kind_sm hb) SmA.nil)).mono (m := 40) (j := 1) (by omega) (by omega))) (by omega))
theorem ne_step {s : St3} (h : s.ok) : gEqA true (stepP s) (stepP s) = some (.bl false) := eqA_tup.trans (neD_of (st_d s) (st_d s) (st_sm h) (by omega))
theorem ne_rows {o o' : Bool} {ss : List St3} (h : ∀ s ∈ ss, s.ok) : gEqA true (.lst o (ss.map stepP)) (.lst o' (ss.map stepP)) = some (.bl false) :=
  eqA_lsts.trans (neD_of (stepsP_d o ss) (stepsP_d o' ss) (Sm.list (smA_map fun s hs => st_sm (h s hs))) (by omega))
theorem lr_mem {t : List Pt} {s : St3} (h : s ∈ lr t) : ∃ p ∈ t, s ∈ p.2 := by
  unfold lr at h
  obtain ⟨l, hl, hs⟩ := List.mem_flatten.mp h
  obtain ⟨p, hp, rfl⟩ := List.mem_map.mp hl
  unfold rep at hs
  obtain ⟨l2, hl2, hs2⟩ := List.mem_flatten.mp hs
  cases (List.mem_replicate.mp hl2).2
  exact ⟨p, hp, hs2⟩
theorem same_ok {a : Str} {g : PV} {o o' : Bool} {t : List Pt} (hg : IsBag g) (ha : KindOK a) (h : TrV a t) (ne : t ≠ []) (hl : t.length ≤ 1000) :
    OK (F_l_same [g, .lst o (t.map partP), .lst o' (t.map partP)]) fun r => ∃ g', r = (.bl true, [g']) ∧ IsBag g' := by
  have hL := length_ok (o := false) (t := t) (by omega) fun p hp => by have := h.len4 p hp; omega
  obtain ⟨_, hC, rfl⟩ := OK_ex (tcarts_ok (o := false) (t := t) (by omega) fun p hp => by have := h.len4 p hp; omega)
  have hE := train_ends_ok (o := false) h ne
  obtain ⟨b1, b2⟩ := lenT_le h
  have lp : 0 < t.length := List.length_pos_iff.mpr ne
  have hk := eqK_same true true true (cartsT t)
  have hz := ne_ends ha (endT_kind ha h)
  have hi : gEqA true (.int (lenT t)) (.int (lenT t)) = some (.bl false) := by rw [neA_int]; simp
  obtain ⟨ps, rfl⟩ := hg.lst
  refine OK_run ?_
  refine OK_seq (OK_if (b := false) (τ' := [.lst true ps, .lst false (t.map partP), .lst false (t.map partP), .un, .un, .un]) (by push_cast [hL, hC, hE, hk, hz, hi] <;> rfl) (fun z => nomatch z) fun _ => OK_next (sq_nx ?_))
  obtain ⟨acc, τ', h1, g2, v, ns, rfl, hg2, rfl, ln, hn⟩ := lc_run (gg := stN 4) (t := tyes) (e := cal [true, false] F_l_take [0] (has 0 (vcons (cal [false] F_length [] (vcons (rd 1) vnil)) vnil))) (vs := [4]) (f := irng1 (vcons (cst (.int 6)) vnil)) (xs := rng 0 6) (τ := [.lst true ps, .lst false (t.map partP), .lst false (t.map partP), .un, .un, .un]) (τ1 := [.lst true ps, .lst false (t.map partP), .lst false (t.map partP), .un, .un, .un])
    (fun done τ acc => ∃ (g' v : PV) (ns : List Int), τ = [g', .lst false (t.map partP), .lst false (t.map partP), .un, v, .un] ∧ IsBag g' ∧ acc = ns.map PV.int ∧ ns.length = done.length ∧ ∀ n ∈ ns, 0 ≤ n ∧ n < lenT t)
    (irng1_ok (j := 6) (by (push_cast <;> rfl)) (by omega) (by omega)) ⟨_, .un, [], rfl, hg, rfl, rfl, fun n hn => (List.not_mem_nil hn).elim⟩ fun done x rest τ acc ex ⟨g', v, ns, et, hg', ea, ln, hn⟩ => by
      subst et ea
      have lx := congrArg List.length ex
      rw [rng_len, List.length_append, List.length_cons] at lx
      obtain ⟨q1, rfl⟩ := hg'.lst
      obtain ⟨⟨_, _⟩, hF, y, g2, e, hg2, y0, y1⟩ := OK_ex (take_ok hg' (m := lenT t) (by omega) (by omega))
      cases e
      obtain ⟨q2, rfl⟩ := hg2.lst
      refine ⟨[.lst true q1, .lst false (t.map partP), .lst false (t.map partP), .un, x, .un], true, [.lst true q1, .lst false (t.map partP), .lst false (t.map partP), .un, x, .un], rfl, rfl, (fun z => Bool.noConfusion z), fun _ => ⟨.int y, [.lst true q2, .lst false (t.map partP), .lst false (t.map partP), .un, x, .un], by push_cast [hL, hF] <;> rfl, fits_of (by rw [List.length_map]; omega), .lst true q2, x, ns ++ [y], rfl, hg2, by rw [List.map_append]; rfl, by simp [ln], fun n hn' => ?_⟩⟩
      rcases List.mem_append.mp hn' with hn' | hn'
      · exact hn n hn'
      · cases List.mem_singleton.mp hn'; exact ⟨y0, y1⟩
  obtain ⟨q2, rfl⟩ := hg2.lst
  have hf : fits (0 + 1 + 1 + (ns.map PV.int).length) = true := fits_of (by rw [List.length_map, ln, rng_len]; decide)
  refine OK_seq (OK_asg (p := .lst true ((0 :: (lenT t - 1) :: ns).map PV.int)) (τ1 := [.lst true q2, .lst false (t.map partP), .lst false (t.map partP), .un, .un, .un]) (by push_cast [hL, h1, hf] <;> rfl) (by (push_cast <;> rfl)) (sq_nx ?_))
  have hall : ∀ n ∈ (0 :: (lenT t - 1) :: ns), 0 ≤ n ∧ n < lenT t := fun n hn' => by
    rcases List.mem_cons.mp hn' with rfl | hn'
    · omega
    · rcases List.mem_cons.mp hn' with rfl | hn'
      · omega
      · exact hn n hn'
  generalize (0 :: (lenT t - 1) :: ns) = ms at hall
  obtain ⟨acc, τ', h2, v, rfl, rfl⟩ := lc_run (gg := stN 5) (t := tst (bin (gEqA true) (cal [false, false] F_step_at [] (vcons (rd 1) (vcons (rd 5) vnil))) (cal [false, false] F_step_at [] (vcons (rd 2) (vcons (rd 5) vnil))))) (e := rd 5) (vs := [5]) (f := ilst (rd 3)) (xs := ms.map PV.int)
    (τ := [.lst true q2, .lst false (t.map partP), .lst false (t.map partP), .lst true (ms.map PV.int), .un, .un]) (τ1 := [.lst true q2, .lst false (t.map partP), .lst false (t.map partP), .lst false (ms.map PV.int), .un, .un])
    (fun done τ acc => ∃ v : PV, τ = [.lst true q2, .lst false (t.map partP), .lst false (t.map partP), .lst false (ms.map PV.int), .un, v] ∧ acc = [])
    (by push_cast [ilst] <;> rfl) ⟨.un, rfl, rfl⟩ fun done x rest τ acc ex ⟨v, et, ea⟩ => by
      subst et ea
      have hx : x ∈ ms.map PV.int := by rw [ex]; simp
      obtain ⟨n, hn', rfl⟩ := List.mem_map.mp hx
      obtain ⟨n0, n1⟩ := hall n hn'
      obtain ⟨s, hs, hF⟩ := step_at_ok (o := false) (by omega) h.b n0 n1
      obtain ⟨p, hp, hsp⟩ := lr_mem (List.mem_of_getElem? hs)
      obtain ⟨b, vp⟩ := TrV_mem h hp
      have hne := ne_step (vp.st s hsp).ok
      refine ⟨[.lst true q2, .lst false (t.map partP), .lst false (t.map partP), .lst false (ms.map PV.int), .un, .int n], false, [.lst true q2, .lst false (t.map partP), .lst false (t.map partP), .lst false (ms.map PV.int), .un, .int n], rfl, by push_cast [hF, hne] <;> rfl, fun _ => ⟨.int n, rfl, rfl⟩, fun z => Bool.noConfusion z⟩
  have he : gEqA false (.lst true []) (.lst true []) = some (.bl true) := by
    have := eqD_of (p := .lst true []) (q := .lst true []) (d := .list []) rfl rfl (Sm.list SmA.nil) (by omega)
    exact this
  exact OK_ret (p := .bl true) (τ' := [.lst true q2, .lst false (t.map partP), .lst false (t.map partP), .lst false (ms.map PV.int), .un, .un]) (by push_cast [h2, he] <;> rfl) ⟨_, rfl, hg2⟩
end FL

namespace FL
open PySem PySem.Spec PyProof.Rows L2
/-- a turn of the law -/
def b_lawR : En → Rs Fl :=
    (sseq (sasg (cal [true, false] F_l_kinds [1] (has 1 (vcons (bin gAddA (cst (.int 1)) (cal [true, false] F_l_take [1] (has 1 (vcons (cst (.int 4)) vnil)))) vnil))) (stN 3))
      (sseq (spar 4 5 (vcons (cal [false] F_l_freed [] (vcons (fzE (cal [true, false, false] F_l_train [1] (has 1 (vcons (rd 3) (vcons (cst (.int 4)) vnil))))) vnil)) (vcons (vlst vnil) vnil)))
      (sseq (sfor (ilst (rd 4)) (stTup 2 (stCons (stN 6) (stCons (stN 7) stNil)))
         (sasg (bin gAddA (rd 5) (rd 7)) (stN 5)))
      (sseq (sasg (cal [false] F_train_about [] (vcons (rd 4) vnil)) (stN 8))
      (sseq (sif (tor (tnot (tst (cal [true, false, false] F_l_same [1] (has 1 (vcons (fzE (cal [false] F_train_about [] (vcons (rd 8) vnil))) (vcons (rd 4) vnil)))))) (tst (bin (gEqA true) (cal [false] F_train_ends [] (vcons (rd 8) vnil)) (revT (cal [false] F_train_ends [] (vcons (rd 4) vnil))))))
         (sret (cst (.bl false)))
         snx)
      (sseq (sif (tor (tst (bin (gEqK true) (cal [false] F_carts_of [] (vcons (rd 8) vnil)) (cal [false] F_carts_of [] (vcons (rd 4) vnil)))) (tst (bin (gEqA true) (cal [false] F_n_row_about [] (vcons (fzE (cal [false] F_n_row_about [] (vcons (rd 5) vnil))) vnil)) (rd 5))))
         (sret (cst (.bl false)))
         snx)
      (sseq (sif (tor (tst (bin (gEqA true) (cal [false] F_row_ends [] (vcons (fzE (cal [false] F_n_row_about [] (vcons (rd 5) vnil))) vnil)) (revT (cal [false] F_row_ends [] (vcons (rd 5) vnil))))) (tst (bin (gEqK true) (cal [false] F_carts_in [] (vcons (fzE (cal [false] F_n_row_about [] (vcons (rd 5) vnil))) vnil)) (cal [false] F_carts_in [] (vcons (rd 5) vnil)))))
         (sret (cst (.bl false)))
         snx)
      (sseq (sif (tor (tst (bin (gEqA true) (vlc (ilst (rd 5)) (stN 9) tyes (cal [false] F_n_about [] (vcons (cal [false] F_n_about [] (vcons (rd 9) vnil)) vnil)) [9]) (rd 5))) (tst (bin (gEqA true) (cal [false] F_n_row_about [] (vcons (rd 5) vnil)) (vlc (ilst (revL (rd 5))) (stN 9) tyes (cal [false] F_n_about [] (vcons (rd 9) vnil)) [9]))))
         (sret (cst (.bl false)))
         snx)
      (sseq (sasg (cal [false] F_l_freed [] (vcons (fzE (vlst (vcons (vtup (vcons (cst (.int 3)) (vcons (cal [true, false, false, false] F_l_round [1] (has 1 (vcons (rd 3) (vcons (bin ixA (cal [false] F_train_ends [] (vcons (rd 4) vnil)) (cst (.int 1))) (vcons (cst (.int 3)) vnil))))) vnil))) vnil))) vnil)) (stN 10))
      (sif (tnot (tst (cal [true, false, false] F_l_same [1] (has 1 (vcons (fzE (cal [false] F_train_about [] (vcons (fzE (cal [false, false] F_joined [] (vcons (rd 4) (vcons (rd 10) vnil)))) vnil))) (vcons (fzE (cal [false, false] F_joined [] (vcons (fzE (cal [false] F_train_about [] (vcons (rd 10) vnil))) (vcons (rd 8) vnil)))) vnil))))))
         (sret (cst (.bl false)))
         snx))))))))))
/-- the law behind its first statement -/
def b_law2 : En → Rs Fl :=
    (sseq (sfor (irng1 (vcons (cst (.int 6)) vnil)) (stN 2) b_lawR)
    (sret (cst (.bl true))))
end FL

namespace FL
open PySem PySem.Spec PyProof.Rows L2
open HK (SX SXs Asc Sm SmA Sh Tells)
/-! ### the law of trains turned about twice -/
def flatR (t : List Pt) : List St3 := t.flatMap (·.2)
theorem flatR_runs : ∀ {a : Str} {t : List Pt}, TrV a t → runs a (flatR t) ∧ ends a (flatR t) = endT a t
  | _, [], _ => ⟨trivial, rfl⟩
  | a, p :: t, h => by
    obtain ⟨h1, h2⟩ := flatR_runs (a := ends a p.2) h.2
    unfold flatR at h1 h2 ⊢
    rw [List.flatMap_cons]
    exact ⟨runs_app.mpr ⟨h.1.run, h1⟩, by rw [ends_app]; exact h2⟩
theorem flatR_ne {a : Str} {t : List Pt} (h : TrV a t) (ne : t ≠ []) : flatR t ≠ [] := by
  cases t with
  | nil => exact absurd rfl ne
  | cons p t =>
    unfold flatR
    rw [List.flatMap_cons]
    intro z
    exact h.1.ne (List.append_eq_nil_iff.mp z).1
theorem flatR_mem {t : List Pt} {s : St3} (h : s ∈ flatR t) : ∃ p ∈ t, s ∈ p.2 := by
  unfold flatR at h
  obtain ⟨p, hp, hs⟩ := List.mem_flatMap.mp h
  exact ⟨p, hp, hs⟩
theorem flatR_len : ∀ {a : Str} {t : List Pt}, TrV a t → (flatR t).length ≤ 4 * t.length
  | _, [], _ => Nat.le_refl _
  | a, p :: t, h => by
    have h1 := flatR_len (a := ends a p.2) h.2
    unfold flatR at h1 ⊢
    rw [List.flatMap_cons, List.length_append, List.length_cons]
    have := h.1.len
    omega
theorem ends_of_row {a : Str} {o : Bool} {ss : List St3} (h : runs a ss) (ne : ss ≠ []) : F_row_ends [.lst o (ss.map stepP)] = .ok (.tup [.str a, .str (ends a ss)], []) := by
  obtain ⟨x, hx, _⟩ := first_at ne
  obtain ⟨y, hy, _⟩ := last_at ne
  have := row_ends_ok (o := o) hx hy
  rw [runs_first h hx, ends_last (a := a) hy] at this
  exact this
theorem aboutR_ne {ss : List St3} (h : ss ≠ []) : aboutR ss ≠ [] := fun z => h (List.length_eq_zero_iff.mp (by rw [← aboutR_len, z]; rfl))
theorem lawR_ok {s0 g t a3 a4 a5 a6 a7 a8 a9 a10 : PV} (hg : IsBag g) : OK (b_lawR [s0, g, t, a3, a4, a5, a6, a7, a8, a9, a10]) fun fl => ∃ g' a3 a4 a5 a6 a7 a8 a9 a10, IsBag g' ∧ fl = .nx [s0, g', t, a3, a4, a5, a6, a7, a8, a9, a10] := by
  obtain ⟨_, hF1, n, g1, rfl, hg1, n0, n1⟩ := OK_ex (take_ok hg (m := 4) (by omega) (by omega))
  obtain ⟨_, hK, ks, g2, rfl, hg2, hks, lks⟩ := OK_ex (kinds_ok hg1 (n := 1 + n) (by omega) (by omega))
  obtain ⟨_, hT, a, tr, g3, rfl, hg3, ha, vt, nt, lt⟩ := OK_ex (train_ok (o := false) (n := 4) hg2 hks (by omega) (by omega) (by omega) (by omega))
  have vu := vt.free
  have au := free_allTT tr
  have nu : tr.map freeP ≠ [] := fun z => nt (List.map_eq_nil_iff.mp z)
  have lu : (tr.map freeP).length ≤ 4 := by rw [List.length_map]; omega
  obtain ⟨_, hFr, rfl⟩ := OK_ex (freed_ok (o := false) (t := tr) (by omega) fun p hp => by have := vt.len4 p hp; omega)
  generalize tr.map freeP = u at vu au nu lu hFr
  have l4 := vu.len4
  obtain ⟨_, hA, rfl⟩ := OK_ex (train_about_ok (o := false) au (by omega) fun p hp => by have := l4 p hp; omega)
  have aau := allTT_about au
  obtain ⟨va, ea⟩ := vu.about au
  have la : (aboutT u).length ≤ 4 := by rw [aboutT_len]; exact lu
  obtain ⟨_, hA2, rfl⟩ := OK_ex (train_about_ok (o := false) aau (by omega) fun p hp => by have := va.len4 p hp; omega)
  rw [aboutT_aboutT] at hA2
  obtain ⟨_, hS, g4, rfl, hg4⟩ := OK_ex (same_ok (o := false) (o' := false) hg3 ha vu nu (by omega))
  have hE := train_ends_ok (o := false) vu nu
  have hE2 := train_ends_ok (o := false) va (aboutT_ne nu)
  rw [ea] at hE2
  have hne := ne_ends (endT_kind ha vu) ha
  obtain ⟨_, hC, rfl⟩ := OK_ex (tcarts_ok (o := false) (t := u) (by omega) fun p hp => by have := l4 p hp; omega)
  obtain ⟨_, hC2, rfl⟩ := OK_ex (tcarts_ok (o := false) (t := aboutT u) (by omega) fun p hp => by have := va.len4 p hp; omega)
  rw [cartsT_about] at hC2
  have hkk := eqK_same true true true (cartsT u)
  -- the row
  obtain ⟨rr, er⟩ := flatR_runs vu
  have nr := flatR_ne vu nu
  have lr' := flatR_len vu
  have tr' : AllT (flatR u) := fun s hs => by
    obtain ⟨p, hp, h⟩ := flatR_mem hs
    exact au p hp s h
  have kr : ∀ s ∈ flatR u, s.ok := fun s hs => by
    obtain ⟨p, hp, h⟩ := flatR_mem hs
    obtain ⟨b, v⟩ := TrV_mem vu hp
    exact (v.st s h).ok
  have hrow : ∀ (g a3 a6 a7 : PV) , OK (sfor (ilst (rd 4)) (stTup 2 (stCons (stN 6) (stCons (stN 7) stNil))) (sasg (bin gAddA (rd 5) (rd 7)) (stN 5)) [s0, g, t, a3, .lst true (u.map partP), .lst true [], a6, a7, a8, a9, a10]) fun fl => ∃ b6 b7, fl = .nx [s0, g, t, a3, .lst false (u.map partP), .lst true ((flatR u).map stepP), b6, b7, a8, a9, a10] := by
    intro g a3 a6 a7
    refine OK_forM (P := partP) (xs := u) (τ1 := [s0, g, t, a3, .lst false (u.map partP), .lst true [], a6, a7, a8, a9, a10]) (fun ds τ => ∃ b6 b7, τ = [s0, g, t, a3, .lst false (u.map partP), .lst true ((flatR ds).map stepP), b6, b7, a8, a9, a10])
      (by push_cast [ilst] <;> rfl) ⟨a6, a7, rfl⟩ ?_ ?_
    · rintro ds p rest τ ex ⟨b6, b7, rfl⟩
      have hp : p ∈ u := by rw [ex]; simp
      have h4 := l4 p hp
      have lt := congrArg List.length ex
      rw [List.length_append, List.length_cons] at lt
      have ef : flatR (ds ++ [p]) = flatR ds ++ p.2 := by unfold flatR; rw [List.flatMap_append]; simp
      have hv : TrV a ds := by rw [ex] at vu; exact (TrV_app.mp vu).1
      have lf := flatR_len hv
      have hfit : fits (((flatR ds).map stepP).length + (p.2.map stepP).length) = true := fits_of (by rw [List.length_map, List.length_map]; omega)
      refine ⟨[s0, g, t, a3, .lst false (u.map partP), .lst true ((flatR ds).map stepP), .int p.1, .lst false (p.2.map stepP), a8, a9, a10], rfl, ?_⟩
      refine OK_asg (p := .lst true ((flatR ds).map stepP ++ p.2.map stepP)) (by push_cast [hfit] <;> rfl) (by (push_cast <;> rfl)) ⟨.int p.1, .lst false (p.2.map stepP), ?_⟩
      rw [ef, List.map_append]
    · rintro τ ⟨b6, b7, rfl⟩
      exact ⟨b6, b7, rfl⟩
  generalize flatR u = row at rr er nr lr' tr' kr hrow
  have hB := nrow_about_ok (o := false) tr' (by omega)
  have hB2 := nrow_about_ok (o := false) (allT_about tr') (by rw [aboutR_len]; omega)
  rw [aboutR_aboutR] at hB2
  obtain ⟨ra, ea2⟩ := runs_about rr
  have hR := ends_of_row (o := false) rr nr
  have hR2 := ends_of_row (o := false) ra (aboutR_ne nr)
  rw [er] at hR hR2 ra ea2
  rw [ea2] at hR2
  have hnr := ne_rows (o := true) (o' := false) kr
  obtain ⟨_, hI, rfl⟩ := OK_ex (carts_in_ok (o := false) (ss := row) (by omega))
  obtain ⟨_, hI2, rfl⟩ := OK_ex (carts_in_ok (o := false) (ss := aboutR row) (by rw [aboutR_len]; omega))
  rw [tally_perm (aboutR_carts row)] at hI2
  have hkk2 := eqK_same true true true (SE (tally (row.map ckOf)))
  have ka : ∀ s ∈ aboutR row, s.ok := fun s hs => by
    unfold aboutR at hs
    obtain ⟨s', hs', rfl⟩ := List.mem_map.mp hs
    exact kr s' (List.mem_reverse.mp hs')
  have hnra := ne_rows (o := true) (o' := true) ka
  -- more
  have hke := endT_kind ha vu
  obtain ⟨_, hM, ms, g5, rfl, hg5, m1, m2, m3, m4, m5⟩ := OK_ex (round_ok (o := false) (n := 3) hg4 hks (by omega) (by omega) hke (by omega) (by omega))
  have vm0 : TrV (endT a u) [((3 : Int), ms)] := ⟨⟨m2, show ms.length ≤ 4 by omega, m4, m1, show (1 : Int) ≤ 3 by omega, show (3 : Int) ≤ 100000000000000000000000000006 by omega, fun _ => m5⟩, trivial⟩
  have vm := vm0.free
  have am := free_allTT [((3 : Int), ms)]
  obtain ⟨_, hFm, rfl⟩ := OK_ex (freed_ok (o := false) (t := [((3 : Int), ms)]) (by simp) fun p hp => by have := vm0.len4 p hp; omega)
  have lm : ([((3 : Int), ms)].map freeP).length = 1 := rfl
  have nm : [((3 : Int), ms)].map freeP ≠ [] := fun z => by cases z
  have hFm : F_l_freed [.lst false [.tup [.int 3, .lst false (ms.map stepP)]]] = .ok (.lst true (([((3 : Int), ms)].map freeP).map partP), []) := hFm
  generalize [((3 : Int), ms)].map freeP = m at vm am lm nm hFm
  have vum : TrV a (u ++ m) := TrV_app.mpr ⟨vu, vm⟩
  have aum := allTT_app au am
  have hJ := joined_ok (o := false) (o' := false) vu vm nu nm rfl (by omega)
  obtain ⟨_, hA3, rfl⟩ := OK_ex (train_about_ok (o := false) aum (by rw [List.length_append]; omega) fun p hp => by have := vum.len4 p hp; omega)
  obtain ⟨_, hA4, rfl⟩ := OK_ex (train_about_ok (o := false) am (by omega) fun p hp => by have := vm.len4 p hp; omega)
  obtain ⟨vma, ema⟩ := vm.about am
  have hJ2 := joined_ok (o := false) (o' := false) vma va (aboutT_ne nm) (aboutT_ne nu) ema (by rw [aboutT_len, aboutT_len]; omega)
  obtain ⟨vuma, _⟩ := vum.about aum
  have num : u ++ m ≠ [] := fun z => nu (List.append_eq_nil_iff.mp z).1
  obtain ⟨_, hS2, g6, rfl, hg6⟩ := OK_ex (same_ok (o := false) (o' := false) hg5 (endT_kind ha vum) vuma (aboutT_ne num) (by rw [aboutT_len, List.length_append]; omega))
  rw [aboutT_app] at hA3 hS2
  obtain ⟨q0, rfl⟩ := hg.lst
  obtain ⟨q1, rfl⟩ := hg1.lst
  obtain ⟨q2, rfl⟩ := hg2.lst
  obtain ⟨q3, rfl⟩ := hg3.lst
  obtain ⟨q4, rfl⟩ := hg4.lst
  obtain ⟨q5, rfl⟩ := hg5.lst
  obtain ⟨q6, rfl⟩ := hg6.lst
  refine OK_seq (OK_asg (p := .lst true (ks.map .str)) (by (push_cast [hF1, hK] <;> rfl)) (by (push_cast <;> rfl)) (sq_nx ?_))
  refine OK_seq (OK_par (p := .lst true (u.map partP)) (q := .lst true []) (τ1 := [s0, .lst true q3, t, .lst false (ks.map .str), a4, a5, a6, a7, a8, a9, a10]) (by push_cast [hT, hFr] <;> rfl) (show 4 < 11 ∧ 5 < 11 by decide) (sq_nx ?_))
  refine OK_seq (OK_mono (hrow (.lst true q3) (.lst false (ks.map .str)) a6 a7) ?_)
  rintro _ ⟨b6, b7, rfl⟩
  refine sq_nx ?_
  refine OK_seq (OK_asg (p := .lst true ((aboutT u).map partO)) (by (push_cast [hA] <;> rfl)) (by (push_cast <;> rfl)) (sq_nx ?_))
  refine OK_seq (OK_if (b := false) (τ' := [s0, .lst true q4, t, .lst false (ks.map .str), .lst false (u.map partP), .lst true (row.map stepP), b6, b7, .lst false ((aboutT u).map partP), a9, a10]) ?_ (fun z => nomatch z) fun _ => OK_next (sq_nx ?_))
  · push_cast [hA2, hS, hE, hE2, revT, List.reverse_cons, List.reverse_nil, hne] <;> rfl
  refine OK_seq (OK_if (b := false) (τ' := [s0, .lst true q4, t, .lst false (ks.map .str), .lst false (u.map partP), .lst false (row.map stepP), b6, b7, .lst false ((aboutT u).map partP), a9, a10]) ?_ (fun z => nomatch z) fun _ => OK_next (sq_nx ?_))
  · push_cast [hC, hC2, hkk, hB, hB2, hnr] <;> rfl
  refine OK_seq (OK_if (b := false) (τ' := [s0, .lst true q4, t, .lst false (ks.map .str), .lst false (u.map partP), .lst false (row.map stepP), b6, b7, .lst false ((aboutT u).map partP), a9, a10]) ?_ (fun z => nomatch z) fun _ => OK_next (sq_nx ?_))
  · push_cast [hB, hR, hR2, er, revT, List.reverse_cons, List.reverse_nil, hne, hI, hI2, hkk2] <;> rfl
  obtain ⟨_, w1, v, rfl⟩ := lc_by (P := stepP) (gg := stN 9) (e := cal [false] F_n_about [] (vcons (cal [false] F_n_about [] (vcons (rd 9) vnil)) vnil)) (vs := [9]) (f := ilst (rd 5)) (xs := row)
    (τ := [s0, .lst true q4, t, .lst false (ks.map .str), .lst false (u.map partP), .lst false (row.map stepP), b6, b7, .lst false ((aboutT u).map partP), a9, a10]) (τ1 := [s0, .lst true q4, t, .lst false (ks.map .str), .lst false (u.map partP), .lst false (row.map stepP), b6, b7, .lst false ((aboutT u).map partP), a9, a10])
    (fun τ => ∃ v, τ = [s0, .lst true q4, t, .lst false (ks.map .str), .lst false (u.map partP), .lst false (row.map stepP), b6, b7, .lst false ((aboutT u).map partP), v, a10]) stepP
    (by push_cast [ilst] <;> rfl) (by omega) ⟨_, rfl⟩ fun s hs τ ⟨v, e⟩ => by
      subst e
      have h1 := nabout_eq (tr' s hs)
      have h2 := nabout_eq (s := flip s) (tr' s hs)
      rw [flip_flip] at h2
      exact ⟨[s0, .lst true q4, t, .lst false (ks.map .str), .lst false (u.map partP), .lst false (row.map stepP), b6, b7, .lst false ((aboutT u).map partP), stepP s, a10], [s0, .lst true q4, t, .lst false (ks.map .str), .lst false (u.map partP), .lst false (row.map stepP), b6, b7, .lst false ((aboutT u).map partP), stepP s, a10], rfl, by push_cast [h1, h2] <;> rfl, _, rfl⟩
  have er' : (row.map stepP).reverse = row.reverse.map stepP := List.map_reverse.symm
  obtain ⟨_, w2, v, rfl⟩ := lc_by (P := stepP) (gg := stN 9) (e := cal [false] F_n_about [] (vcons (rd 9) vnil)) (vs := [9]) (f := ilst (revL (rd 5))) (xs := row.reverse)
    (τ := [s0, .lst true q4, t, .lst false (ks.map .str), .lst false (u.map partP), .lst false (row.map stepP), b6, b7, .lst false ((aboutT u).map partP), .un, a10]) (τ1 := [s0, .lst true q4, t, .lst false (ks.map .str), .lst false (u.map partP), .lst false (row.map stepP), b6, b7, .lst false ((aboutT u).map partP), .un, a10])
    (fun τ => ∃ v, τ = [s0, .lst true q4, t, .lst false (ks.map .str), .lst false (u.map partP), .lst false (row.map stepP), b6, b7, .lst false ((aboutT u).map partP), v, a10]) (fun s => stepP (flip s))
    (by push_cast [ilst, revL, er'] <;> rfl) (by rw [List.length_reverse]; omega) ⟨_, rfl⟩ fun s hs τ ⟨v, e⟩ => by
      subst e
      have h1 := nabout_eq (tr' s (List.mem_reverse.mp hs))
      exact ⟨[s0, .lst true q4, t, .lst false (ks.map .str), .lst false (u.map partP), .lst false (row.map stepP), b6, b7, .lst false ((aboutT u).map partP), stepP s, a10], [s0, .lst true q4, t, .lst false (ks.map .str), .lst false (u.map partP), .lst false (row.map stepP), b6, b7, .lst false ((aboutT u).map partP), stepP s, a10], rfl, by push_cast [h1] <;> rfl, _, rfl⟩
  have ew : (row.reverse.map fun s => stepP (flip s)) = (aboutR row).map stepP := by unfold aboutR; rw [List.map_map]; rfl
  rw [ew] at w2
  refine OK_seq (OK_if (b := false) (τ' := [s0, .lst true q4, t, .lst false (ks.map .str), .lst false (u.map partP), .lst false (row.map stepP), b6, b7, .lst false ((aboutT u).map partP), .un, a10]) ?_ (fun z => nomatch z) fun _ => OK_next (sq_nx ?_))
  · push_cast [w1, w2, hnr, hB, hnra] <;> rfl
  refine OK_seq (OK_asg (p := .lst true (m.map partP)) (τ1 := [s0, .lst true q5, t, .lst false (ks.map .str), .lst false (u.map partP), .lst false (row.map stepP), b6, b7, .lst false ((aboutT u).map partP), .un, a10]) (by push_cast [hE, hM, hFm] <;> rfl) (by (push_cast <;> rfl)) (sq_nx ?_))
  refine OK_if (b := false) (τ' := [s0, .lst true q6, t, .lst false (ks.map .str), .lst false (u.map partP), .lst false (row.map stepP), b6, b7, .lst false ((aboutT u).map partP), .un, .lst false (m.map partP)]) ?_ (fun z => nomatch z) fun _ => OK_next ⟨_, _, _, _, _, _, _, _, _, hg6, rfl⟩
  push_cast [hJ, hA3, hA4, hJ2, hS2] <;> rfl
theorem law2_ok {g : PV} (hg : IsBag g) : OK (b_law2 [.un, g, .un, .un, .un, .un, .un, .un, .un, .un, .un]) fun fl => ∃ τ, fl = .rt (.bl true) τ := by
  obtain ⟨q0, rfl⟩ := hg.lst
  refine OK_seq (OK_for (xs := rng 0 6) (τ1 := [.un, .lst true q0, .un, .un, .un, .un, .un, .un, .un, .un, .un])
    (fun _ τ => ∃ g' a2 a3 a4 a5 a6 a7 a8 a9 a10, IsBag g' ∧ τ = [.un, g', a2, a3, a4, a5, a6, a7, a8, a9, a10])
    (irng1_ok (j := 6) (by (push_cast <;> rfl)) (by omega) (by omega)) ⟨_, _, _, _, _, _, _, _, _, _, hg, rfl⟩ ?_ ?_)
  · rintro done x rest τ ex ⟨g', a2, a3, a4, a5, a6, a7, a8, a9, a10, hg', rfl⟩
    refine ⟨[.un, g', x, a3, a4, a5, a6, a7, a8, a9, a10], by (push_cast <;> rfl), OK_mono (lawR_ok hg') ?_⟩
    rintro _ ⟨g2, b3, b4, b5, b6, b7, b8, b9, b10, hg2, rfl⟩
    exact ⟨_, _, _, _, _, _, _, _, _, _, hg2, rfl⟩
  · rintro τ ⟨g', a2, a3, a4, a5, a6, a7, a8, a9, a10, hg', rfl⟩
    exact sq_nx (OK_ret (p := .bl true) rfl ⟨_, rfl⟩)
end FL

namespace FL18
open PySem PySem.Spec PyProof.Rows L2 FL
def top (i : Nat) : Stmt := PySem.Challenge.pw_hookcarts_k18_whole_about_twice.main.body.getD i (.Pass ⟨0, 0, 0, 0⟩)
structure TN (mg : Str → Option Value) : Prop where
  n_abs : mg "abs" = none
  n_all : mg "all" = none
  n_bool : mg "bool" = none
  n_dict : mg "dict" = none
  n_enumerate : mg "enumerate" = none
  n_int : mg "int" = none
  n_isinstance : mg "isinstance" = none
  n_len : mg "len" = none
  n_list : mg "list" = none
  n_max : mg "max" = none
  n_min : mg "min" = none
  n_range : mg "range" = none
  n_repr : mg "repr" = none
  n_sorted : mg "sorted" = none
  n_str : mg "str" = none
  n_sum : mg "sum" = none
  n_tuple : mg "tuple" = none
  n_zip : mg "zip" = none
end FL18

namespace FL18
open PySem PySem.Spec PyProof.Rows L2 FL
section
variable {P : Program} {w : World} {K : PySem.W.Frag} {mg : Str → Option Value} {base : Heap}
theorem ok_has_two_steps {f : Addr} {fd : FuncData} (F : Fun K "has_two_steps" "has_two_steps" (top 8) f fd) (T : TN mg) :
    HK.FnG P w K mg base CX0 1 f fd ["cart"] (spF P w 1 [false] F_has_two_steps) := by
  have sc : FnScope ["cart", "front", "back", "turns"] ["cart"] (defScope (top 8)) := ⟨rfl, rfl, rfl, by decide +kernel, rfl, by decide +kernel, by decide +kernel⟩
  refine okF (N := ["cart", "front", "back", "turns"]) (ps := ["cart"]) (b := b_has_two_steps) F sc (by decide) fun cdv A outer s H vs E hq hr => ?_
  have nd := sc.nd
  refine ⟨_,
      (pss_cons (ps_asg (pv 0) (pg_tup (by rfl) (pgs_cons (pg_name (i := 1) nd rfl (Or.inl rfl)) (pgs_cons (pg_name (i := 2) nd rfl (Or.inl rfl)) (pgs_cons (pg_name (i := 3) nd rfl (Or.inl rfl)) pgs_nil)))))
      (pss_one (ps_ret (pe_and (pv 3) (pe_one (pe_cmpR (show OpR _ _ (rNeA K) from op_neA hr.units) (pv 1) (pv 2) (nomark _))))))), fun B O => ?_⟩
  exact
      (ms_seq (ms_asg (te_rd 0) (mg_tup (mgs_cons mg_name (mgs_cons mg_name (mgs_cons mg_name mgs_nil)))))
      (ms_ret (te_and (te_rd 3) (te_op l_neR (te_rd 1) (te_rd 2)))))
theorem ok_carts_in {f : Addr} {fd : FuncData} (F : Fun K "carts_in" "carts_in" (top 16) f fd) (T : TN mg) :
    HK.FnG P w K mg base CX0 1 f fd ["row"] (spF P w 1 [false] F_carts_in) := by
  have sc : FnScope ["row", "found", "cart", "_"] ["row"] (defScope (top 16)) := ⟨rfl, rfl, rfl, by decide +kernel, rfl, by decide +kernel, by decide +kernel⟩
  refine okF (N := ["row", "found", "cart", "_"]) (ps := ["row"]) (b := b_carts_in) F sc (by decide) fun cdv A outer s H vs E hq hr => ?_
  have nd := sc.nd
  refine ⟨_,
      (pss_cons (ps_set (i := 1) nd rfl (Or.inr rfl) pe_cnew)
      (pss_cons (ps_for PassesOwn.never rfl (pi_list (pv 0)) (pg_tup (by rfl) (pgs_cons (pg_name (i := 2) nd rfl (Or.inl rfl)) (pgs_cons (pg_name (i := 3) nd rfl (Or.inl rfl)) pgs_nil)))
        (pss_one (ps_asg (pe_op (opR_or op_add (opR_or op_add_str op_cat)) (pe_cget2 hr.units (pv 1) (pv 2) pe_int ⟨by rfl, by rfl, by rfl, by rfl⟩) pe_int) (pg_sub (pv 1) (pv 2) (set_cart hr.units)))))
      (pss_one (ps_ret (pe_dcC (own := [("cart", 2)]) (g := gName 2) (tt := tYes) hr.units rfl nd (pi_list (pe_callB (cr_sortedK rfl hr.units) (by rfl) T.n_sorted (by decide +kernel) (pa_cons (pv 1) pa_nil))) (blkOk_by (N := ["row", "found", "cart", "_"]) (sc := defScope (top 16)) (by decide +kernel)) (fun _ _ _ _ _ => (pg_name (i := 2) nd rfl (Or.inl rfl))) (fun _ _ _ _ _ => pts_nil) (fun _ _ _ _ _ => (pv 2)) (fun _ _ _ _ _ => (show PE _ _ (tCGet P w _ _) from pe_cget hr.units (pv 1) (pv 2) (fun _ _ => rfl)))))))), fun B O => ?_⟩
  exact
      (ms_seq (ms_asg te_dnew mg_name)
      (ms_seq (ms_for (mi_list (te_rd 0)) (mg_tup (mgs_cons mg_name (mgs_cons mg_name mgs_nil)))
         (ms_asg (te_op l_addA (te_dg2 1 (te_rd 2) te_c) te_c) (mg_sub ls_dict 1 (te_rd 2))))
      (ms_ret (te_dc (mi_list (te_cbB l_sortedD 1)) mg_name gw_name gm_name mt_yes (te_rd 2) (te_opB l_dgetB 1 (te_rd 2)) (np1 rfl)))))
theorem ok_length {f : Addr} {fd : FuncData} (F : Fun K "length" "length" (top 23) f fd) (T : TN mg) :
    HK.FnG P w K mg base CX0 1 f fd ["train"] (spF P w 1 [false] F_length) := by
  have sc : FnScope ["train", "many", "row"] ["train"] (defScope (top 23)) := ⟨rfl, rfl, rfl, by decide +kernel, rfl, by decide +kernel, by decide +kernel⟩
  refine okF (N := ["train", "many", "row"]) (ps := ["train"]) (b := b_length) F sc (by decide) fun cdv A outer s H vs E hq hr => ?_
  have nd := sc.nd
  refine ⟨_,
      (pss_one (ps_ret (pe_callB (cr_sum rfl) (by rfl) T.n_sum (by decide +kernel) (pa_cons (pe_lc (own := [("many", 1), ("row", 2)]) (g := (gTup K 2 (gCons (gName 1) (gCons (gName 2) gNil)))) (tt := tYes) rfl nd (pi_list (pv 0)) (blkOk_by (N := ["train", "many", "row"]) (sc := defScope (top 23)) (by decide +kernel)) (fun _ _ _ _ _ => (pg_tup (by rfl) (pgs_cons (pg_name (i := 1) nd rfl (Or.inl rfl)) (pgs_cons (pg_name (i := 2) nd rfl (Or.inl rfl)) pgs_nil)))) (fun _ _ _ _ _ => pts_nil) (fun _ _ _ _ _ => (pe_op (opR_or op_mul op_rep) (pv 1) (pe_callB (show CallR _ _ (rLenA K P w) from cr_lenA) (by rfl) T.n_len (by decide +kernel) (pa_cons (pv 2) pa_nil))))) pa_nil)))), fun B O => ?_⟩
  exact
      (ms_ret (te_cb l_sum (ma_cons (te_lc (mi_list (te_rd 0)) (mg_tup (mgs_cons mg_name (mgs_cons mg_name mgs_nil))) (gw_tup (gw_cons gw_name gm_name (gw_cons gw_name gm_name gw_nil))) (gm_tup (gm_cons gm_name (gm_cons gm_name gm_nil))) mt_yes (te_op l_mulA (te_rd 1) (te_cbB l_lenR 2)) (np2 rfl rfl)) ma_nil)))
theorem ok_l_take {f : Addr} {fd : FuncData} (F : Fun K "_law_take" "_law_take" (top 30) f fd) (T : TN mg) :
    HK.FnG P w K mg base CX0 1 f fd ["_law_bag_here", "_law_many"] (spF P w 2 [true, false] F_l_take) := by
  have sc : FnScope ["_law_bag_here", "_law_many", "_law_cell", "_law_mixed", "_law_drawn", "_law_early", "_law_second"] ["_law_bag_here", "_law_many"] (defScope (top 30)) := ⟨rfl, rfl, rfl, by decide +kernel, rfl, by decide +kernel, by decide +kernel⟩
  refine okF (N := ["_law_bag_here", "_law_many", "_law_cell", "_law_mixed", "_law_drawn", "_law_early", "_law_second"]) (ps := ["_law_bag_here", "_law_many"]) (b := b_l_take) F sc (by decide) fun cdv A outer s H vs E hq hr => ?_
  have nd := sc.nd
  refine ⟨_,
      (pss_cons (ps_if (pt_cmpR (show OpR _ _ (rEqA K) from op_eqA hr.units) (pe_ix (show IxR _ (rIx K) from ix_seq) (pv 0) pe_int (fun _ _ => rfl)) pe_int (nomark _))
        (pss_cons (ps_set (i := 2) nd rfl (Or.inl rfl) pe_int)
        (pss_cons (ps_if (pt_cmpR (opR_or op_lt op_lt_str) (pe_ix (show IxR _ (rIx K) from ix_seq) (pv 0) pe_int (fun _ _ => rfl)) (pe_callB (show CallR _ _ (rLenA K P w) from cr_lenA) (by rfl) T.n_len (by decide +kernel) (pa_cons (pe_ix (show IxR _ (rIx K) from ix_seq) (pv 0) pe_int (fun _ _ => rfl)) pa_nil)) (nomark _))
          (pss_one (ps_set (i := 2) nd rfl (Or.inl rfl) (pe_ix (show IxR _ (rIx K) from ix_seq) (pe_ix (show IxR _ (rIx K) from ix_seq) (pv 0) pe_int (fun _ _ => rfl)) (pe_ix (show IxR _ (rIx K) from ix_seq) (pv 0) pe_int (fun _ _ => rfl)) (fun _ _ => rfl))))
           pss_nil)
        (pss_cons (ps_augS (pv 0) pe_int HK.get_list pe_int ip_add set_list)
        (pss_cons (ps_if (pt_cmpR op_ge (pv 2) pe_int (nomark _))
          (pss_one (ps_asg (pv 2) (pg_sub (pv 0) pe_int set_list)))
           pss_nil)
        (pss_cons (ps_set (i := 3) nd rfl (Or.inl rfl) (pe_op (opR_or op_add (opR_or op_add_str op_cat)) (pe_op (opR_or op_add (opR_or op_add_str op_cat)) (pe_op (opR_or op_mul op_rep) (pe_ix (show IxR _ (rIx K) from ix_seq) (pv 0) pe_int (fun _ _ => rfl)) pe_int) (pe_op op_modN (pe_callTy call_int1 (by rfl) T.n_int (by decide +kernel) (pa_cons (pv 2) pa_nil)) pe_int)) (pe_op (opR_or op_mul op_rep) pe_int (pe_ix (show IxR _ (rIx K) from ix_seq) (pv 0) pe_int (fun _ _ => rfl)))))
        (pss_one (ps_asg (pe_op op_modN (pe_callTy call_int1 (by rfl) T.n_int (by decide +kernel) (pa_cons (pv 3) pa_nil)) pe_int) (pg_sub (pv 0) pe_int set_list))))))))
         pss_nil)
      (pss_cons (ps_if (pt_cmpR (opR_or op_gt op_gt_str) (pe_ix (show IxR _ (rIx K) from ix_seq) (pv 0) pe_int (fun _ _ => rfl)) pe_int (nomark _))
        (pss_cons (ps_set (i := 4) nd rfl (Or.inl rfl) (pe_op op_modN (pe_callTy call_int1 (by rfl) T.n_int (by decide +kernel) (pa_cons (pe_ix (show IxR _ (rIx K) from ix_seq) (pv 0) pe_int (fun _ _ => rfl)) pa_nil)) (pv 1)))
        (pss_cons (ps_asg (pe_op op_fdivB (pe_ix (show IxR _ (rIx K) from ix_seq) (pv 0) pe_int (fun _ _ => rfl)) (pv 1)) (pg_sub (pv 0) pe_int set_list))
        (pss_one (ps_ret (pv 4)))))
         pss_nil)
      (pss_cons (ps_set (i := 5) nd rfl (Or.inl rfl) (pe_op op_modN (pe_callTy call_int1 (by rfl) T.n_int (by decide +kernel) (pa_cons (pe_op (opR_or op_mul op_rep) (pe_op (opR_or op_add (opR_or op_add_str op_cat)) (pe_ix (show IxR _ (rIx K) from ix_seq) (pv 0) pe_int (fun _ _ => rfl)) pe_int) pe_int) pa_nil)) pe_int))
      (pss_cons (ps_set (i := 6) nd rfl (Or.inl rfl) (pe_op op_modN (pe_callTy call_int1 (by rfl) T.n_int (by decide +kernel) (pa_cons (pe_op (opR_or op_mul op_rep) (pe_op op_modN (pe_callTy call_int1 (by rfl) T.n_int (by decide +kernel) (pa_cons (pe_op (opR_or op_mul op_rep) (pv 5) (pv 5)) pa_nil)) pe_int) pe_int) pa_nil)) pe_int))
      (pss_one (ps_ret (pe_op op_modN (pe_callTy call_int1 (by rfl) T.n_int (by decide +kernel) (pa_cons (pe_op op_fdivB (pv 6) pe_int) pa_nil)) (pv 1)))))))), fun B O => ?_⟩
  exact
      (ms_seq (ms_if (mt_test (te_op l_eqR (te_opB l_ixb 0 te_c) te_c))
         (ms_seq (ms_asg te_c mg_name)
        (ms_seq (ms_if (mt_test (te_op l_ltA (te_opB l_ixb 0 te_c) (te_cb (L1b.lc l_lenR) (ma_cons (te_opB l_ixb 0 te_c) ma_nil))))
           (ms_asg (te_op l_ix (te_opB l_ixb 0 te_c) (te_opB l_ixb 0 te_c)) mg_name)
           ms_next)
        (ms_seq (ms_aug 0 te_c te_c)
        (ms_seq (ms_if (mt_test (te_op l_ge (te_rd 2) te_c))
           (ms_asg (te_rd 2) (mg_sub ls_list 0 te_c))
           ms_next)
        (ms_seq (ms_asg (te_op l_addA (te_op l_addA (te_op l_mulA (te_opB l_ixb 0 te_c) te_c) (te_op l_mod (te_cb l_int1 (ma_cons (te_rd 2) ma_nil)) te_c)) (te_op l_mulA te_c (te_opB l_ixb 0 te_c))) mg_name)
        (ms_asg (te_op l_mod (te_cb l_int1 (ma_cons (te_rd 3) ma_nil)) te_c) (mg_sub ls_list 0 te_c)))))))
         ms_next)
      (ms_seq (ms_if (mt_test (te_op l_gtA (te_opB l_ixb 0 te_c) te_c))
         (ms_seq (ms_asg (te_op l_mod (te_cb l_int1 (ma_cons (te_opB l_ixb 0 te_c) ma_nil)) (te_rd 1)) mg_name)
        (ms_seq (ms_asg (te_op l_div (te_opB l_ixb 0 te_c) (te_rd 1)) (mg_sub ls_list 0 te_c))
        (ms_ret (te_mv 4))))
         ms_next)
      (ms_seq (ms_asg (te_op l_mod (te_cb l_int1 (ma_cons (te_op l_mulA (te_op l_addA (te_opB l_ixb 0 te_c) te_c) te_c) ma_nil)) te_c) mg_name)
      (ms_seq (ms_asg (te_op l_mod (te_cb l_int1 (ma_cons (te_op l_mulA (te_op l_mod (te_cb l_int1 (ma_cons (te_op l_mulA (te_rd 5) (te_rd 5)) ma_nil)) te_c) te_c) ma_nil)) te_c) mg_name)
      (ms_ret (te_op l_mod (te_cb l_int1 (ma_cons (te_op l_div (te_rd 6) te_c) ma_nil)) (te_rd 1)))))))
theorem ok_l_step_on {f : Addr} {fd : FuncData} (F : Fun K "_law_step_on" "_law_step_on" (top 36) f fd) (T : TN mg)
    {f30 : Addr} {d30 : FuncData} (D30 : D1 K mg "_law_take" (top 30) ["_law_bag_here", "_law_many"] f30 d30) (G30 : HK.FnG P w K mg base CX0 1 f30 d30 ["_law_bag_here", "_law_many"] (spF P w 2 [true, false] F_l_take)) :
    HK.FnG P w K mg base CX0 2 f fd ["_law_bag_here", "_law_here", "_law_there"] (spF P w 3 [true, false, false] F_l_step_on) := by
  have sc : FnScope ["_law_bag_here", "_law_here", "_law_there"] ["_law_bag_here", "_law_here", "_law_there"] (defScope (top 36)) := ⟨rfl, rfl, rfl, by decide +kernel, rfl, by decide +kernel, by decide +kernel⟩
  refine okF (N := ["_law_bag_here", "_law_here", "_law_there"]) (ps := ["_law_bag_here", "_law_here", "_law_there"]) (b := b_l_step_on) F sc (by decide) fun cdv A outer s H vs E hq hr => ?_
  have nd := sc.nd
  refine ⟨_,
      (pss_cons (ps_if (pt_cmpR (show OpR _ _ (rEqA K) from op_eqA hr.units) (HK.pe_callG (E := E0) G30 hq (hr.mono (by decide)) rfl D30.g D30.F.kp D30.b pass0 (pa_cons (pv 0) (pa_cons pe_int pa_nil))) pe_int (nomark _))
        (pss_one (ps_ret (pe_tup (pa_cons (pe_tup (pa_cons (pv 1) (pa_cons (pv 2) (pa_cons pe_bl pa_nil)))) (pa_cons pe_bl pa_nil)))))
         pss_nil)
      (pss_one (ps_ret (pe_tup (pa_cons (pe_tup (pa_cons (pe_callB (callR_or (call_min2 rfl) (HK.call_minS rfl)) (by rfl) T.n_min (by decide +kernel) (pa_cons (pv 1) (pa_cons (pv 2) pa_nil))) (pa_cons (pe_callB (callR_or (call_max2 rfl) (HK.call_maxS rfl)) (by rfl) T.n_max (by decide +kernel) (pa_cons (pv 1) (pa_cons (pv 2) pa_nil))) (pa_cons pe_bl pa_nil)))) (pa_cons (pe_cmpR (opR_or op_lt op_lt_str) (pv 2) (pv 1) (nomark _)) pa_nil)))))), fun B O => ?_⟩
  exact
      (ms_seq (ms_if (mt_test (te_op l_eqR (te_call (mx_io 0 (mx_val te_c mx_nil))) te_c))
         (ms_ret (te_tup (ma_cons (te_tup (ma_cons (te_rd 1) (ma_cons (te_rd 2) (ma_cons te_c ma_nil)))) (ma_cons te_c ma_nil))))
         ms_next)
      (ms_ret (te_tup (ma_cons (te_tup (ma_cons (te_cb l_minA (ma_cons (te_rd 1) (ma_cons (te_rd 2) ma_nil))) (ma_cons (te_cb l_maxA (ma_cons (te_rd 1) (ma_cons (te_rd 2) ma_nil))) (ma_cons te_c ma_nil)))) (ma_cons (te_op l_ltA (te_rd 2) (te_rd 1)) ma_nil)))))
theorem ok_law {f : Addr} {fd : FuncData} (F : Fun K "law" "law" (top 42) f fd) (T : TN mg)
    {f29 : Addr} {d29 : FuncData} (D29 : D1 K mg "_law_bag" (top 29) ["_law_script"] f29 d29) (G29 : HK.FnG P w K mg base CX0 1 f29 d29 ["_law_script"] (spF P w 1 [false] F_l_bag))
    {f32 : Addr} {d32 : FuncData} (D32 : D1 K mg "_law_kinds" (top 32) ["_law_bag_here", "_law_many"] f32 d32) (G32 : HK.FnG P w K mg base CX0 2 f32 d32 ["_law_bag_here", "_law_many"] (spF P w 2 [true, false] F_l_kinds))
    {f30 : Addr} {d30 : FuncData} (D30 : D1 K mg "_law_take" (top 30) ["_law_bag_here", "_law_many"] f30 d30) (G30 : HK.FnG P w K mg base CX0 1 f30 d30 ["_law_bag_here", "_law_many"] (spF P w 2 [true, false] F_l_take))
    {f40 : Addr} {d40 : FuncData} (D40 : D1 K mg "_law_freed" (top 40) ["_law_train_here"] f40 d40) (G40 : HK.FnG P w K mg base CX0 2 f40 d40 ["_law_train_here"] (spF P w 1 [false] F_l_freed))
    {f39 : Addr} {d39 : FuncData} (D39 : D1 K mg "_law_train" (top 39) ["_law_bag_here", "_law_kinds_here", "_law_upto"] f39 d39) (G39 : HK.FnG P w K mg base CX0 5 f39 d39 ["_law_bag_here", "_law_kinds_here", "_law_upto"] (spF P w 3 [true, false, false] F_l_train))
    {f27 : Addr} {d27 : FuncData} (D27 : D1 K mg "train_about" (top 27) ["train"] f27 d27) (G27 : HK.FnG P w K mg base CX0 4 f27 d27 ["train"] (spF P w 1 [false] F_train_about))
    {f21 : Addr} {d21 : FuncData} (D21 : D1 K mg "train_ends" (top 21) ["train"] f21 d21) (G21 : HK.FnG P w K mg base CX0 3 f21 d21 ["train"] (spF P w 1 [false] F_train_ends))
    {f41 : Addr} {d41 : FuncData} (D41 : D1 K mg "_law_same" (top 41) ["_law_bag_here", "_law_one_here", "_law_other"] f41 d41) (G41 : HK.FnG P w K mg base CX0 5 f41 d41 ["_law_bag_here", "_law_one_here", "_law_other"] (spF P w 3 [true, false, false] F_l_same))
    {f18 : Addr} {d18 : FuncData} (D18 : D1 K mg "row_about" (top 18) ["row"] f18 d18) (G18 : HK.FnG P w K mg base CX0 3 f18 d18 ["row"] (spF P w 1 [false] F_n_row_about))
    {f22 : Addr} {d22 : FuncData} (D22 : D1 K mg "carts_of" (top 22) ["train"] f22 d22) (G22 : HK.FnG P w K mg base CX0 2 f22 d22 ["train"] (spF P w 1 [false] F_carts_of))
    {f16 : Addr} {d16 : FuncData} (D16 : D1 K mg "carts_in" (top 16) ["row"] f16 d16) (G16 : HK.FnG P w K mg base CX0 1 f16 d16 ["row"] (spF P w 1 [false] F_carts_in))
    {f15 : Addr} {d15 : FuncData} (D15 : D1 K mg "row_ends" (top 15) ["row"] f15 d15) (G15 : HK.FnG P w K mg base CX0 2 f15 d15 ["row"] (spF P w 1 [false] F_row_ends))
    {f12 : Addr} {d12 : FuncData} (D12 : D1 K mg "about" (top 12) ["step"] f12 d12) (G12 : HK.FnG P w K mg base CX0 2 f12 d12 ["step"] (spF P w 1 [false] F_n_about))
    {f38 : Addr} {d38 : FuncData} (D38 : D1 K mg "_law_round" (top 38) ["_law_bag_here", "_law_kinds_here", "_law_here", "_law_upto"] f38 d38) (G38 : HK.FnG P w K mg base CX0 4 f38 d38 ["_law_bag_here", "_law_kinds_here", "_law_here", "_law_upto"] (spF P w 4 [true, false, false, false] F_l_round))
    {f26 : Addr} {d26 : FuncData} (D26 : D1 K mg "joined" (top 26) ["one", "other"] f26 d26) (G26 : HK.FnG P w K mg base CX0 4 f26 d26 ["one", "other"] (spF P w 2 [false, false] F_joined)) :
    HK.FnG P w K mg base CX0 6 f fd ["_law_script"] (spF P w 1 [false] F_law) := by
  have sc : FnScope ["_law_script", "_law_bag_here", "_law_turn", "_law_kinds_here", "_law_train_here", "_law_row", "_law_many", "_law_some", "_law_far", "_law_step", "_law_more"] ["_law_script"] (defScope (top 42)) := ⟨rfl, rfl, rfl, by decide +kernel, rfl, by decide +kernel, by decide +kernel⟩
  refine okF (N := ["_law_script", "_law_bag_here", "_law_turn", "_law_kinds_here", "_law_train_here", "_law_row", "_law_many", "_law_some", "_law_far", "_law_step", "_law_more"]) (ps := ["_law_script"]) (b := b_law) F sc (by decide) fun cdv A outer s H vs E hq hr => ?_
  have nd := sc.nd
  refine ⟨_,
      (pss_cons (ps_set (i := 1) nd rfl (Or.inl rfl) (HK.pe_callG (E := E0) G29 hq (hr.mono (by decide)) rfl D29.g D29.F.kp D29.b pass0 (pa_cons (pv 0) pa_nil)))
      (pss_cons (ps_for PassesOwn.never rfl (pi_range1 (by rfl) T.n_range (pa_cons pe_int pa_nil)) (pg_name (i := 2) nd rfl (Or.inl rfl))
        (pss_cons (ps_set (i := 3) nd rfl (Or.inl rfl) (HK.pe_callG (E := E0) G32 hq (hr.mono (by decide)) rfl D32.g D32.F.kp D32.b pass0 (pa_cons (pv 1) (pa_cons (pe_op (opR_or op_add (opR_or op_add_str op_cat)) pe_int (HK.pe_callG (E := E0) G30 hq (hr.mono (by decide)) rfl D30.g D30.F.kp D30.b pass0 (pa_cons (pv 1) (pa_cons pe_int pa_nil)))) pa_nil))))
        (pss_cons (ps_par (i := 4) (j := 5) (by rfl) nd rfl rfl (by decide) rfl rfl (pa_cons (HK.pe_callG (E := E0) G40 hq (hr.mono (by decide)) rfl D40.g D40.F.kp D40.b pass0 (pa_cons (HK.pe_callG (E := E0) G39 hq (hr.mono (by decide)) rfl D39.g D39.F.kp D39.b pass0 (pa_cons (pv 1) (pa_cons (pv 3) (pa_cons pe_int pa_nil)))) pa_nil)) (pa_cons (pe_lst pa_nil) pa_nil)) (by rfl))
        (pss_cons (ps_for PassesOwn.never rfl (pi_list (pv 4)) (pg_tup (by rfl) (pgs_cons (pg_name (i := 6) nd rfl (Or.inl rfl)) (pgs_cons (pg_name (i := 7) nd rfl (Or.inl rfl)) pgs_nil)))
          (pss_one (ps_set (i := 5) nd rfl (Or.inl rfl) (pe_op (opR_or op_add (opR_or op_add_str op_cat)) (pv 5) (pv 7)))))
        (pss_cons (ps_set (i := 8) nd rfl (Or.inl rfl) (HK.pe_callG (E := E0) G27 hq (hr.mono (by decide)) rfl D27.g D27.F.kp D27.b pass0 (pa_cons (pv 4) pa_nil)))
        (pss_cons (ps_if (PW.pt (pw_or (pt_not (pt_val (HK.pe_callG (E := E0) G41 hq (hr.mono (by decide)) rfl D41.g D41.F.kp D41.b pass0 (pa_cons (pv 1) (pa_cons (HK.pe_callG (E := E0) G27 hq (hr.mono (by decide)) rfl D27.g D27.F.kp D27.b pass0 (pa_cons (pv 8) pa_nil)) (pa_cons (pv 4) pa_nil)))))) (pw_or1 (pt_cmpR (show OpR _ _ (rNeA K) from op_neA hr.units) (HK.pe_callG (E := E0) G21 hq (hr.mono (by decide)) rfl D21.g D21.F.kp D21.b pass0 (pa_cons (pv 8) pa_nil)) (pe_revT (HK.pe_callG (E := E0) G21 hq (hr.mono (by decide)) rfl D21.g D21.F.kp D21.b pass0 (pa_cons (pv 4) pa_nil))) (nomark _)))))
          (pss_one (ps_ret pe_bl))
           pss_nil)
        (pss_cons (ps_if (PW.pt (pw_or (pt_cmpR (show OpR _ _ (rKEq P w true) from op_neK hr.units) (HK.pe_callG (E := E0) G22 hq (hr.mono (by decide)) rfl D22.g D22.F.kp D22.b pass0 (pa_cons (pv 8) pa_nil)) (HK.pe_callG (E := E0) G22 hq (hr.mono (by decide)) rfl D22.g D22.F.kp D22.b pass0 (pa_cons (pv 4) pa_nil)) (nomark _)) (pw_or1 (pt_cmpR (show OpR _ _ (rNeA K) from op_neA hr.units) (HK.pe_callG (E := E0) G18 hq (hr.mono (by decide)) rfl D18.g D18.F.kp D18.b pass0 (pa_cons (HK.pe_callG (E := E0) G18 hq (hr.mono (by decide)) rfl D18.g D18.F.kp D18.b pass0 (pa_cons (pv 5) pa_nil)) pa_nil)) (pv 5) (nomark _)))))
          (pss_one (ps_ret pe_bl))
           pss_nil)
        (pss_cons (ps_if (PW.pt (pw_or (pt_cmpR (show OpR _ _ (rNeA K) from op_neA hr.units) (HK.pe_callG (E := E0) G15 hq (hr.mono (by decide)) rfl D15.g D15.F.kp D15.b pass0 (pa_cons (HK.pe_callG (E := E0) G18 hq (hr.mono (by decide)) rfl D18.g D18.F.kp D18.b pass0 (pa_cons (pv 5) pa_nil)) pa_nil)) (pe_revT (HK.pe_callG (E := E0) G15 hq (hr.mono (by decide)) rfl D15.g D15.F.kp D15.b pass0 (pa_cons (pv 5) pa_nil))) (nomark _)) (pw_or1 (pt_cmpR (show OpR _ _ (rKEq P w true) from op_neK hr.units) (HK.pe_callG (E := E0) G16 hq (hr.mono (by decide)) rfl D16.g D16.F.kp D16.b pass0 (pa_cons (HK.pe_callG (E := E0) G18 hq (hr.mono (by decide)) rfl D18.g D18.F.kp D18.b pass0 (pa_cons (pv 5) pa_nil)) pa_nil)) (HK.pe_callG (E := E0) G16 hq (hr.mono (by decide)) rfl D16.g D16.F.kp D16.b pass0 (pa_cons (pv 5) pa_nil)) (nomark _)))))
          (pss_one (ps_ret pe_bl))
           pss_nil)
        (pss_cons (ps_if (PW.pt (pw_or (pt_cmpR (show OpR _ _ (rNeA K) from op_neA hr.units) (pe_lc (own := [("_law_step", 9)]) (g := (gName 9)) (tt := tYes) rfl nd (pi_list (pv 5)) (blkOk_by (N := ["_law_script", "_law_bag_here", "_law_turn", "_law_kinds_here", "_law_train_here", "_law_row", "_law_many", "_law_some", "_law_far", "_law_step", "_law_more"]) (sc := defScope (top 42)) (by decide +kernel)) (fun _ _ _ _ _ => (pg_name (i := 9) nd rfl (Or.inl rfl))) (fun _ _ _ _ _ => pts_nil) (fun _ _ _ _ _ => (HK.pe_callG (E := E0) G12 hq (hr.mono (by decide)) rfl D12.g D12.F.kp D12.b pass0 (pa_cons (HK.pe_callG (E := E0) G12 hq (hr.mono (by decide)) rfl D12.g D12.F.kp D12.b pass0 (pa_cons (pv 9) pa_nil)) pa_nil)))) (pv 5) (nomark _)) (pw_or1 (pt_cmpR (show OpR _ _ (rNeA K) from op_neA hr.units) (HK.pe_callG (E := E0) G18 hq (hr.mono (by decide)) rfl D18.g D18.F.kp D18.b pass0 (pa_cons (pv 5) pa_nil)) (pe_lc (own := [("_law_step", 9)]) (g := (gName 9)) (tt := tYes) rfl nd (pi_list (pe_revL (pv 5))) (blkOk_by (N := ["_law_script", "_law_bag_here", "_law_turn", "_law_kinds_here", "_law_train_here", "_law_row", "_law_many", "_law_some", "_law_far", "_law_step", "_law_more"]) (sc := defScope (top 42)) (by decide +kernel)) (fun _ _ _ _ _ => (pg_name (i := 9) nd rfl (Or.inl rfl))) (fun _ _ _ _ _ => pts_nil) (fun _ _ _ _ _ => (HK.pe_callG (E := E0) G12 hq (hr.mono (by decide)) rfl D12.g D12.F.kp D12.b pass0 (pa_cons (pv 9) pa_nil)))) (nomark _)))))
          (pss_one (ps_ret pe_bl))
           pss_nil)
        (pss_cons (ps_set (i := 10) nd rfl (Or.inl rfl) (HK.pe_callG (E := E0) G40 hq (hr.mono (by decide)) rfl D40.g D40.F.kp D40.b pass0 (pa_cons (pe_lst (pa_cons (pe_tup (pa_cons pe_int (pa_cons (HK.pe_callG (E := E0) G38 hq (hr.mono (by decide)) rfl D38.g D38.F.kp D38.b pass0 (pa_cons (pv 1) (pa_cons (pv 3) (pa_cons (pe_ix (show IxR _ (rIx K) from ix_seq) (HK.pe_callG (E := E0) G21 hq (hr.mono (by decide)) rfl D21.g D21.F.kp D21.b pass0 (pa_cons (pv 4) pa_nil)) pe_int (fun _ _ => rfl)) (pa_cons pe_int pa_nil))))) pa_nil))) pa_nil)) pa_nil)))
        (pss_one (ps_if (pt_not (pt_val (HK.pe_callG (E := E0) G41 hq (hr.mono (by decide)) rfl D41.g D41.F.kp D41.b pass0 (pa_cons (pv 1) (pa_cons (HK.pe_callG (E := E0) G27 hq (hr.mono (by decide)) rfl D27.g D27.F.kp D27.b pass0 (pa_cons (HK.pe_callG (E := E0) G26 hq (hr.mono (by decide)) rfl D26.g D26.F.kp D26.b pass0 (pa_cons (pv 4) (pa_cons (pv 10) pa_nil))) pa_nil)) (pa_cons (HK.pe_callG (E := E0) G26 hq (hr.mono (by decide)) rfl D26.g D26.F.kp D26.b pass0 (pa_cons (HK.pe_callG (E := E0) G27 hq (hr.mono (by decide)) rfl D27.g D27.F.kp D27.b pass0 (pa_cons (pv 10) pa_nil)) (pa_cons (pv 8) pa_nil))) pa_nil))))))
          (pss_one (ps_ret pe_bl))
           pss_nil))))))))))))
      (pss_one (ps_ret pe_bl)))), fun B O => ?_⟩
  exact
      (ms_seq (ms_asg (te_call (mx_val (te_rd 0) mx_nil)) mg_name)
      (ms_seq (ms_for (mi_rng1 (ma_cons te_c ma_nil)) mg_name
         (ms_seq (ms_asg (te_call (mx_io 1 (mx_val (te_op l_addA te_c (te_call (mx_io 1 (mx_val te_c mx_nil)))) mx_nil))) mg_name)
        (ms_seq (ms_par (ma_cons (te_call (mx_val (te_fz (te_call (mx_io 1 (mx_val (te_rd 3) (mx_val te_c mx_nil))))) mx_nil)) (ma_cons (te_lst ma_nil) ma_nil)))
        (ms_seq (ms_for (mi_list (te_rd 4)) (mg_tup (mgs_cons mg_name (mgs_cons mg_name mgs_nil)))
           (ms_asg (te_op l_addA (te_rd 5) (te_rd 7)) mg_name))
        (ms_seq (ms_asg (te_call (mx_val (te_rd 4) mx_nil)) mg_name)
        (ms_seq (ms_if (mt_or (mt_not (mt_val (te_call (mx_io 1 (mx_val (te_fz (te_call (mx_val (te_rd 8) mx_nil))) (mx_val (te_rd 4) mx_nil)))))) (mt_test (te_op l_neR (te_call (mx_val (te_rd 8) mx_nil)) (te_revT (te_call (mx_val (te_rd 4) mx_nil))))))
           (ms_ret te_c)
           ms_next)
        (ms_seq (ms_if (mt_or (mt_test (te_op l_eqK (te_call (mx_val (te_rd 8) mx_nil)) (te_call (mx_val (te_rd 4) mx_nil)))) (mt_test (te_op l_neR (te_call (mx_val (te_fz (te_call (mx_val (te_rd 5) mx_nil))) mx_nil)) (te_rd 5))))
           (ms_ret te_c)
           ms_next)
        (ms_seq (ms_if (mt_or (mt_test (te_op l_neR (te_call (mx_val (te_fz (te_call (mx_val (te_rd 5) mx_nil))) mx_nil)) (te_revT (te_call (mx_val (te_rd 5) mx_nil))))) (mt_test (te_op l_eqK (te_call (mx_val (te_fz (te_call (mx_val (te_rd 5) mx_nil))) mx_nil)) (te_call (mx_val (te_rd 5) mx_nil)))))
           (ms_ret te_c)
           ms_next)
        (ms_seq (ms_if (mt_or (mt_test (te_op l_neR (te_lc (mi_list (te_rd 5)) mg_name gw_name gm_name mt_yes (te_call (mx_val (te_call (mx_val (te_rd 9) mx_nil)) mx_nil)) (np1 rfl)) (te_rd 5))) (mt_test (te_op l_neR (te_call (mx_val (te_rd 5) mx_nil)) (te_lc (mi_list (te_revL (te_rd 5))) mg_name gw_name gm_name mt_yes (te_call (mx_val (te_rd 9) mx_nil)) (np1 rfl)))))
           (ms_ret te_c)
           ms_next)
        (ms_seq (ms_asg (te_call (mx_val (te_fz (te_lst (ma_cons (te_tup (ma_cons te_c (ma_cons (te_call (mx_io 1 (mx_val (te_rd 3) (mx_val (te_op l_ix (te_call (mx_val (te_rd 4) mx_nil)) te_c) (mx_val te_c mx_nil))))) ma_nil))) ma_nil))) mx_nil)) mg_name)
        (ms_if (mt_not (mt_val (te_call (mx_io 1 (mx_val (te_fz (te_call (mx_val (te_fz (te_call (mx_val (te_rd 4) (mx_val (te_rd 10) mx_nil)))) mx_nil))) (mx_val (te_fz (te_call (mx_val (te_fz (te_call (mx_val (te_rd 10) mx_nil))) (mx_val (te_rd 8) mx_nil)))) mx_nil))))))
           (ms_ret te_c)
           ms_next)))))))))))
      (ms_ret te_c)))
end
end FL18

namespace CBFL18
open PySem PySem.Spec PyProof.Rows L2 HK
def top (i : Nat) : Stmt := PySem.Challenge.pw_hookcarts_k18_whole_about_twice.main.body.getD i (.Pass ⟨0, 0, 0, 0⟩)
abbrev sBag : Stmt := top 29
theorem yes_ok {σ : L2.St} {H : Hp} {A B : Hp → Prop} (h : A H) : tYes σ H (fun b H3 => if b = true then A H3 else B H3) := by
  show (if true = true then A H else B H)
  rw [if_pos rfl]
  exact h
theorem fm {x m : Int} (h : 0 < m) : 0 ≤ x.fmod m ∧ x.fmod m < m := by
  rw [Int.fmod_eq_emod_of_nonneg _ (by omega)]
  exact ⟨Int.emod_nonneg _ (by omega), Int.emod_lt_of_pos _ h⟩
theorem nz {b : Int} (h : b ≠ 0) : b ≠ 0 := h
/-! ### the bag of draws -/
def Bag (b : Addr) (H : Hp) : Prop := ∃ (r s i : Int) (l : Addr) (ns : List Int), H b = some (.lst [.int r, .int s, .int i, .ref l]) ∧ H l = some (.lst (ns.map V.int)) ∧ l ≠ b ∧ 0 ≤ r ∧ 0 ≤ s ∧ s < 2147483647 ∧ 0 ≤ i ∧ ∀ n ∈ ns, 0 ≤ n
theorem Bag.same {b : Addr} {H H' : Hp} (g : Bag b H) (s : Same H H') : Bag b H' := by
  obtain ⟨r, s', i, l, ns, h1, h2, z⟩ := g
  exact ⟨r, s', i, l, ns, s _ _ h1, s _ _ h2, z⟩
theorem Bag.ne {b p : Addr} {H : Hp} (g : Bag b H) (n : H p = none) : p ≠ b := by
  obtain ⟨r, s', i, l, ns, h1, h2, z⟩ := g
  exact (ne_of_none h1 n).symm
structure TxB (mg : Str → Option Value) : Prop where
  n_abs : mg "abs" = none
  n_len : mg "len" = none
  n_int : mg "int" = none
def spBag (K : PySem.W.Frag) : Sp := fun vs H Q _ => ∃ (a : Addr) (ns : List Int), vs = [.ref a] ∧ SqL K H a (ns.map V.int) ∧ ns.length ≤ 63 ∧ ∀ b H', Same H H' → H b = none → Bag b H' → Q (.ref b) H'
section
variable {P : Program} {w : World} {K : PySem.W.Frag} {mg : Str → Option Value} {base : Heap}
theorem cut_map {ns : List Int} {lo hi : Option Int} : ∃ ms : List Int, cutV (ns.map V.int) lo hi = ms.map V.int ∧ ms.length ≤ ns.length := by
  refine ⟨((ns.drop (HT.sIx (ns.map V.int).length 0 lo)).take (HT.sIx (ns.map V.int).length (ns.map V.int).length hi - HT.sIx (ns.map V.int).length 0 lo)), ?_, ?_⟩
  · unfold cutV
    rw [List.map_take, List.map_drop]
  · rw [List.length_take, List.length_drop]
    omega
theorem scBag : FnScope ["_law_script", "_law_cell"] ["_law_script"] (defScope sBag) := ⟨rfl, rfl, rfl, by decide +kernel, rfl, by decide +kernel, by decide +kernel⟩
theorem ok_bag {f : Addr} {fd : FuncData} (F : Fun K "_law_bag" "_law_bag" sBag f fd) (T : TxB mg) : FnOk P w K mg base CX0 1 f fd ["_law_script"] (spBag K) := by
  refine F.ok scBag (fun vs H Q E h => ?_) (fun cdv A outer s H vs Q E hr h => ?_)
  · obtain ⟨a, ns, rfl, _⟩ := h
    rfl
  · obtain ⟨a, ns, rfl, hS, hl, k⟩ := h
    have nd := scBag.nd
    refine ⟨_, (pss_one (ps_ret (pe_lst (pa_cons pe_int (pa_cons pe_int (pa_cons pe_int (pa_cons (pe_lc (own := [("_law_cell", 1)]) (g := (gName 1)) (tt := tYes) rfl nd (pi_list (pe_slice sl_list (pv 0) po_none (po_some pe_int))) (blkOk_by (N := ["_law_script", "_law_cell"]) (sc := defScope sBag) (by decide +kernel)) (fun _ _ _ _ _ => (pg_name (i := 1) nd rfl (Or.inl rfl))) (fun _ _ _ _ _ => pts_nil) (fun _ _ _ _ _ => (pe_callB call_abs (by rfl) T.n_abs (by decide +kernel) (pa_cons (pv 1) pa_nil)))) pa_nil))))))), ?_⟩
    refine ⟨_, rfl, 63, rfl, a, _, rfl, hS, fun p np => ?_⟩
    obtain ⟨ms, em, lm⟩ := cut_map (ns := ns) (lo := none) (hi := some 63)
    rw [em]
    refine ⟨p, rfl, ⟨_, SqL.of upd_same⟩, fun D nD => ?_⟩
    refine lc_list (K := K) (a := p) (xs := ms.map V.int) (fun i H' => Same H H' ∧ H' p = some (.lst (ms.map V.int)) ∧ ∃ acc : List Int, acc.length = i ∧ (∀ n ∈ acc, 0 ≤ n) ∧ H' D = some (.lst (acc.map V.int))) ?_ (fun i H' _ z => SqL.of z.2.1) ?_ ?_
    · exact ⟨Same.newer (Same.new np) ((Same.new np).free nD), by rw [upd_ne (ne_of_none upd_same nD), upd_same], [], rfl, fun n hn => (List.not_mem_nil hn).elim, upd_same⟩
    · rintro i x H' hi ⟨sm, hp', acc, la, nn, hD⟩
      obtain ⟨z, hz, rfl⟩ : ∃ z, ms[i]? = some z ∧ V.int z = x := by simpa [List.getElem?_map] using hi
      have li : i < ms.length := (List.getElem?_eq_some_iff.mp hz).1
      refine ⟨rfl, ?_⟩
      refine yes_ok ?_
      refine ⟨_, rfl, z, rfl, acc.map V.int, hD, small1000 (by rw [List.length_map]; omega), ?_⟩
      have npD : p ≠ D := ne_of_none upd_same nD
      refine ⟨Same.newer sm ((Same.new np).free nD), by rw [upd_ne npD]; exact hp', acc ++ [if z < 0 then -z else z], by simp [la], fun n hn => ?_, by rw [upd_same, List.map_append]; rfl⟩
      rcases List.mem_append.mp hn with hn | hn
      · exact nn n hn
      · rw [List.mem_singleton.mp hn]
        split <;> omega
    · rintro H' ⟨sm, hp', acc, la, nn, hD⟩
      refine ⟨by show 4 ≤ sizeLine; decide, fun b nb => k b _ (Same.newer sm (sm.free nb)) (sm.free nb) ?_⟩
      exact ⟨0, 1234567891, 0, D, acc, upd_same, by rw [upd_ne (ne_of_none hD nb)]; exact hD, ne_of_none hD nb, by decide, by decide, by decide, by decide, nn⟩
end
end CBFL18

namespace FL
open PySem PySem.Spec PyProof.Rows L2
theorem MS.gn {i : Nat} {v : V} {σ : L2.St} {H : Hp} {Q : L2.St → Hp → Prop} : gName i v σ H Q = Q (σ.set i (some v)) H := rfl
theorem aft_law {c : Bd} {r : Rs Fl} {fl : Fl} {D : Ends} (e1 : r = .ok fl) (e2 : ∃ τ, fl = .rt (.bl true) τ) (k : ∀ H', D.rt (.bl true) H') : Aft c (fun _ => True) r (FlOk c [] [] D) := by
  rw [e1]
  obtain ⟨τ, rfl⟩ := e2
  exact fun σ v H' s' => by
    cases s'.top_sv (hv := []) (hp := []) rfl
    exact k H'
theorem bag_first {K : PySem.W.Frag} {t2 : TS} {D : Ends} {σ : L2.St} {H : Hp} {a : Addr} {ns : List Int} (h0 : σ[0]? = some (some (.ref a))) (hS : SqL K H a (ns.map V.int)) (hl : ns.length ≤ 63) (h : ∀ b H1, Same H H1 → H b = none → CBFL18.Bag b H1 → t2 D (σ.set 1 (some (.ref b))) H1) : tSeq (tAsg (tCall (CBFL18.spBag K) [] E0 (tCons (tVar 0) tNil)) (gName 1)) t2 D σ H := ⟨_, h0, a, ns, rfl, hS, hl, h⟩
theorem MS.use {c : Bd} {t : TS} {f : En → Rs Fl} {σ : L2.St} {τ : En} {H : Hp} {D : Ends} (s : Stt c σ τ [] [] H) (k : Aft c (fun _ => True) (f τ) (FlOk c [] [] D)) (m : MS c t f) : t D σ H := m σ τ [] [] H D s k
theorem rel_ints {P : Program} {w : World} {B : Addr → Prop} {H : Hp} : ∀ cs : List Int, Rels P w B H (cs.map V.int) (cs.map PV.int) []
  | [] => .nil
  | c :: cs => .cons (O := []) (O' := []) (.int c) (rel_ints cs)
end FL
namespace FL18
open PySem PySem.Spec PyProof.Rows L2 FL
/-- the law: true, whatever the script -/
def spLaw (K : PySem.W.Frag) : Sp := fun vs H Q _ => ∃ (a : Addr) (ns : List Int), vs = [.ref a] ∧ HK.Mk H ∧ SqL K H a (ns.map V.int) ∧ ns.length ≤ 63 ∧ ∀ H', Q (.bl true) H'
section
variable {P : Program} {w : World} {K : PySem.W.Frag} {mg : Str → Option Value} {base : Heap}
theorem ok_law0 {f : Addr} {fd : FuncData} (F : Fun K "law" "law" (top 42) f fd) (T : TN mg)
    {f29 : Addr} {d29 : FuncData} (D29 : D1 K mg "_law_bag" (top 29) ["_law_script"] f29 d29) (G29 : FnOk P w K mg base CX0 1 f29 d29 ["_law_script"] (CBFL18.spBag K))
    {f32 : Addr} {d32 : FuncData} (D32 : D1 K mg "_law_kinds" (top 32) ["_law_bag_here", "_law_many"] f32 d32) (G32 : HK.FnG P w K mg base CX0 2 f32 d32 ["_law_bag_here", "_law_many"] (spF P w 2 [true, false] F_l_kinds))
    {f30 : Addr} {d30 : FuncData} (D30 : D1 K mg "_law_take" (top 30) ["_law_bag_here", "_law_many"] f30 d30) (G30 : HK.FnG P w K mg base CX0 1 f30 d30 ["_law_bag_here", "_law_many"] (spF P w 2 [true, false] F_l_take))
    {f40 : Addr} {d40 : FuncData} (D40 : D1 K mg "_law_freed" (top 40) ["_law_train_here"] f40 d40) (G40 : HK.FnG P w K mg base CX0 2 f40 d40 ["_law_train_here"] (spF P w 1 [false] F_l_freed))
    {f39 : Addr} {d39 : FuncData} (D39 : D1 K mg "_law_train" (top 39) ["_law_bag_here", "_law_kinds_here", "_law_upto"] f39 d39) (G39 : HK.FnG P w K mg base CX0 5 f39 d39 ["_law_bag_here", "_law_kinds_here", "_law_upto"] (spF P w 3 [true, false, false] F_l_train))
    {f27 : Addr} {d27 : FuncData} (D27 : D1 K mg "train_about" (top 27) ["train"] f27 d27) (G27 : HK.FnG P w K mg base CX0 4 f27 d27 ["train"] (spF P w 1 [false] F_train_about))
    {f21 : Addr} {d21 : FuncData} (D21 : D1 K mg "train_ends" (top 21) ["train"] f21 d21) (G21 : HK.FnG P w K mg base CX0 3 f21 d21 ["train"] (spF P w 1 [false] F_train_ends))
    {f41 : Addr} {d41 : FuncData} (D41 : D1 K mg "_law_same" (top 41) ["_law_bag_here", "_law_one_here", "_law_other"] f41 d41) (G41 : HK.FnG P w K mg base CX0 5 f41 d41 ["_law_bag_here", "_law_one_here", "_law_other"] (spF P w 3 [true, false, false] F_l_same))
    {f18 : Addr} {d18 : FuncData} (D18 : D1 K mg "row_about" (top 18) ["row"] f18 d18) (G18 : HK.FnG P w K mg base CX0 3 f18 d18 ["row"] (spF P w 1 [false] F_n_row_about))
    {f22 : Addr} {d22 : FuncData} (D22 : D1 K mg "carts_of" (top 22) ["train"] f22 d22) (G22 : HK.FnG P w K mg base CX0 2 f22 d22 ["train"] (spF P w 1 [false] F_carts_of))
    {f16 : Addr} {d16 : FuncData} (D16 : D1 K mg "carts_in" (top 16) ["row"] f16 d16) (G16 : HK.FnG P w K mg base CX0 1 f16 d16 ["row"] (spF P w 1 [false] F_carts_in))
    {f15 : Addr} {d15 : FuncData} (D15 : D1 K mg "row_ends" (top 15) ["row"] f15 d15) (G15 : HK.FnG P w K mg base CX0 2 f15 d15 ["row"] (spF P w 1 [false] F_row_ends))
    {f12 : Addr} {d12 : FuncData} (D12 : D1 K mg "about" (top 12) ["step"] f12 d12) (G12 : HK.FnG P w K mg base CX0 2 f12 d12 ["step"] (spF P w 1 [false] F_n_about))
    {f38 : Addr} {d38 : FuncData} (D38 : D1 K mg "_law_round" (top 38) ["_law_bag_here", "_law_kinds_here", "_law_here", "_law_upto"] f38 d38) (G38 : HK.FnG P w K mg base CX0 4 f38 d38 ["_law_bag_here", "_law_kinds_here", "_law_here", "_law_upto"] (spF P w 4 [true, false, false, false] F_l_round))
    {f26 : Addr} {d26 : FuncData} (D26 : D1 K mg "joined" (top 26) ["one", "other"] f26 d26) (G26 : HK.FnG P w K mg base CX0 4 f26 d26 ["one", "other"] (spF P w 2 [false, false] F_joined)) :
    HK.FnG P w K mg base CX0 6 f fd ["_law_script"] (spLaw K) := by
  have sc : FnScope ["_law_script", "_law_bag_here", "_law_turn", "_law_kinds_here", "_law_train_here", "_law_row", "_law_many", "_law_some", "_law_far", "_law_step", "_law_more"] ["_law_script"] (defScope (top 42)) := ⟨rfl, rfl, rfl, by decide +kernel, rfl, by decide +kernel, by decide +kernel⟩
  refine HK.fnG F sc (fun vs H Q E h => by obtain ⟨a, ns, rfl, _⟩ := h; rfl) fun cdv A outer s H vs Q E hq hr hs => ?_
  have nd := sc.nd
  refine ⟨_,
      (pss_cons (ps_set (i := 1) nd rfl (Or.inl rfl) (pe_call (E := E0) (dvs := []) (ds := []) G29 (hr.mono (by decide)) rfl D29.g D29.F.kp D29.b .nil pass0 (pa_cons (pv 0) pa_nil)))
      (pss_cons (ps_for PassesOwn.never rfl (pi_range1 (by rfl) T.n_range (pa_cons pe_int pa_nil)) (pg_name (i := 2) nd rfl (Or.inl rfl))
        (pss_cons (ps_set (i := 3) nd rfl (Or.inl rfl) (HK.pe_callG (E := E0) G32 hq (hr.mono (by decide)) rfl D32.g D32.F.kp D32.b pass0 (pa_cons (pv 1) (pa_cons (pe_op (opR_or op_add (opR_or op_add_str op_cat)) pe_int (HK.pe_callG (E := E0) G30 hq (hr.mono (by decide)) rfl D30.g D30.F.kp D30.b pass0 (pa_cons (pv 1) (pa_cons pe_int pa_nil)))) pa_nil))))
        (pss_cons (ps_par (i := 4) (j := 5) (by rfl) nd rfl rfl (by decide) rfl rfl (pa_cons (HK.pe_callG (E := E0) G40 hq (hr.mono (by decide)) rfl D40.g D40.F.kp D40.b pass0 (pa_cons (HK.pe_callG (E := E0) G39 hq (hr.mono (by decide)) rfl D39.g D39.F.kp D39.b pass0 (pa_cons (pv 1) (pa_cons (pv 3) (pa_cons pe_int pa_nil)))) pa_nil)) (pa_cons (pe_lst pa_nil) pa_nil)) (by rfl))
        (pss_cons (ps_for PassesOwn.never rfl (pi_list (pv 4)) (pg_tup (by rfl) (pgs_cons (pg_name (i := 6) nd rfl (Or.inl rfl)) (pgs_cons (pg_name (i := 7) nd rfl (Or.inl rfl)) pgs_nil)))
          (pss_one (ps_set (i := 5) nd rfl (Or.inl rfl) (pe_op (opR_or op_add (opR_or op_add_str op_cat)) (pv 5) (pv 7)))))
        (pss_cons (ps_set (i := 8) nd rfl (Or.inl rfl) (HK.pe_callG (E := E0) G27 hq (hr.mono (by decide)) rfl D27.g D27.F.kp D27.b pass0 (pa_cons (pv 4) pa_nil)))
        (pss_cons (ps_if (PW.pt (pw_or (pt_not (pt_val (HK.pe_callG (E := E0) G41 hq (hr.mono (by decide)) rfl D41.g D41.F.kp D41.b pass0 (pa_cons (pv 1) (pa_cons (HK.pe_callG (E := E0) G27 hq (hr.mono (by decide)) rfl D27.g D27.F.kp D27.b pass0 (pa_cons (pv 8) pa_nil)) (pa_cons (pv 4) pa_nil)))))) (pw_or1 (pt_cmpR (show OpR _ _ (rNeA K) from op_neA hr.units) (HK.pe_callG (E := E0) G21 hq (hr.mono (by decide)) rfl D21.g D21.F.kp D21.b pass0 (pa_cons (pv 8) pa_nil)) (pe_revT (HK.pe_callG (E := E0) G21 hq (hr.mono (by decide)) rfl D21.g D21.F.kp D21.b pass0 (pa_cons (pv 4) pa_nil))) (nomark _)))))
          (pss_one (ps_ret pe_bl))
           pss_nil)
        (pss_cons (ps_if (PW.pt (pw_or (pt_cmpR (show OpR _ _ (rKEq P w true) from op_neK hr.units) (HK.pe_callG (E := E0) G22 hq (hr.mono (by decide)) rfl D22.g D22.F.kp D22.b pass0 (pa_cons (pv 8) pa_nil)) (HK.pe_callG (E := E0) G22 hq (hr.mono (by decide)) rfl D22.g D22.F.kp D22.b pass0 (pa_cons (pv 4) pa_nil)) (nomark _)) (pw_or1 (pt_cmpR (show OpR _ _ (rNeA K) from op_neA hr.units) (HK.pe_callG (E := E0) G18 hq (hr.mono (by decide)) rfl D18.g D18.F.kp D18.b pass0 (pa_cons (HK.pe_callG (E := E0) G18 hq (hr.mono (by decide)) rfl D18.g D18.F.kp D18.b pass0 (pa_cons (pv 5) pa_nil)) pa_nil)) (pv 5) (nomark _)))))
          (pss_one (ps_ret pe_bl))
           pss_nil)
        (pss_cons (ps_if (PW.pt (pw_or (pt_cmpR (show OpR _ _ (rNeA K) from op_neA hr.units) (HK.pe_callG (E := E0) G15 hq (hr.mono (by decide)) rfl D15.g D15.F.kp D15.b pass0 (pa_cons (HK.pe_callG (E := E0) G18 hq (hr.mono (by decide)) rfl D18.g D18.F.kp D18.b pass0 (pa_cons (pv 5) pa_nil)) pa_nil)) (pe_revT (HK.pe_callG (E := E0) G15 hq (hr.mono (by decide)) rfl D15.g D15.F.kp D15.b pass0 (pa_cons (pv 5) pa_nil))) (nomark _)) (pw_or1 (pt_cmpR (show OpR _ _ (rKEq P w true) from op_neK hr.units) (HK.pe_callG (E := E0) G16 hq (hr.mono (by decide)) rfl D16.g D16.F.kp D16.b pass0 (pa_cons (HK.pe_callG (E := E0) G18 hq (hr.mono (by decide)) rfl D18.g D18.F.kp D18.b pass0 (pa_cons (pv 5) pa_nil)) pa_nil)) (HK.pe_callG (E := E0) G16 hq (hr.mono (by decide)) rfl D16.g D16.F.kp D16.b pass0 (pa_cons (pv 5) pa_nil)) (nomark _)))))
          (pss_one (ps_ret pe_bl))
           pss_nil)
        (pss_cons (ps_if (PW.pt (pw_or (pt_cmpR (show OpR _ _ (rNeA K) from op_neA hr.units) (pe_lc (own := [("_law_step", 9)]) (g := (gName 9)) (tt := tYes) rfl nd (pi_list (pv 5)) (blkOk_by (N := ["_law_script", "_law_bag_here", "_law_turn", "_law_kinds_here", "_law_train_here", "_law_row", "_law_many", "_law_some", "_law_far", "_law_step", "_law_more"]) (sc := defScope (top 42)) (by decide +kernel)) (fun _ _ _ _ _ => (pg_name (i := 9) nd rfl (Or.inl rfl))) (fun _ _ _ _ _ => pts_nil) (fun _ _ _ _ _ => (HK.pe_callG (E := E0) G12 hq (hr.mono (by decide)) rfl D12.g D12.F.kp D12.b pass0 (pa_cons (HK.pe_callG (E := E0) G12 hq (hr.mono (by decide)) rfl D12.g D12.F.kp D12.b pass0 (pa_cons (pv 9) pa_nil)) pa_nil)))) (pv 5) (nomark _)) (pw_or1 (pt_cmpR (show OpR _ _ (rNeA K) from op_neA hr.units) (HK.pe_callG (E := E0) G18 hq (hr.mono (by decide)) rfl D18.g D18.F.kp D18.b pass0 (pa_cons (pv 5) pa_nil)) (pe_lc (own := [("_law_step", 9)]) (g := (gName 9)) (tt := tYes) rfl nd (pi_list (pe_revL (pv 5))) (blkOk_by (N := ["_law_script", "_law_bag_here", "_law_turn", "_law_kinds_here", "_law_train_here", "_law_row", "_law_many", "_law_some", "_law_far", "_law_step", "_law_more"]) (sc := defScope (top 42)) (by decide +kernel)) (fun _ _ _ _ _ => (pg_name (i := 9) nd rfl (Or.inl rfl))) (fun _ _ _ _ _ => pts_nil) (fun _ _ _ _ _ => (HK.pe_callG (E := E0) G12 hq (hr.mono (by decide)) rfl D12.g D12.F.kp D12.b pass0 (pa_cons (pv 9) pa_nil)))) (nomark _)))))
          (pss_one (ps_ret pe_bl))
           pss_nil)
        (pss_cons (ps_set (i := 10) nd rfl (Or.inl rfl) (HK.pe_callG (E := E0) G40 hq (hr.mono (by decide)) rfl D40.g D40.F.kp D40.b pass0 (pa_cons (pe_lst (pa_cons (pe_tup (pa_cons pe_int (pa_cons (HK.pe_callG (E := E0) G38 hq (hr.mono (by decide)) rfl D38.g D38.F.kp D38.b pass0 (pa_cons (pv 1) (pa_cons (pv 3) (pa_cons (pe_ix (show IxR _ (rIx K) from ix_seq) (HK.pe_callG (E := E0) G21 hq (hr.mono (by decide)) rfl D21.g D21.F.kp D21.b pass0 (pa_cons (pv 4) pa_nil)) pe_int (fun _ _ => rfl)) (pa_cons pe_int pa_nil))))) pa_nil))) pa_nil)) pa_nil)))
        (pss_one (ps_if (pt_not (pt_val (HK.pe_callG (E := E0) G41 hq (hr.mono (by decide)) rfl D41.g D41.F.kp D41.b pass0 (pa_cons (pv 1) (pa_cons (HK.pe_callG (E := E0) G27 hq (hr.mono (by decide)) rfl D27.g D27.F.kp D27.b pass0 (pa_cons (HK.pe_callG (E := E0) G26 hq (hr.mono (by decide)) rfl D26.g D26.F.kp D26.b pass0 (pa_cons (pv 4) (pa_cons (pv 10) pa_nil))) pa_nil)) (pa_cons (HK.pe_callG (E := E0) G26 hq (hr.mono (by decide)) rfl D26.g D26.F.kp D26.b pass0 (pa_cons (HK.pe_callG (E := E0) G27 hq (hr.mono (by decide)) rfl D27.g D27.F.kp D27.b pass0 (pa_cons (pv 10) pa_nil)) (pa_cons (pv 8) pa_nil))) pa_nil))))))
          (pss_one (ps_ret pe_bl))
           pss_nil))))))))))))
      (pss_one (ps_ret pe_bl)))), ?_⟩
  obtain ⟨a, ns, rfl, mk, hS, hl, k⟩ := hs
  refine bag_first (a := a) rfl hS hl fun b H1 s1 nb hb => ?_
  obtain ⟨r, e, i, l, cs, h1, h2, nl, hr0, he0, _, hi0, hc⟩ := hb
  have mk1 := mk.same s1
  have hrel : Rels P w (fun x => x = b) H1 [.ref a, .ref b] [.un, bagP r e i cs] ([] ++ ([b] ++ [])) := .cons .un (.cons (.lstO h1 (.cons (O := []) (.int _) (.cons (O := []) (.int _) (.cons (O := []) (.int _) (.cons (O := []) (O' := []) (.lstF (fun z => nl z) h2 (rel_ints cs)) .nil))))) .nil)
  have st := start_stt (P := P) (w := w) (K := K) (E := E) (m := []) (vs := [.ref a, .ref b]) (N := ["_law_script", "_law_bag_here", "_law_turn", "_law_kinds_here", "_law_train_here", "_law_row", "_law_many", "_law_some", "_law_far", "_law_step", "_law_more"]) mk1 hrel (by simp) (fun x hx => by simpa using hx) (fun x hx => by subst hx; exact ⟨_, h1⟩) (Nat.zero_le _)
  refine MS.use (f := b_law2) st ?_ ?_
  · obtain ⟨_, e1, e2⟩ := OK_ex (law2_ok (g := bagP r e i cs) ⟨_, _, _, _, rfl, hr0, he0, hi0, hc⟩)
    exact aft_law e1 e2 k
  · exact
          (ms_seq (ms_for (mi_rng1 (ma_cons te_c ma_nil)) mg_name
         (ms_seq (ms_asg (te_call (mx_io 1 (mx_val (te_op l_addA te_c (te_call (mx_io 1 (mx_val te_c mx_nil)))) mx_nil))) mg_name)
        (ms_seq (ms_par (ma_cons (te_call (mx_val (te_fz (te_call (mx_io 1 (mx_val (te_rd 3) (mx_val te_c mx_nil))))) mx_nil)) (ma_cons (te_lst ma_nil) ma_nil)))
        (ms_seq (ms_for (mi_list (te_rd 4)) (mg_tup (mgs_cons mg_name (mgs_cons mg_name mgs_nil)))
           (ms_asg (te_op l_addA (te_rd 5) (te_rd 7)) mg_name))
        (ms_seq (ms_asg (te_call (mx_val (te_rd 4) mx_nil)) mg_name)
        (ms_seq (ms_if (mt_or (mt_not (mt_val (te_call (mx_io 1 (mx_val (te_fz (te_call (mx_val (te_rd 8) mx_nil))) (mx_val (te_rd 4) mx_nil)))))) (mt_test (te_op l_neR (te_call (mx_val (te_rd 8) mx_nil)) (te_revT (te_call (mx_val (te_rd 4) mx_nil))))))
           (ms_ret te_c)
           ms_next)
        (ms_seq (ms_if (mt_or (mt_test (te_op l_eqK (te_call (mx_val (te_rd 8) mx_nil)) (te_call (mx_val (te_rd 4) mx_nil)))) (mt_test (te_op l_neR (te_call (mx_val (te_fz (te_call (mx_val (te_rd 5) mx_nil))) mx_nil)) (te_rd 5))))
           (ms_ret te_c)
           ms_next)
        (ms_seq (ms_if (mt_or (mt_test (te_op l_neR (te_call (mx_val (te_fz (te_call (mx_val (te_rd 5) mx_nil))) mx_nil)) (te_revT (te_call (mx_val (te_rd 5) mx_nil))))) (mt_test (te_op l_eqK (te_call (mx_val (te_fz (te_call (mx_val (te_rd 5) mx_nil))) mx_nil)) (te_call (mx_val (te_rd 5) mx_nil)))))
           (ms_ret te_c)
           ms_next)
        (ms_seq (ms_if (mt_or (mt_test (te_op l_neR (te_lc (mi_list (te_rd 5)) mg_name gw_name gm_name mt_yes (te_call (mx_val (te_call (mx_val (te_rd 9) mx_nil)) mx_nil)) (np1 rfl)) (te_rd 5))) (mt_test (te_op l_neR (te_call (mx_val (te_rd 5) mx_nil)) (te_lc (mi_list (te_revL (te_rd 5))) mg_name gw_name gm_name mt_yes (te_call (mx_val (te_rd 9) mx_nil)) (np1 rfl)))))
           (ms_ret te_c)
           ms_next)
        (ms_seq (ms_asg (te_call (mx_val (te_fz (te_lst (ma_cons (te_tup (ma_cons te_c (ma_cons (te_call (mx_io 1 (mx_val (te_rd 3) (mx_val (te_op l_ix (te_call (mx_val (te_rd 4) mx_nil)) te_c) (mx_val te_c mx_nil))))) ma_nil))) ma_nil))) mx_nil)) mg_name)
        (ms_if (mt_not (mt_val (te_call (mx_io 1 (mx_val (te_fz (te_call (mx_val (te_fz (te_call (mx_val (te_rd 4) (mx_val (te_rd 10) mx_nil)))) mx_nil))) (mx_val (te_fz (te_call (mx_val (te_fz (te_call (mx_val (te_rd 10) mx_nil))) (mx_val (te_rd 8) mx_nil)))) mx_nil))))))
           (ms_ret te_c)
           ms_next)))))))))))
      (ms_ret te_c))
end
end FL18

namespace FL18
open PySem PySem.Spec PyProof.Rows L2 FL
section
variable {P : Program} {w : World} {K : PySem.W.Frag} {mg : Str → Option Value} {base : Heap}
theorem ok_is_integer {f : Addr} {fd : FuncData} (F : Fun K "is_integer" "is_integer" (top 6) f fd) (T : TN mg) :
    HK.FnG P w K mg base CX0 1 f fd ["thing"] (spF P w 1 [false] F_is_integer) := by
  have sc : FnScope ["thing"] ["thing"] (defScope (top 6)) := ⟨rfl, rfl, rfl, by decide +kernel, rfl, by decide +kernel, by decide +kernel⟩
  refine okF (N := ["thing"]) (ps := ["thing"]) (b := b_is_integer) F sc (by decide) fun cdv A outer s H vs E hq hr => ?_
  have nd := sc.nd
  refine ⟨_,
      (pss_one (ps_ret (pe_and (pe_callB (show CallR _ _ (rIsi K) from call_isi) (by rfl) T.n_isinstance (by decide +kernel) (pa_cons (pv 0) (pa_cons (pe_bltn (v := .ty "int") (by rfl) T.n_int (by decide +kernel) rfl) pa_nil))) (pe_one (pe_not (pe_callB (show CallR _ _ (rIsi K) from call_isi) (by rfl) T.n_isinstance (by decide +kernel) (pa_cons (pv 0) (pa_cons (pe_bltn (v := .ty "bool") (by rfl) T.n_bool (by decide +kernel) rfl) pa_nil)))))))), fun B O => ?_⟩
  exact
      (ms_ret (te_and (te_isi (te_rd 0)) (te_not (te_isi (te_rd 0)))))
theorem ok_couple {f : Addr} {fd : FuncData} (F : Fun K "couple" "couple" (top 13) f fd) (T : TN mg)
    {f11 : Addr} {d11 : FuncData} (D11 : D1 K mg "end_of" (top 11) ["step"] f11 d11) (G11 : HK.FnG P w K mg base CX0 1 f11 d11 ["step"] (spF P w 1 [false] F_end_of))
    {f10 : Addr} {d10 : FuncData} (D10 : D1 K mg "begin_of" (top 10) ["step"] f10 d10) (G10 : HK.FnG P w K mg base CX0 1 f10 d10 ["step"] (spF P w 1 [false] F_begin_of)) :
    HK.FnG P w K mg base CX0 2 f fd ["step", "other"] (spF P w 2 [false, false] F_couple) := by
  have sc : FnScope ["step", "other"] ["step", "other"] (defScope (top 13)) := ⟨rfl, rfl, rfl, by decide +kernel, rfl, by decide +kernel, by decide +kernel⟩
  refine okF (N := ["step", "other"]) (ps := ["step", "other"]) (b := b_couple) F sc (by decide) fun cdv A outer s H vs E hq hr => ?_
  have nd := sc.nd
  refine ⟨_,
      (pss_one (ps_ret (pe_cmpR (show OpR _ _ (rEqA K) from op_eqA hr.units) (HK.pe_callG (E := E0) G11 hq (hr.mono (by decide)) rfl D11.g D11.F.kp D11.b pass0 (pa_cons (pv 0) pa_nil)) (HK.pe_callG (E := E0) G10 hq (hr.mono (by decide)) rfl D10.g D10.F.kp D10.b pass0 (pa_cons (pv 1) pa_nil)) (nomark _)))), fun B O => ?_⟩
  exact
      (ms_ret (te_op l_eqR (te_call (mx_val (te_rd 0) mx_nil)) (te_call (mx_val (te_rd 1) mx_nil))))
theorem ok_train_ends {f : Addr} {fd : FuncData} (F : Fun K "train_ends" "train_ends" (top 21) f fd) (T : TN mg)
    {f15 : Addr} {d15 : FuncData} (D15 : D1 K mg "row_ends" (top 15) ["row"] f15 d15) (G15 : HK.FnG P w K mg base CX0 2 f15 d15 ["row"] (spF P w 1 [false] F_row_ends)) :
    HK.FnG P w K mg base CX0 3 f fd ["train"] (spF P w 1 [false] F_train_ends) := by
  have sc : FnScope ["train"] ["train"] (defScope (top 21)) := ⟨rfl, rfl, rfl, by decide +kernel, rfl, by decide +kernel, by decide +kernel⟩
  refine okF (N := ["train"]) (ps := ["train"]) (b := b_train_ends) F sc (by decide) fun cdv A outer s H vs E hq hr => ?_
  have nd := sc.nd
  refine ⟨_,
      (pss_one (ps_ret (pe_tup (pa_cons (pe_ix (show IxR _ (rIx K) from ix_seq) (HK.pe_callG (E := E0) G15 hq (hr.mono (by decide)) rfl D15.g D15.F.kp D15.b pass0 (pa_cons (pe_ix (show IxR _ (rIx K) from ix_seq) (pe_ix (show IxR _ (rIx K) from ix_seq) (pv 0) pe_int (fun _ _ => rfl)) pe_int (fun _ _ => rfl)) pa_nil)) pe_int (fun _ _ => rfl)) (pa_cons (pe_ix (show IxR _ (rIx K) from ix_seq) (HK.pe_callG (E := E0) G15 hq (hr.mono (by decide)) rfl D15.g D15.F.kp D15.b pass0 (pa_cons (pe_ix (show IxR _ (rIx K) from ix_seq) (pe_ix (show IxR _ (rIx K) from ix_seq) (pv 0) (pe_un un_neg pe_int) (fun _ _ => rfl)) pe_int (fun _ _ => rfl)) pa_nil)) pe_int (fun _ _ => rfl)) pa_nil))))), fun B O => ?_⟩
  exact
      (ms_ret (te_tup (ma_cons (te_op l_ix (te_call (mx_val (te_op l_ix (te_opB l_ixb 0 te_c) te_c) mx_nil)) te_c) (ma_cons (te_op l_ix (te_call (mx_val (te_op l_ix (te_opB l_ixb 0 (te_un l_neg te_c)) te_c) mx_nil)) te_c) ma_nil))))
theorem ok_train_about {f : Addr} {fd : FuncData} (F : Fun K "train_about" "train_about" (top 27) f fd) (T : TN mg)
    {f17 : Addr} {d17 : FuncData} (D17 : D1 K mg "first_fixed" (top 17) ["row"] f17 d17) (G17 : HK.FnG P w K mg base CX0 1 f17 d17 ["row"] (spF P w 1 [false] F_first_fixed))
    {f18 : Addr} {d18 : FuncData} (D18 : D1 K mg "row_about" (top 18) ["row"] f18 d18) (G18 : HK.FnG P w K mg base CX0 3 f18 d18 ["row"] (spF P w 1 [false] F_n_row_about)) :
    HK.FnG P w K mg base CX0 4 f fd ["train"] (spF P w 1 [false] F_train_about) := by
  have sc : FnScope ["train", "passed", "many", "row", "index"] ["train"] (defScope (top 27)) := ⟨rfl, rfl, rfl, by decide +kernel, rfl, by decide +kernel, by decide +kernel⟩
  refine okF (N := ["train", "passed", "many", "row", "index"]) (ps := ["train"]) (b := b_train_about) F sc (by decide) fun cdv A outer s H vs E hq hr => ?_
  have nd := sc.nd
  refine ⟨_,
      (pss_cons (ps_set (i := 1) nd rfl (Or.inl rfl) pe_int)
      (pss_cons (ps_for PassesOwn.never rfl (pi_list (pv 0)) (pg_tup (by rfl) (pgs_cons (pg_name (i := 2) nd rfl (Or.inl rfl)) (pgs_cons (pg_name (i := 3) nd rfl (Or.inl rfl)) pgs_nil)))
        (pss_cons (ps_set (i := 4) nd rfl (Or.inl rfl) (HK.pe_callG (E := E0) G17 hq (hr.mono (by decide)) rfl D17.g D17.F.kp D17.b pass0 (pa_cons (pv 3) pa_nil)))
        (pss_cons (ps_if (pt_cmpR op_notN (pv 4) pe_non (nomark _))
          (pss_one ps_nev)
           pss_nil)
        (pss_one (ps_set (i := 1) nd rfl (Or.inl rfl) (pe_op (opR_or op_add (opR_or op_add_str op_cat)) (pv 1) (pe_op (opR_or op_mul op_rep) (pv 2) (pe_callB (show CallR _ _ (rLenA K P w) from cr_lenA) (by rfl) T.n_len (by decide +kernel) (pa_cons (pv 3) pa_nil)))))))))
      (pss_one (ps_ret (pe_lc (own := [("many", 2), ("row", 3)]) (g := (gTup K 2 (gCons (gName 2) (gCons (gName 3) gNil)))) (tt := tYes) rfl nd (pi_list (pe_revL (pv 0))) (blkOk_by (N := ["train", "passed", "many", "row", "index"]) (sc := defScope (top 27)) (by decide +kernel)) (fun _ _ _ _ _ => (pg_tup (by rfl) (pgs_cons (pg_name (i := 2) nd rfl (Or.inl rfl)) (pgs_cons (pg_name (i := 3) nd rfl (Or.inl rfl)) pgs_nil)))) (fun _ _ _ _ _ => pts_nil) (fun _ _ _ _ _ => (pe_tup (pa_cons (pv 2) (pa_cons (HK.pe_callG (E := E0) G18 hq (hr.mono (by decide)) rfl D18.g D18.F.kp D18.b pass0 (pa_cons (pv 3) pa_nil)) pa_nil))))))))), fun B O => ?_⟩
  exact
      (ms_seq (ms_asg te_c mg_name)
      (ms_seq (ms_for (mi_list (te_rd 0)) (mg_tup (mgs_cons mg_name (mgs_cons mg_name mgs_nil)))
         (ms_seq (ms_asg (te_call (mx_val (te_rd 3) mx_nil)) mg_name)
        (ms_seq (ms_if (mt_test (te_op l_notN (te_rd 4) te_c))
           ms_nev
           ms_next)
        (ms_asg (te_op l_addA (te_rd 1) (te_op l_mulA (te_rd 2) (te_cbB l_lenR 3))) mg_name))))
      (ms_ret (te_lc (mi_list (te_revL (te_rd 0))) (mg_tup (mgs_cons mg_name (mgs_cons mg_name mgs_nil))) (gw_tup (gw_cons gw_name gm_name (gw_cons gw_name gm_name gw_nil))) (gm_tup (gm_cons gm_name (gm_cons gm_name gm_nil))) mt_yes (te_tup (ma_cons (te_rd 2) (ma_cons (te_call (mx_val (te_rd 3) mx_nil)) ma_nil))) (np2 rfl rfl)))))
theorem ok_l_begin {f : Addr} {fd : FuncData} (F : Fun K "_law_begin" "_law_begin" (top 34) f fd) (T : TN mg) :
    HK.FnG P w K mg base CX0 1 f fd ["_law_step"] (spF P w 1 [false] F_l_begin) := by
  have sc : FnScope ["_law_step"] ["_law_step"] (defScope (top 34)) := ⟨rfl, rfl, rfl, by decide +kernel, rfl, by decide +kernel, by decide +kernel⟩
  refine okF (N := ["_law_step"]) (ps := ["_law_step"]) (b := b_l_begin) F sc (by decide) fun cdv A outer s H vs E hq hr => ?_
  have nd := sc.nd
  refine ⟨_,
      (pss_one (ps_ret (pe_ifExp (pt_val (pe_ix (show IxR _ (rIx K) from ix_seq) (pv 0) pe_int (fun _ _ => rfl))) (pe_ix (show IxR _ (rIx K) from ix_seq) (pe_ix (show IxR _ (rIx K) from ix_seq) (pv 0) pe_int (fun _ _ => rfl)) pe_int (fun _ _ => rfl)) (pe_ix (show IxR _ (rIx K) from ix_seq) (pe_ix (show IxR _ (rIx K) from ix_seq) (pv 0) pe_int (fun _ _ => rfl)) pe_int (fun _ _ => rfl))))), fun B O => ?_⟩
  exact
      (ms_ret (te_if (mt_val (te_opB l_ixb 0 te_c)) (te_op l_ix (te_opB l_ixb 0 te_c) te_c) (te_op l_ix (te_opB l_ixb 0 te_c) te_c)))
theorem ok_l_freed {f : Addr} {fd : FuncData} (F : Fun K "_law_freed" "_law_freed" (top 40) f fd) (T : TN mg)
    {f35 : Addr} {d35 : FuncData} (D35 : D1 K mg "_law_end" (top 35) ["_law_step"] f35 d35) (G35 : HK.FnG P w K mg base CX0 1 f35 d35 ["_law_step"] (spF P w 1 [false] F_l_end))
    {f34 : Addr} {d34 : FuncData} (D34 : D1 K mg "_law_begin" (top 34) ["_law_step"] f34 d34) (G34 : HK.FnG P w K mg base CX0 1 f34 d34 ["_law_step"] (spF P w 1 [false] F_l_begin)) :
    HK.FnG P w K mg base CX0 2 f fd ["_law_train_here"] (spF P w 1 [false] F_l_freed) := by
  have sc : FnScope ["_law_train_here", "_law_found", "_law_many", "_law_row", "_law_some", "_law_step", "_law_pair"] ["_law_train_here"] (defScope (top 40)) := ⟨rfl, rfl, rfl, by decide +kernel, rfl, by decide +kernel, by decide +kernel⟩
  refine okF (N := ["_law_train_here", "_law_found", "_law_many", "_law_row", "_law_some", "_law_step", "_law_pair"]) (ps := ["_law_train_here"]) (b := b_l_freed) F sc (by decide) fun cdv A outer s H vs E hq hr => ?_
  have nd := sc.nd
  refine ⟨_,
      (pss_cons (ps_set (i := 1) nd rfl (Or.inl rfl) (pe_lst pa_nil))
      (pss_cons (ps_for PassesOwn.never rfl (pi_list (pv 0)) (pg_tup (by rfl) (pgs_cons (pg_name (i := 2) nd rfl (Or.inl rfl)) (pgs_cons (pg_name (i := 3) nd rfl (Or.inl rfl)) pgs_nil)))
        (pss_cons (ps_setLc (i := 4) (own := [("_law_step", 5)]) (g := (gName 5)) (tt := tYes) rfl nd rfl rfl rfl (pi_list (pv 3)) (blkOk_by (N := ["_law_train_here", "_law_found", "_law_many", "_law_row", "_law_some", "_law_step", "_law_pair"]) (sc := defScope (top 40)) (by decide +kernel)) (fun _ _ _ _ _ => (pg_name (i := 5) nd rfl (Or.inl rfl))) (fun _ _ _ _ _ => pts_nil) (fun _ _ _ _ _ => (pe_tup (pa_cons (HK.pe_callG (E := E0) G34 hq (hr.mono (by decide)) rfl D34.g D34.F.kp D34.b pass0 (pa_cons (pv 5) pa_nil)) (pa_cons (HK.pe_callG (E := E0) G35 hq (hr.mono (by decide)) rfl D35.g D35.F.kp D35.b pass0 (pa_cons (pv 5) pa_nil)) pa_nil)))))
        (pss_one (ps_expr (pe_bm PySem.F.plainAttrs_list PySem.F.slot_list_append PySem.F.type_list_append mt_append (pv 1) (pa_cons (pe_tup (pa_cons (pv 2) (pa_cons (pe_lc (own := [("_law_pair", 6)]) (g := (gName 6)) (tt := tYes) rfl nd (pi_list (pv 4)) (blkOk_by (N := ["_law_train_here", "_law_found", "_law_many", "_law_row", "_law_some", "_law_step", "_law_pair"]) (sc := defScope (top 40)) (by decide +kernel)) (fun _ _ _ _ _ => (pg_name (i := 6) nd rfl (Or.inl rfl))) (fun _ _ _ _ _ => pts_nil) (fun _ _ _ _ _ => (pe_tup (pa_cons (pe_tup (pa_cons (pe_callB (show CallR _ _ (HK.rMinT K) from HK.call_minT rfl) (by rfl) T.n_min (by decide +kernel) (pa_cons (pv 6) pa_nil)) (pa_cons (pe_callB (show CallR _ _ (HK.rMaxT K) from HK.call_maxT rfl) (by rfl) T.n_max (by decide +kernel) (pa_cons (pv 6) pa_nil)) (pa_cons pe_bl pa_nil)))) (pa_cons (pe_cmpR (opR_or op_gt op_gt_str) (pe_ix (show IxR _ (rIx K) from ix_seq) (pv 6) pe_int (fun _ _ => rfl)) (pe_ix (show IxR _ (rIx K) from ix_seq) (pv 6) pe_int (fun _ _ => rfl)) (nomark _)) pa_nil))))) pa_nil))) pa_nil))))))
      (pss_one (ps_ret (pv 1))))), fun B O => ?_⟩
  exact
      (ms_seq (ms_asg (te_lst ma_nil) mg_name)
      (ms_seq (ms_for (mi_list (te_rd 0)) (mg_tup (mgs_cons mg_name (mgs_cons mg_name mgs_nil)))
         (ms_seq (ms_asg (te_lc (mi_list (te_rd 3)) mg_name gw_name gm_name mt_yes (te_tup (ma_cons (te_call (mx_val (te_rd 5) mx_nil)) (ma_cons (te_call (mx_val (te_rd 5) mx_nil)) ma_nil))) (np1 rfl)) mg_name)
        (ms_drop (te_mut lm_appendF 1 (ma_cons (te_tup (ma_cons (te_rd 2) (ma_cons (te_lc (mi_list (te_rd 4)) mg_name gw_name gm_name mt_yes (te_tup (ma_cons (te_tup (ma_cons (te_cb l_minT (ma_cons (te_rd 6) ma_nil)) (ma_cons (te_cb l_maxT (ma_cons (te_rd 6) ma_nil)) (ma_cons te_c ma_nil)))) (ma_cons (te_op l_gtA (te_opB l_ixb 6 te_c) (te_opB l_ixb 6 te_c)) ma_nil))) (np1 rfl)) ma_nil))) ma_nil)))))
      (ms_ret (te_mv 1))))
end
end FL18

namespace FL18
open PySem PySem.Spec PyProof.Rows L2 FL
section
variable {P : Program} {w : World} {K : PySem.W.Frag} {mg : Str → Option Value} {base : Heap}
theorem ok_is_number {f : Addr} {fd : FuncData} (F : Fun K "is_number" "is_number" (top 7) f fd) (T : TN mg)
    {f6 : Addr} {d6 : FuncData} (D6 : D1 K mg "is_integer" (top 6) ["thing"] f6 d6) (G6 : HK.FnG P w K mg base CX0 1 f6 d6 ["thing"] (spF P w 1 [false] F_is_integer)) :
    HK.FnG P w K mg base CX0 2 f fd ["least", "thing"] (spF P w 2 [false, false] F_is_number) := by
  have sc : FnScope ["least", "thing"] ["least", "thing"] (defScope (top 7)) := ⟨rfl, rfl, rfl, by decide +kernel, rfl, by decide +kernel, by decide +kernel⟩
  refine okF (N := ["least", "thing"]) (ps := ["least", "thing"]) (b := b_is_number) F sc (by decide) fun cdv A outer s H vs E hq hr => ?_
  have nd := sc.nd
  refine ⟨_,
      (pss_one (ps_ret (pe_and (HK.pe_callG (E := E0) G6 hq (hr.mono (by decide)) rfl D6.g D6.F.kp D6.b pass0 (pa_cons (pv 1) pa_nil)) (pe_one (pe_cmpR op_ge (pv 1) (pv 0) (nomark _)))))), fun B O => ?_⟩
  exact
      (ms_ret (te_and (te_call (mx_val (te_rd 1) mx_nil)) (te_op l_ge (te_rd 1) (te_rd 0))))
theorem ok_row_ends {f : Addr} {fd : FuncData} (F : Fun K "row_ends" "row_ends" (top 15) f fd) (T : TN mg)
    {f11 : Addr} {d11 : FuncData} (D11 : D1 K mg "end_of" (top 11) ["step"] f11 d11) (G11 : HK.FnG P w K mg base CX0 1 f11 d11 ["step"] (spF P w 1 [false] F_end_of))
    {f10 : Addr} {d10 : FuncData} (D10 : D1 K mg "begin_of" (top 10) ["step"] f10 d10) (G10 : HK.FnG P w K mg base CX0 1 f10 d10 ["step"] (spF P w 1 [false] F_begin_of)) :
    HK.FnG P w K mg base CX0 2 f fd ["row"] (spF P w 1 [false] F_row_ends) := by
  have sc : FnScope ["row"] ["row"] (defScope (top 15)) := ⟨rfl, rfl, rfl, by decide +kernel, rfl, by decide +kernel, by decide +kernel⟩
  refine okF (N := ["row"]) (ps := ["row"]) (b := b_row_ends) F sc (by decide) fun cdv A outer s H vs E hq hr => ?_
  have nd := sc.nd
  refine ⟨_,
      (pss_one (ps_ret (pe_tup (pa_cons (HK.pe_callG (E := E0) G10 hq (hr.mono (by decide)) rfl D10.g D10.F.kp D10.b pass0 (pa_cons (pe_ix (show IxR _ (rIx K) from ix_seq) (pv 0) pe_int (fun _ _ => rfl)) pa_nil)) (pa_cons (HK.pe_callG (E := E0) G11 hq (hr.mono (by decide)) rfl D11.g D11.F.kp D11.b pass0 (pa_cons (pe_ix (show IxR _ (rIx K) from ix_seq) (pv 0) (pe_un un_neg pe_int) (fun _ _ => rfl)) pa_nil)) pa_nil))))), fun B O => ?_⟩
  exact
      (ms_ret (te_tup (ma_cons (te_call (mx_val (te_opB l_ixb 0 te_c) mx_nil)) (ma_cons (te_call (mx_val (te_opB l_ixb 0 (te_un l_neg te_c)) mx_nil)) ma_nil))))
theorem ok_carts_of {f : Addr} {fd : FuncData} (F : Fun K "carts_of" "carts_of" (top 22) f fd) (T : TN mg)
    {f16 : Addr} {d16 : FuncData} (D16 : D1 K mg "carts_in" (top 16) ["row"] f16 d16) (G16 : HK.FnG P w K mg base CX0 1 f16 d16 ["row"] (spF P w 1 [false] F_carts_in)) :
    HK.FnG P w K mg base CX0 2 f fd ["train"] (spF P w 1 [false] F_carts_of) := by
  have sc : FnScope ["train", "found", "many", "row", "numbers", "cart"] ["train"] (defScope (top 22)) := ⟨rfl, rfl, rfl, by decide +kernel, rfl, by decide +kernel, by decide +kernel⟩
  refine okF (N := ["train", "found", "many", "row", "numbers", "cart"]) (ps := ["train"]) (b := b_carts_of) F sc (by decide) fun cdv A outer s H vs E hq hr => ?_
  have nd := sc.nd
  refine ⟨_,
      (pss_cons (ps_set (i := 1) nd rfl (Or.inr rfl) pe_cnew)
      (pss_cons (ps_for PassesOwn.never rfl (pi_list (pv 0)) (pg_tup (by rfl) (pgs_cons (pg_name (i := 2) nd rfl (Or.inl rfl)) (pgs_cons (pg_name (i := 3) nd rfl (Or.inl rfl)) pgs_nil)))
        (pss_cons (ps_set (i := 4) nd rfl (Or.inl rfl) (HK.pe_callG (E := E0) G16 hq (hr.mono (by decide)) rfl D16.g D16.F.kp D16.b pass0 (pa_cons (pv 3) pa_nil)))
        (pss_one (ps_lock (ps_for PassesOwn.never rfl (pi_ckeys (pv 4)) (pg_name (i := 5) nd rfl (Or.inl rfl))
          (pss_one (ps_asg (pe_op (opR_or op_add (opR_or op_add_str op_cat)) (pe_cget2 hr.units (pv 1) (pv 5) pe_int ⟨by rfl, by rfl, by rfl, by rfl⟩) (pe_op (opR_or op_mul op_rep) (pv 2) (show PE _ _ (tCGet P w _ _) from pe_cget hr.units (pv 4) (pv 5) (fun _ _ => rfl)))) (pg_sub (pv 1) (pv 5) (set_cart hr.units)))))))))
      (pss_one (ps_ret (pe_dcC (own := [("cart", 5)]) (g := gName 5) (tt := tYes) hr.units rfl nd (pi_list (pe_callB (cr_sortedK rfl hr.units) (by rfl) T.n_sorted (by decide +kernel) (pa_cons (pv 1) pa_nil))) (blkOk_by (N := ["train", "found", "many", "row", "numbers", "cart"]) (sc := defScope (top 22)) (by decide +kernel)) (fun _ _ _ _ _ => (pg_name (i := 5) nd rfl (Or.inl rfl))) (fun _ _ _ _ _ => pts_nil) (fun _ _ _ _ _ => (pv 5)) (fun _ _ _ _ _ => (show PE _ _ (tCGet P w _ _) from pe_cget hr.units (pv 1) (pv 5) (fun _ _ => rfl)))))))), fun B O => ?_⟩
  exact
      (ms_seq (ms_asg te_dnew mg_name)
      (ms_seq (ms_for (mi_list (te_rd 0)) (mg_tup (mgs_cons mg_name (mgs_cons mg_name mgs_nil)))
         (ms_seq (ms_asg (te_call (mx_val (te_rd 3) mx_nil)) mg_name)
        (ms_forD 4 (fun _ _ => mg_name)
           (fun _ _ => (ms_asg (te_op l_addA (te_dg2 1 (te_rd 5) te_c) (te_op l_mulA (te_rd 2) (te_opB l_dgetB 4 (te_rd 5)))) (mg_sub ls_dict 1 (te_rd 5)))))))
      (ms_ret (te_dc (mi_list (te_cbB l_sortedD 1)) mg_name gw_name gm_name mt_yes (te_rd 5) (te_opB l_dgetB 1 (te_rd 5)) (np1 rfl)))))
theorem ok_l_bag {f : Addr} {fd : FuncData} (F : Fun K "_law_bag" "_law_bag" (top 29) f fd) (T : TN mg) :
    HK.FnG P w K mg base CX0 1 f fd ["_law_script"] (spF P w 1 [false] F_l_bag) := by
  have sc : FnScope ["_law_script", "_law_cell"] ["_law_script"] (defScope (top 29)) := ⟨rfl, rfl, rfl, by decide +kernel, rfl, by decide +kernel, by decide +kernel⟩
  refine okF (N := ["_law_script", "_law_cell"]) (ps := ["_law_script"]) (b := b_l_bag) F sc (by decide) fun cdv A outer s H vs E hq hr => ?_
  have nd := sc.nd
  refine ⟨_,
      (pss_one (ps_ret (pe_lst (pa_cons pe_int (pa_cons pe_int (pa_cons pe_int (pa_cons (pe_lc (own := [("_law_cell", 1)]) (g := (gName 1)) (tt := tYes) rfl nd (pi_list (pe_slice (show SlR _ (rSlL K) from sl_list) (pv 0) po_none (po_some pe_int))) (blkOk_by (N := ["_law_script", "_law_cell"]) (sc := defScope (top 29)) (by decide +kernel)) (fun _ _ _ _ _ => (pg_name (i := 1) nd rfl (Or.inl rfl))) (fun _ _ _ _ _ => pts_nil) (fun _ _ _ _ _ => (pe_callB call_abs (by rfl) T.n_abs (by decide +kernel) (pa_cons (pv 1) pa_nil)))) pa_nil))))))), fun B O => ?_⟩
  exact
      (ms_ret (te_lst (ma_cons te_c (ma_cons te_c (ma_cons te_c (ma_cons (te_fz (te_lc (mi_list (te_slL (te_rd 0) mo_none (mo_some te_c))) mg_name gw_name gm_name mt_yes (te_cb l_abs (ma_cons (te_rd 1) ma_nil)) (np1 rfl))) ma_nil))))))
theorem ok_l_end {f : Addr} {fd : FuncData} (F : Fun K "_law_end" "_law_end" (top 35) f fd) (T : TN mg) :
    HK.FnG P w K mg base CX0 1 f fd ["_law_step"] (spF P w 1 [false] F_l_end) := by
  have sc : FnScope ["_law_step"] ["_law_step"] (defScope (top 35)) := ⟨rfl, rfl, rfl, by decide +kernel, rfl, by decide +kernel, by decide +kernel⟩
  refine okF (N := ["_law_step"]) (ps := ["_law_step"]) (b := b_l_end) F sc (by decide) fun cdv A outer s H vs E hq hr => ?_
  have nd := sc.nd
  refine ⟨_,
      (pss_one (ps_ret (pe_ifExp (pt_val (pe_ix (show IxR _ (rIx K) from ix_seq) (pv 0) pe_int (fun _ _ => rfl))) (pe_ix (show IxR _ (rIx K) from ix_seq) (pe_ix (show IxR _ (rIx K) from ix_seq) (pv 0) pe_int (fun _ _ => rfl)) pe_int (fun _ _ => rfl)) (pe_ix (show IxR _ (rIx K) from ix_seq) (pe_ix (show IxR _ (rIx K) from ix_seq) (pv 0) pe_int (fun _ _ => rfl)) pe_int (fun _ _ => rfl))))), fun B O => ?_⟩
  exact
      (ms_ret (te_if (mt_val (te_opB l_ixb 0 te_c)) (te_op l_ix (te_opB l_ixb 0 te_c) te_c) (te_op l_ix (te_opB l_ixb 0 te_c) te_c)))
theorem ok_l_same {f : Addr} {fd : FuncData} (F : Fun K "_law_same" "_law_same" (top 41) f fd) (T : TN mg)
    {f21 : Addr} {d21 : FuncData} (D21 : D1 K mg "train_ends" (top 21) ["train"] f21 d21) (G21 : HK.FnG P w K mg base CX0 3 f21 d21 ["train"] (spF P w 1 [false] F_train_ends))
    {f22 : Addr} {d22 : FuncData} (D22 : D1 K mg "carts_of" (top 22) ["train"] f22 d22) (G22 : HK.FnG P w K mg base CX0 2 f22 d22 ["train"] (spF P w 1 [false] F_carts_of))
    {f23 : Addr} {d23 : FuncData} (D23 : D1 K mg "length" (top 23) ["train"] f23 d23) (G23 : HK.FnG P w K mg base CX0 1 f23 d23 ["train"] (spF P w 1 [false] F_length))
    {f30 : Addr} {d30 : FuncData} (D30 : D1 K mg "_law_take" (top 30) ["_law_bag_here", "_law_many"] f30 d30) (G30 : HK.FnG P w K mg base CX0 1 f30 d30 ["_law_bag_here", "_law_many"] (spF P w 2 [true, false] F_l_take))
    {f24 : Addr} {d24 : FuncData} (D24 : D1 K mg "step_at" (top 24) ["train", "index"] f24 d24) (G24 : HK.FnG P w K mg base CX0 4 f24 d24 ["train", "index"] (spF P w 2 [false, false] F_step_at)) :
    HK.FnG P w K mg base CX0 5 f fd ["_law_bag_here", "_law_one_here", "_law_other"] (spF P w 3 [true, false, false] F_l_same) := by
  have sc : FnScope ["_law_bag_here", "_law_one_here", "_law_other", "_law_places", "_law_k", "_law_place"] ["_law_bag_here", "_law_one_here", "_law_other"] (defScope (top 41)) := ⟨rfl, rfl, rfl, by decide +kernel, rfl, by decide +kernel, by decide +kernel⟩
  refine okF (N := ["_law_bag_here", "_law_one_here", "_law_other", "_law_places", "_law_k", "_law_place"]) (ps := ["_law_bag_here", "_law_one_here", "_law_other"]) (b := b_l_same) F sc (by decide) fun cdv A outer s H vs E hq hr => ?_
  have nd := sc.nd
  refine ⟨_,
      (pss_cons (ps_if (PW.pt (pw_or (pt_cmpR (show OpR _ _ (rNeA K) from op_neA hr.units) (HK.pe_callG (E := E0) G23 hq (hr.mono (by decide)) rfl D23.g D23.F.kp D23.b pass0 (pa_cons (pv 1) pa_nil)) (HK.pe_callG (E := E0) G23 hq (hr.mono (by decide)) rfl D23.g D23.F.kp D23.b pass0 (pa_cons (pv 2) pa_nil)) (nomark _)) (pw_or (pt_cmpR (show OpR _ _ (rKEq P w true) from op_neK hr.units) (HK.pe_callG (E := E0) G22 hq (hr.mono (by decide)) rfl D22.g D22.F.kp D22.b pass0 (pa_cons (pv 1) pa_nil)) (HK.pe_callG (E := E0) G22 hq (hr.mono (by decide)) rfl D22.g D22.F.kp D22.b pass0 (pa_cons (pv 2) pa_nil)) (nomark _)) (pw_or1 (pt_cmpR (show OpR _ _ (rNeA K) from op_neA hr.units) (HK.pe_callG (E := E0) G21 hq (hr.mono (by decide)) rfl D21.g D21.F.kp D21.b pass0 (pa_cons (pv 1) pa_nil)) (HK.pe_callG (E := E0) G21 hq (hr.mono (by decide)) rfl D21.g D21.F.kp D21.b pass0 (pa_cons (pv 2) pa_nil)) (nomark _))))))
        (pss_one (ps_ret pe_bl))
         pss_nil)
      (pss_cons (ps_set (i := 3) nd rfl (Or.inl rfl) (pe_op (opR_or op_add (opR_or op_add_str op_cat)) (pe_lst (pa_cons pe_int (pa_cons (pe_op op_sub (HK.pe_callG (E := E0) G23 hq (hr.mono (by decide)) rfl D23.g D23.F.kp D23.b pass0 (pa_cons (pv 1) pa_nil)) pe_int) pa_nil))) (pe_lc (own := [("_law_k", 4)]) (g := (gName 4)) (tt := tYes) rfl nd (pi_range1 (by rfl) T.n_range (pa_cons pe_int pa_nil)) (blkOk_by (N := ["_law_bag_here", "_law_one_here", "_law_other", "_law_places", "_law_k", "_law_place"]) (sc := defScope (top 41)) (by decide +kernel)) (fun _ _ _ _ _ => (pg_name (i := 4) nd rfl (Or.inl rfl))) (fun _ _ _ _ _ => pts_nil) (fun _ _ _ _ _ => (HK.pe_callG (E := E0) G30 hq (hr.mono (by decide)) rfl D30.g D30.F.kp D30.b pass0 (pa_cons (pv 0) (pa_cons (HK.pe_callG (E := E0) G23 hq (hr.mono (by decide)) rfl D23.g D23.F.kp D23.b pass0 (pa_cons (pv 1) pa_nil)) pa_nil)))))))
      (pss_one (ps_ret (pe_cmpR (show OpR _ _ (rEqA K) from op_eqA hr.units) (pe_lc (own := [("_law_place", 5)]) (g := (gName 5)) (tt := _) rfl nd (pi_list (pv 3)) (blkOk_by (N := ["_law_bag_here", "_law_one_here", "_law_other", "_law_places", "_law_k", "_law_place"]) (sc := defScope (top 41)) (by decide +kernel)) (fun _ _ _ _ _ => (pg_name (i := 5) nd rfl (Or.inl rfl))) (fun _ _ _ _ _ => (pts_one (pt_cmpR (show OpR _ _ (rNeA K) from op_neA hr.units) (HK.pe_callG (E := E0) G24 hq (hr.mono (by decide)) rfl D24.g D24.F.kp D24.b pass0 (pa_cons (pv 1) (pa_cons (pv 5) pa_nil))) (HK.pe_callG (E := E0) G24 hq (hr.mono (by decide)) rfl D24.g D24.F.kp D24.b pass0 (pa_cons (pv 2) (pa_cons (pv 5) pa_nil))) (nomark _)))) (fun _ _ _ _ _ => (pv 5))) (pe_lst pa_nil) (nomark _)))))), fun B O => ?_⟩
  exact
      (ms_seq (ms_if (mt_or (mt_test (te_op l_neR (te_call (mx_val (te_rd 1) mx_nil)) (te_call (mx_val (te_rd 2) mx_nil)))) (mt_or (mt_test (te_op l_eqK (te_call (mx_val (te_rd 1) mx_nil)) (te_call (mx_val (te_rd 2) mx_nil)))) (mt_test (te_op l_neR (te_call (mx_val (te_rd 1) mx_nil)) (te_call (mx_val (te_rd 2) mx_nil))))))
         (ms_ret te_c)
         ms_next)
      (ms_seq (ms_asg (te_op l_addA (te_lst (ma_cons te_c (ma_cons (te_op l_sub (te_call (mx_val (te_rd 1) mx_nil)) te_c) ma_nil))) (te_lc (mi_rng1 (ma_cons te_c ma_nil)) mg_name gw_name gm_name mt_yes (te_call (mx_io 0 (mx_val (te_call (mx_val (te_rd 1) mx_nil)) mx_nil))) (np1 rfl))) mg_name)
      (ms_ret (te_op l_eqR (te_lc (mi_list (te_rd 3)) mg_name gw_name gm_name (mt_test (te_op l_neR (te_call (mx_val (te_rd 1) (mx_val (te_rd 5) mx_nil))) (te_call (mx_val (te_rd 2) (mx_val (te_rd 5) mx_nil))))) (te_rd 5) (np1 rfl)) (te_lst ma_nil)))))
end
end FL18

namespace FL18
open PySem PySem.Spec PyProof.Rows L2 FL
section
variable {P : Program} {w : World} {K : PySem.W.Frag} {mg : Str → Option Value} {base : Heap}
theorem ok_begin_of {f : Addr} {fd : FuncData} (F : Fun K "begin_of" "begin_of" (top 10) f fd) (T : TN mg) :
    HK.FnG P w K mg base CX0 1 f fd ["step"] (spF P w 1 [false] F_begin_of) := by
  have sc : FnScope ["step", "cart", "turned"] ["step"] (defScope (top 10)) := ⟨rfl, rfl, rfl, by decide +kernel, rfl, by decide +kernel, by decide +kernel⟩
  refine okF (N := ["step", "cart", "turned"]) (ps := ["step"]) (b := b_begin_of) F sc (by decide) fun cdv A outer s H vs E hq hr => ?_
  have nd := sc.nd
  refine ⟨_,
      (pss_cons (ps_asg (pv 0) (pg_tup (by rfl) (pgs_cons (pg_name (i := 1) nd rfl (Or.inl rfl)) (pgs_cons (pg_name (i := 2) nd rfl (Or.inl rfl)) pgs_nil))))
      (pss_one (ps_ret (pe_ifExp (pt_val (pv 2)) (pe_ix (show IxR _ (rIx K) from ix_seq) (pv 1) pe_int (fun _ _ => rfl)) (pe_ix (show IxR _ (rIx K) from ix_seq) (pv 1) pe_int (fun _ _ => rfl)))))), fun B O => ?_⟩
  exact
      (ms_seq (ms_asg (te_rd 0) (mg_tup (mgs_cons mg_name (mgs_cons mg_name mgs_nil))))
      (ms_ret (te_if (mt_val (te_rd 2)) (te_opB l_ixb 1 te_c) (te_opB l_ixb 1 te_c))))
theorem ok_first_fixed {f : Addr} {fd : FuncData} (F : Fun K "first_fixed" "first_fixed" (top 17) f fd) (T : TN mg) :
    HK.FnG P w K mg base CX0 1 f fd ["row"] (spF P w 1 [false] F_first_fixed) := by
  have sc : FnScope ["row", "index", "cart", "_"] ["row"] (defScope (top 17)) := ⟨rfl, rfl, rfl, by decide +kernel, rfl, by decide +kernel, by decide +kernel⟩
  refine okF (N := ["row", "index", "cart", "_"]) (ps := ["row"]) (b := b_first_fixed) F sc (by decide) fun cdv A outer s H vs E hq hr => ?_
  have nd := sc.nd
  refine ⟨_,
      (pss_cons (ps_for PassesOwn.never rfl (pi_enum (by rfl) T.n_enumerate (pa_cons (pv 0) pa_nil)) (pg_tup (by rfl) (pgs_cons (pg_name (i := 1) nd rfl (Or.inl rfl)) (pgs_cons (pg_tup (by rfl) (pgs_cons (pg_name (i := 2) nd rfl (Or.inl rfl)) (pgs_cons (pg_name (i := 3) nd rfl (Or.inl rfl)) pgs_nil))) pgs_nil)))
        (pss_one (ps_if (pt_not (pt_val (pe_ix (show IxR _ (rIx K) from ix_seq) (pv 2) pe_int (fun _ _ => rfl))))
          (pss_one (ps_ret (pv 1)))
           pss_nil)))
      (pss_one (ps_ret pe_non))), fun B O => ?_⟩
  exact
      (ms_seq (ms_for (mi_enum (ma_cons (te_rd 0) ma_nil)) (mg_tup (mgs_cons mg_name (mgs_cons (mg_tup (mgs_cons mg_name (mgs_cons mg_name mgs_nil))) mgs_nil)))
         (ms_if (mt_not (mt_val (te_opB l_ixb 2 te_c)))
           (ms_ret (te_mv 1))
           ms_next))
      (ms_ret te_c))
theorem ok_stretch {f : Addr} {fd : FuncData} (F : Fun K "stretch" "stretch" (top 25) f fd) (T : TN mg)
    {f23 : Addr} {d23 : FuncData} (D23 : D1 K mg "length" (top 23) ["train"] f23 d23) (G23 : HK.FnG P w K mg base CX0 1 f23 d23 ["train"] (spF P w 1 [false] F_length))
    {f7 : Addr} {d7 : FuncData} (D7 : D1 K mg "is_number" (top 7) ["least", "thing"] f7 d7) (G7 : HK.FnG P w K mg base CX0 2 f7 d7 ["least", "thing"] (spF P w 2 [false, false] F_is_number)) :
    HK.FnG P w K mg base CX0 3 f fd ["train", "first", "many"] (spF P w 3 [false, false, false] F_stretch) := by
  have sc : FnScope ["train", "first", "many", "found", "skipped", "times", "row", "size", "taken", "start", "index"] ["train", "first", "many"] (defScope (top 25)) := ⟨rfl, rfl, rfl, by decide +kernel, rfl, by decide +kernel, by decide +kernel⟩
  refine okF (N := ["train", "first", "many", "found", "skipped", "times", "row", "size", "taken", "start", "index"]) (ps := ["train", "first", "many"]) (b := b_stretch) F sc (by decide) fun cdv A outer s H vs E hq hr => ?_
  have nd := sc.nd
  refine ⟨_,
      (pss_cons (ps_if (PW.pt (pw_or (pt_not (pt_val (HK.pe_callG (E := E0) G7 hq (hr.mono (by decide)) rfl D7.g D7.F.kp D7.b pass0 (pa_cons pe_int (pa_cons (pv 1) pa_nil))))) (pw_or1 (pt_cmpR (opR_or op_gt op_gt_str) (pe_op (opR_or op_add (opR_or op_add_str op_cat)) (pv 1) (pv 2)) (HK.pe_callG (E := E0) G23 hq (hr.mono (by decide)) rfl D23.g D23.F.kp D23.b pass0 (pa_cons (pv 0) pa_nil)) (nomark _)))))
        (pss_one ps_nev)
         pss_nil)
      (pss_cons (ps_set (i := 3) nd rfl (Or.inl rfl) (pe_lst pa_nil))
      (pss_cons (ps_set (i := 4) nd rfl (Or.inl rfl) (pv 1))
      (pss_cons (ps_for PassesOwn.never rfl (pi_list (pv 0)) (pg_tup (by rfl) (pgs_cons (pg_name (i := 5) nd rfl (Or.inl rfl)) (pgs_cons (pg_name (i := 6) nd rfl (Or.inr rfl)) pgs_nil)))
        (pss_cons (ps_set (i := 7) nd rfl (Or.inl rfl) (pe_op (opR_or op_mul op_rep) (pv 5) (pe_callB (show CallR _ _ (rLenA K P w) from cr_lenA) (by rfl) T.n_len (by decide +kernel) (pa_cons (pv 6) pa_nil))))
        (pss_cons (ps_set (i := 8) nd rfl (Or.inl rfl) (pe_callB (callR_or (call_min2 rfl) (HK.call_minS rfl)) (by rfl) T.n_min (by decide +kernel) (pa_cons (pe_op op_sub (pv 2) (pe_callB (show CallR _ _ (rLenA K P w) from cr_lenA) (by rfl) T.n_len (by decide +kernel) (pa_cons (pv 3) pa_nil))) (pa_cons (pe_op op_sub (pv 7) (pv 4)) pa_nil))))
        (pss_cons (ps_set (i := 9) nd rfl (Or.inr rfl) (pe_op op_modN (pv 4) (pe_callB (show CallR _ _ (rLenA K P w) from cr_lenA) (by rfl) T.n_len (by decide +kernel) (pa_cons (pv 6) pa_nil))))
        (pss_cons (ps_expr (pe_bm PySem.F.plainAttrs_list PySem.F.slot_list_extend PySem.F.type_list_extend mt_extend (pv 3) (pa_cons (pe_lc (own := [("index", 10)]) (g := (gName 10)) (tt := tYes) rfl nd (pi_rangeW (by rfl) T.n_range (pa_cons (pv 8) pa_nil)) (blkOk_by (N := ["train", "first", "many", "found", "skipped", "times", "row", "size", "taken", "start", "index"]) (sc := defScope (top 25)) (by decide +kernel)) (fun _ _ _ _ _ => (pg_name (i := 10) nd rfl (Or.inl rfl))) (fun _ _ _ _ _ => pts_nil) (fun _ _ _ _ _ => (pe_ix (show IxR _ (rIx K) from ix_seq) (pv 6) (pe_op op_modN (pe_op (opR_or op_add (opR_or op_add_str op_cat)) (pv 9) (pv 10)) (pe_callB (show CallR _ _ (rLenA K P w) from cr_lenA) (by rfl) T.n_len (by decide +kernel) (pa_cons (pv 6) pa_nil))) (fun _ _ => rfl)))) pa_nil)))
        (pss_one (ps_set (i := 4) nd rfl (Or.inl rfl) (pe_callB (callR_or (call_max2 rfl) (HK.call_maxS rfl)) (by rfl) T.n_max (by decide +kernel) (pa_cons pe_int (pa_cons (pe_op op_sub (pv 4) (pv 7)) pa_nil))))))))))
      (pss_one (ps_ret (pv 3))))))), fun B O => ?_⟩
  exact
      (ms_seq (ms_if (mt_or (mt_not (mt_val (te_call (mx_val te_c (mx_val (te_rd 1) mx_nil))))) (mt_test (te_op l_gtA (te_op l_addA (te_rd 1) (te_rd 2)) (te_call (mx_val (te_rd 0) mx_nil)))))
         ms_nev
         ms_next)
      (ms_seq (ms_asg (te_lst ma_nil) mg_name)
      (ms_seq (ms_asg (te_rd 1) mg_name)
      (ms_seq (ms_for (mi_list (te_rd 0)) (mg_tup (mgs_cons mg_name (mgs_cons mg_name mgs_nil)))
         (ms_seq (ms_asg (te_op l_mulA (te_rd 5) (te_cbB l_lenR 6)) mg_name)
        (ms_seq (ms_asg (te_cb l_minA (ma_cons (te_op l_sub (te_rd 2) (te_cbB l_lenR 3)) (ma_cons (te_op l_sub (te_rd 7) (te_rd 4)) ma_nil))) mg_name)
        (ms_seq (ms_asg (te_op l_mod (te_rd 4) (te_cbB l_lenR 6)) mg_name)
        (ms_seq (ms_drop (te_mut lm_extend 3 (ma_cons (te_lc (mi_rngW (ma_cons (te_rd 8) ma_nil)) mg_name gw_name gm_name mt_yes (te_opB l_ixb 6 (te_op l_mod (te_op l_addA (te_rd 9) (te_rd 10)) (te_cbB l_lenR 6))) (np1 rfl)) ma_nil)))
        (ms_asg (te_cb l_maxA (ma_cons te_c (ma_cons (te_op l_sub (te_rd 4) (te_rd 7)) ma_nil))) mg_name))))))
      (ms_ret (te_mv 3))))))
theorem ok_l_one {f : Addr} {fd : FuncData} (F : Fun K "_law_one" "_law_one" (top 31) f fd) (T : TN mg)
    {f30 : Addr} {d30 : FuncData} (D30 : D1 K mg "_law_take" (top 30) ["_law_bag_here", "_law_many"] f30 d30) (G30 : HK.FnG P w K mg base CX0 1 f30 d30 ["_law_bag_here", "_law_many"] (spF P w 2 [true, false] F_l_take)) :
    HK.FnG P w K mg base CX0 2 f fd ["_law_bag_here", "_law_things"] (spF P w 2 [true, false] F_l_one) := by
  have sc : FnScope ["_law_bag_here", "_law_things"] ["_law_bag_here", "_law_things"] (defScope (top 31)) := ⟨rfl, rfl, rfl, by decide +kernel, rfl, by decide +kernel, by decide +kernel⟩
  refine okF (N := ["_law_bag_here", "_law_things"]) (ps := ["_law_bag_here", "_law_things"]) (b := b_l_one) F sc (by decide) fun cdv A outer s H vs E hq hr => ?_
  have nd := sc.nd
  refine ⟨_,
      (pss_one (ps_ret (pe_ix (show IxR _ (rIx K) from ix_seq) (pv 1) (HK.pe_callG (E := E0) G30 hq (hr.mono (by decide)) rfl D30.g D30.F.kp D30.b pass0 (pa_cons (pv 0) (pa_cons (pe_callB (show CallR _ _ (rLenA K P w) from cr_lenA) (by rfl) T.n_len (by decide +kernel) (pa_cons (pv 1) pa_nil)) pa_nil))) (fun _ _ => rfl)))), fun B O => ?_⟩
  exact
      (ms_ret (te_opB l_ixb 1 (te_call (mx_io 0 (mx_val (te_cbB l_lenR 1) mx_nil)))))
theorem ok_l_row_from {f : Addr} {fd : FuncData} (F : Fun K "_law_row_from" "_law_row_from" (top 37) f fd) (T : TN mg)
    {f30 : Addr} {d30 : FuncData} (D30 : D1 K mg "_law_take" (top 30) ["_law_bag_here", "_law_many"] f30 d30) (G30 : HK.FnG P w K mg base CX0 1 f30 d30 ["_law_bag_here", "_law_many"] (spF P w 2 [true, false] F_l_take))
    {f31 : Addr} {d31 : FuncData} (D31 : D1 K mg "_law_one" (top 31) ["_law_bag_here", "_law_things"] f31 d31) (G31 : HK.FnG P w K mg base CX0 2 f31 d31 ["_law_bag_here", "_law_things"] (spF P w 2 [true, false] F_l_one))
    {f36 : Addr} {d36 : FuncData} (D36 : D1 K mg "_law_step_on" (top 36) ["_law_bag_here", "_law_here", "_law_there"] f36 d36) (G36 : HK.FnG P w K mg base CX0 2 f36 d36 ["_law_bag_here", "_law_here", "_law_there"] (spF P w 3 [true, false, false] F_l_step_on)) :
    HK.FnG P w K mg base CX0 3 f fd ["_law_bag_here", "_law_kinds_here", "_law_here", "_law_upto"] (spF P w 4 [true, false, false, false] F_l_row_from) := by
  have sc : FnScope ["_law_bag_here", "_law_kinds_here", "_law_here", "_law_upto", "_law_found", "_law_k", "_law_there"] ["_law_bag_here", "_law_kinds_here", "_law_here", "_law_upto"] (defScope (top 37)) := ⟨rfl, rfl, rfl, by decide +kernel, rfl, by decide +kernel, by decide +kernel⟩
  refine okF (N := ["_law_bag_here", "_law_kinds_here", "_law_here", "_law_upto", "_law_found", "_law_k", "_law_there"]) (ps := ["_law_bag_here", "_law_kinds_here", "_law_here", "_law_upto"]) (b := b_l_row_from) F sc (by decide) fun cdv A outer s H vs E hq hr => ?_
  have nd := sc.nd
  refine ⟨_,
      (pss_cons (ps_set (i := 4) nd rfl (Or.inl rfl) (pe_lst pa_nil))
      (pss_cons (ps_for PassesOwn.never rfl (pi_range1 (by rfl) T.n_range (pa_cons (pe_op (opR_or op_add (opR_or op_add_str op_cat)) pe_int (HK.pe_callG (E := E0) G30 hq (hr.mono (by decide)) rfl D30.g D30.F.kp D30.b pass0 (pa_cons (pv 0) (pa_cons (pv 3) pa_nil)))) pa_nil)) (pg_name (i := 5) nd rfl (Or.inl rfl))
        (pss_cons (ps_set (i := 6) nd rfl (Or.inl rfl) (HK.pe_callG (E := E0) G31 hq (hr.mono (by decide)) rfl D31.g D31.F.kp D31.b pass0 (pa_cons (pv 0) (pa_cons (pv 1) pa_nil))))
        (pss_cons (ps_expr (pe_bm PySem.F.plainAttrs_list PySem.F.slot_list_append PySem.F.type_list_append mt_append (pv 4) (pa_cons (HK.pe_callG (E := E0) G36 hq (hr.mono (by decide)) rfl D36.g D36.F.kp D36.b pass0 (pa_cons (pv 0) (pa_cons (pv 2) (pa_cons (pv 6) pa_nil)))) pa_nil)))
        (pss_one (ps_set (i := 2) nd rfl (Or.inl rfl) (pv 6))))))
      (pss_one (ps_ret (pv 4))))), fun B O => ?_⟩
  exact
      (ms_seq (ms_asg (te_lst ma_nil) mg_name)
      (ms_seq (ms_for (mi_rng1 (ma_cons (te_op l_addA te_c (te_call (mx_io 0 (mx_val (te_rd 3) mx_nil)))) ma_nil)) mg_name
         (ms_seq (ms_asg (te_call (mx_io 0 (mx_val (te_rd 1) mx_nil))) mg_name)
        (ms_seq (ms_drop (te_mut lm_append 4 (ma_cons (te_call (mx_io 0 (mx_val (te_rd 2) (mx_val (te_rd 6) mx_nil)))) ma_nil)))
        (ms_asg (te_rd 6) mg_name))))
      (ms_ret (te_mv 4))))
end
end FL18

namespace FL18
open PySem PySem.Spec PyProof.Rows L2 FL
section
variable {P : Program} {w : World} {K : PySem.W.Frag} {mg : Str → Option Value} {base : Heap}
theorem ok_end_of {f : Addr} {fd : FuncData} (F : Fun K "end_of" "end_of" (top 11) f fd) (T : TN mg) :
    HK.FnG P w K mg base CX0 1 f fd ["step"] (spF P w 1 [false] F_end_of) := by
  have sc : FnScope ["step", "cart", "turned"] ["step"] (defScope (top 11)) := ⟨rfl, rfl, rfl, by decide +kernel, rfl, by decide +kernel, by decide +kernel⟩
  refine okF (N := ["step", "cart", "turned"]) (ps := ["step"]) (b := b_end_of) F sc (by decide) fun cdv A outer s H vs E hq hr => ?_
  have nd := sc.nd
  refine ⟨_,
      (pss_cons (ps_asg (pv 0) (pg_tup (by rfl) (pgs_cons (pg_name (i := 1) nd rfl (Or.inl rfl)) (pgs_cons (pg_name (i := 2) nd rfl (Or.inl rfl)) pgs_nil))))
      (pss_one (ps_ret (pe_ifExp (pt_val (pv 2)) (pe_ix (show IxR _ (rIx K) from ix_seq) (pv 1) pe_int (fun _ _ => rfl)) (pe_ix (show IxR _ (rIx K) from ix_seq) (pv 1) pe_int (fun _ _ => rfl)))))), fun B O => ?_⟩
  exact
      (ms_seq (ms_asg (te_rd 0) (mg_tup (mgs_cons mg_name (mgs_cons mg_name mgs_nil))))
      (ms_ret (te_if (mt_val (te_rd 2)) (te_opB l_ixb 1 te_c) (te_opB l_ixb 1 te_c))))
theorem ok_n_row_about {f : Addr} {fd : FuncData} (F : Fun K "row_about" "row_about" (top 18) f fd) (T : TN mg)
    {f17 : Addr} {d17 : FuncData} (D17 : D1 K mg "first_fixed" (top 17) ["row"] f17 d17) (G17 : HK.FnG P w K mg base CX0 1 f17 d17 ["row"] (spF P w 1 [false] F_first_fixed))
    {f12 : Addr} {d12 : FuncData} (D12 : D1 K mg "about" (top 12) ["step"] f12 d12) (G12 : HK.FnG P w K mg base CX0 2 f12 d12 ["step"] (spF P w 1 [false] F_n_about)) :
    HK.FnG P w K mg base CX0 3 f fd ["row"] (spF P w 1 [false] F_n_row_about) := by
  have sc : FnScope ["row", "index", "step"] ["row"] (defScope (top 18)) := ⟨rfl, rfl, rfl, by decide +kernel, rfl, by decide +kernel, by decide +kernel⟩
  refine okF (N := ["row", "index", "step"]) (ps := ["row"]) (b := b_n_row_about) F sc (by decide) fun cdv A outer s H vs E hq hr => ?_
  have nd := sc.nd
  refine ⟨_,
      (pss_cons (ps_set (i := 1) nd rfl (Or.inl rfl) (HK.pe_callG (E := E0) G17 hq (hr.mono (by decide)) rfl D17.g D17.F.kp D17.b pass0 (pa_cons (pv 0) pa_nil)))
      (pss_cons (ps_if (pt_cmpR op_notN (pv 1) pe_non (nomark _))
        (pss_one ps_nev)
         pss_nil)
      (pss_one (ps_ret (pe_lc (own := [("step", 2)]) (g := (gName 2)) (tt := tYes) rfl nd (pi_list (pe_revL (pv 0))) (blkOk_by (N := ["row", "index", "step"]) (sc := defScope (top 18)) (by decide +kernel)) (fun _ _ _ _ _ => (pg_name (i := 2) nd rfl (Or.inl rfl))) (fun _ _ _ _ _ => pts_nil) (fun _ _ _ _ _ => (HK.pe_callG (E := E0) G12 hq (hr.mono (by decide)) rfl D12.g D12.F.kp D12.b pass0 (pa_cons (pv 2) pa_nil)))))))), fun B O => ?_⟩
  exact
      (ms_seq (ms_asg (te_call (mx_val (te_rd 0) mx_nil)) mg_name)
      (ms_seq (ms_if (mt_test (te_op l_notN (te_rd 1) te_c))
         ms_nev
         ms_next)
      (ms_ret (te_lc (mi_list (te_revL (te_rd 0))) mg_name gw_name gm_name mt_yes (te_call (mx_val (te_rd 2) mx_nil)) (np1 rfl)))))
theorem ok_step_at {f : Addr} {fd : FuncData} (F : Fun K "step_at" "step_at" (top 24) f fd) (T : TN mg)
    {f25 : Addr} {d25 : FuncData} (D25 : D1 K mg "stretch" (top 25) ["train", "first", "many"] f25 d25) (G25 : HK.FnG P w K mg base CX0 3 f25 d25 ["train", "first", "many"] (spF P w 3 [false, false, false] F_stretch)) :
    HK.FnG P w K mg base CX0 4 f fd ["train", "index"] (spF P w 2 [false, false] F_step_at) := by
  have sc : FnScope ["train", "index"] ["train", "index"] (defScope (top 24)) := ⟨rfl, rfl, rfl, by decide +kernel, rfl, by decide +kernel, by decide +kernel⟩
  refine okF (N := ["train", "index"]) (ps := ["train", "index"]) (b := b_step_at) F sc (by decide) fun cdv A outer s H vs E hq hr => ?_
  have nd := sc.nd
  refine ⟨_,
      (pss_one (ps_ret (pe_ix (show IxR _ (rIx K) from ix_seq) (HK.pe_callG (E := E0) G25 hq (hr.mono (by decide)) rfl D25.g D25.F.kp D25.b pass0 (pa_cons (pv 0) (pa_cons (pv 1) (pa_cons pe_int pa_nil)))) pe_int (fun _ _ => rfl)))), fun B O => ?_⟩
  exact
      (ms_ret (te_op l_ix (te_call (mx_val (te_rd 0) (mx_val (te_rd 1) (mx_val te_c mx_nil)))) te_c))
theorem ok_l_kinds {f : Addr} {fd : FuncData} (F : Fun K "_law_kinds" "_law_kinds" (top 32) f fd) (T : TN mg)
    {f30 : Addr} {d30 : FuncData} (D30 : D1 K mg "_law_take" (top 30) ["_law_bag_here", "_law_many"] f30 d30) (G30 : HK.FnG P w K mg base CX0 1 f30 d30 ["_law_bag_here", "_law_many"] (spF P w 2 [true, false] F_l_take)) :
    HK.FnG P w K mg base CX0 2 f fd ["_law_bag_here", "_law_many"] (spF P w 2 [true, false] F_l_kinds) := by
  have sc : FnScope ["_law_bag_here", "_law_many", "_law_way", "_law_turn", "_law_menu", "_law_stem", "_law_k"] ["_law_bag_here", "_law_many"] (defScope (top 32)) := ⟨rfl, rfl, rfl, by decide +kernel, rfl, by decide +kernel, by decide +kernel⟩
  refine okF (N := ["_law_bag_here", "_law_many", "_law_way", "_law_turn", "_law_menu", "_law_stem", "_law_k"]) (ps := ["_law_bag_here", "_law_many"]) (b := b_l_kinds) F sc (by decide) fun cdv A outer s H vs E hq hr => ?_
  have nd := sc.nd
  refine ⟨_,
      (pss_cons (ps_asg (pe_tup (pa_cons (HK.pe_callG (E := E0) G30 hq (hr.mono (by decide)) rfl D30.g D30.F.kp D30.b pass0 (pa_cons (pv 0) (pa_cons pe_int pa_nil))) (pa_cons (HK.pe_callG (E := E0) G30 hq (hr.mono (by decide)) rfl D30.g D30.F.kp D30.b pass0 (pa_cons (pv 0) (pa_cons pe_int pa_nil))) pa_nil))) (pg_tup (by rfl) (pgs_cons (pg_name (i := 2) nd rfl (Or.inl rfl)) (pgs_cons (pg_name (i := 3) nd rfl (Or.inr rfl)) pgs_nil))))
      (pss_cons (ps_set (i := 4) nd rfl (Or.inl rfl) (pe_lst (pa_cons pe_str (pa_cons pe_str (pa_cons pe_str (pa_cons pe_str (pa_cons pe_str (pa_cons pe_str (pa_cons pe_str (pa_cons pe_str (pa_cons pe_str (pa_cons pe_str (pa_cons pe_str (pa_cons pe_str pa_nil))))))))))))))
      (pss_cons (ps_if (pt_cmpR (show OpR _ _ (rEqA K) from op_eqA hr.units) (pv 2) pe_int (nomark _))
        (pss_one (ps_ret (pe_callB (show CallR _ _ (HK.rSortedD K) from HK.cr_sortedD hr.units) (by rfl) T.n_sorted (by decide +kernel) (pa_cons (pe_slice (show SlR _ (rSlL K) from sl_list) (pe_op (opR_or op_add (opR_or op_add_str op_cat)) (pv 4) (pv 4)) (po_some (pv 3)) (po_some (pe_op (opR_or op_add (opR_or op_add_str op_cat)) (pv 3) (pv 1)))) pa_nil))))
         pss_nil)
      (pss_cons (ps_if (pt_cmpR (show OpR _ _ (rEqA K) from op_eqA hr.units) (pv 2) pe_int (nomark _))
        (pss_one (ps_ret (pe_slice (show SlR _ (rSlL K) from sl_list) (pe_lst (pa_cons pe_str (pa_cons pe_str (pa_cons pe_str (pa_cons pe_str (pa_cons pe_str (pa_cons pe_str (pa_cons pe_str (pa_cons pe_str pa_nil))))))))) po_none (po_some (pv 1)))))
         pss_nil)
      (pss_cons (ps_set (i := 5) nd rfl (Or.inr rfl) (pe_slice sl_str pe_str po_none (po_some (HK.pe_callG (E := E0) G30 hq (hr.mono (by decide)) rfl D30.g D30.F.kp D30.b pass0 (pa_cons (pv 0) (pa_cons pe_int pa_nil))))))
      (pss_one (ps_ret (pe_callB (show CallR _ _ (HK.rSortedD K) from HK.cr_sortedD hr.units) (by rfl) T.n_sorted (by decide +kernel) (pa_cons (pe_lc (own := [("_law_k", 6)]) (g := (gName 6)) (tt := tYes) rfl nd (pi_range1 (by rfl) T.n_range (pa_cons (pv 1) pa_nil)) (blkOk_by (N := ["_law_bag_here", "_law_many", "_law_way", "_law_turn", "_law_menu", "_law_stem", "_law_k"]) (sc := defScope (top 32)) (by decide +kernel)) (fun _ _ _ _ _ => (pg_name (i := 6) nd rfl (Or.inl rfl))) (fun _ _ _ _ _ => pts_nil) (fun _ _ _ _ _ => (pe_op (opR_or op_add (opR_or op_add_str op_cat)) (pv 5) (pe_ix (show IxR _ (rIx K) from ix_seq) pe_str (pe_op op_modN (pe_callTy call_int1 (by rfl) T.n_int (by decide +kernel) (pa_cons (pe_op (opR_or op_add (opR_or op_add_str op_cat)) (pe_op (opR_or op_mul op_rep) pe_int (pv 3)) (pe_op (opR_or op_mul op_rep) pe_int (pv 6))) pa_nil)) pe_int) (fun _ _ => rfl))))) pa_nil))))))))), fun B O => ?_⟩
  exact
      (ms_seq (ms_asg (te_tup (ma_cons (te_call (mx_io 0 (mx_val te_c mx_nil))) (ma_cons (te_call (mx_io 0 (mx_val te_c mx_nil))) ma_nil))) (mg_tup (mgs_cons mg_name (mgs_cons mg_name mgs_nil))))
      (ms_seq (ms_asg (te_lst (ma_cons te_c (ma_cons te_c (ma_cons te_c (ma_cons te_c (ma_cons te_c (ma_cons te_c (ma_cons te_c (ma_cons te_c (ma_cons te_c (ma_cons te_c (ma_cons te_c (ma_cons te_c ma_nil))))))))))))) mg_name)
      (ms_seq (ms_if (mt_test (te_op l_eqR (te_rd 2) te_c))
         (ms_ret (te_cb l_sorted (ma_cons (te_slL (te_op l_addA (te_rd 4) (te_rd 4)) (mo_some (te_rd 3)) (mo_some (te_op l_addA (te_rd 3) (te_rd 1)))) ma_nil)))
         ms_next)
      (ms_seq (ms_if (mt_test (te_op l_eqR (te_rd 2) te_c))
         (ms_ret (te_slL (te_lst (ma_cons te_c (ma_cons te_c (ma_cons te_c (ma_cons te_c (ma_cons te_c (ma_cons te_c (ma_cons te_c (ma_cons te_c ma_nil))))))))) mo_none (mo_some (te_rd 1))))
         ms_next)
      (ms_seq (ms_asg (te_slS te_c mo_none (mo_some (te_call (mx_io 0 (mx_val te_c mx_nil))))) mg_name)
      (ms_ret (te_cb l_sorted (ma_cons (te_lc (mi_rng1 (ma_cons (te_rd 1) ma_nil)) mg_name gw_name gm_name mt_yes (te_op l_addA (te_rd 5) (te_op l_ix te_c (te_op l_mod (te_cb l_int1 (ma_cons (te_op l_addA (te_op l_mulA te_c (te_rd 3)) (te_op l_mulA te_c (te_rd 6))) ma_nil)) te_c))) (np1 rfl)) ma_nil))))))))
theorem ok_l_round {f : Addr} {fd : FuncData} (F : Fun K "_law_round" "_law_round" (top 38) f fd) (T : TN mg)
    {f37 : Addr} {d37 : FuncData} (D37 : D1 K mg "_law_row_from" (top 37) ["_law_bag_here", "_law_kinds_here", "_law_here", "_law_upto"] f37 d37) (G37 : HK.FnG P w K mg base CX0 3 f37 d37 ["_law_bag_here", "_law_kinds_here", "_law_here", "_law_upto"] (spF P w 4 [true, false, false, false] F_l_row_from))
    {f35 : Addr} {d35 : FuncData} (D35 : D1 K mg "_law_end" (top 35) ["_law_step"] f35 d35) (G35 : HK.FnG P w K mg base CX0 1 f35 d35 ["_law_step"] (spF P w 1 [false] F_l_end))
    {f36 : Addr} {d36 : FuncData} (D36 : D1 K mg "_law_step_on" (top 36) ["_law_bag_here", "_law_here", "_law_there"] f36 d36) (G36 : HK.FnG P w K mg base CX0 2 f36 d36 ["_law_bag_here", "_law_here", "_law_there"] (spF P w 3 [true, false, false] F_l_step_on)) :
    HK.FnG P w K mg base CX0 4 f fd ["_law_bag_here", "_law_kinds_here", "_law_here", "_law_upto"] (spF P w 4 [true, false, false, false] F_l_round) := by
  have sc : FnScope ["_law_bag_here", "_law_kinds_here", "_law_here", "_law_upto", "_law_found"] ["_law_bag_here", "_law_kinds_here", "_law_here", "_law_upto"] (defScope (top 38)) := ⟨rfl, rfl, rfl, by decide +kernel, rfl, by decide +kernel, by decide +kernel⟩
  refine okF (N := ["_law_bag_here", "_law_kinds_here", "_law_here", "_law_upto", "_law_found"]) (ps := ["_law_bag_here", "_law_kinds_here", "_law_here", "_law_upto"]) (b := b_l_round) F sc (by decide) fun cdv A outer s H vs E hq hr => ?_
  have nd := sc.nd
  refine ⟨_,
      (pss_cons (ps_set (i := 4) nd rfl (Or.inl rfl) (HK.pe_callG (E := E0) G37 hq (hr.mono (by decide)) rfl D37.g D37.F.kp D37.b pass0 (pa_cons (pv 0) (pa_cons (pv 1) (pa_cons (pv 2) (pa_cons (pv 3) pa_nil))))))
      (pss_cons (ps_if (pt_cmpR (show OpR _ _ (rNeA K) from op_neA hr.units) (HK.pe_callG (E := E0) G35 hq (hr.mono (by decide)) rfl D35.g D35.F.kp D35.b pass0 (pa_cons (pe_ix (show IxR _ (rIx K) from ix_seq) (pv 4) (pe_un un_neg pe_int) (fun _ _ => rfl)) pa_nil)) (pv 2) (nomark _))
        (pss_one (ps_expr (pe_bm PySem.F.plainAttrs_list PySem.F.slot_list_append PySem.F.type_list_append mt_append (pv 4) (pa_cons (HK.pe_callG (E := E0) G36 hq (hr.mono (by decide)) rfl D36.g D36.F.kp D36.b pass0 (pa_cons (pv 0) (pa_cons (HK.pe_callG (E := E0) G35 hq (hr.mono (by decide)) rfl D35.g D35.F.kp D35.b pass0 (pa_cons (pe_ix (show IxR _ (rIx K) from ix_seq) (pv 4) (pe_un un_neg pe_int) (fun _ _ => rfl)) pa_nil)) (pa_cons (pv 2) pa_nil)))) pa_nil))))
         pss_nil)
      (pss_one (ps_ret (pv 4))))), fun B O => ?_⟩
  exact
      (ms_seq (ms_asg (te_call (mx_io 0 (mx_val (te_rd 1) (mx_val (te_rd 2) (mx_val (te_rd 3) mx_nil))))) mg_name)
      (ms_seq (ms_if (mt_test (te_op l_neR (te_call (mx_val (te_opB l_ixb 4 (te_un l_neg te_c)) mx_nil)) (te_rd 2)))
         (ms_drop (te_mut lm_append 4 (ma_cons (te_call (mx_io 0 (mx_val (te_call (mx_val (te_opB l_ixb 4 (te_un l_neg te_c)) mx_nil)) (mx_val (te_rd 2) mx_nil)))) ma_nil)))
         ms_next)
      (ms_ret (te_mv 4))))
end
end FL18

namespace FL18
open PySem PySem.Spec PyProof.Rows L2 FL
section
variable {P : Program} {w : World} {K : PySem.W.Frag} {mg : Str → Option Value} {base : Heap}
theorem ok_n_about {f : Addr} {fd : FuncData} (F : Fun K "about" "about" (top 12) f fd) (T : TN mg)
    {f8 : Addr} {d8 : FuncData} (D8 : D1 K mg "has_two_steps" (top 8) ["cart"] f8 d8) (G8 : HK.FnG P w K mg base CX0 1 f8 d8 ["cart"] (spF P w 1 [false] F_has_two_steps)) :
    HK.FnG P w K mg base CX0 2 f fd ["step"] (spF P w 1 [false] F_n_about) := by
  have sc : FnScope ["step", "cart", "turned"] ["step"] (defScope (top 12)) := ⟨rfl, rfl, rfl, by decide +kernel, rfl, by decide +kernel, by decide +kernel⟩
  refine okF (N := ["step", "cart", "turned"]) (ps := ["step"]) (b := b_n_about) F sc (by decide) fun cdv A outer s H vs E hq hr => ?_
  have nd := sc.nd
  refine ⟨_,
      (pss_cons (ps_asg (pv 0) (pg_tup (by rfl) (pgs_cons (pg_name (i := 1) nd rfl (Or.inl rfl)) (pgs_cons (pg_name (i := 2) nd rfl (Or.inl rfl)) pgs_nil))))
      (pss_cons (ps_if (pt_not (pt_val (pe_ix (show IxR _ (rIx K) from ix_seq) (pv 1) pe_int (fun _ _ => rfl))))
        (pss_one ps_nev)
         pss_nil)
      (pss_one (ps_ret (pe_ifExp (pt_val (HK.pe_callG (E := E0) G8 hq (hr.mono (by decide)) rfl D8.g D8.F.kp D8.b pass0 (pa_cons (pv 1) pa_nil))) (pe_tup (pa_cons (pv 1) (pa_cons (pe_not (pv 2)) pa_nil))) (pe_tup (pa_cons (pv 1) (pa_cons (pv 2) pa_nil)))))))), fun B O => ?_⟩
  exact
      (ms_seq (ms_asg (te_rd 0) (mg_tup (mgs_cons mg_name (mgs_cons mg_name mgs_nil))))
      (ms_seq (ms_if (mt_not (mt_val (te_opB l_ixb 1 te_c)))
         ms_nev
         ms_next)
      (ms_ret (te_if (mt_val (te_call (mx_val (te_rd 1) mx_nil))) (te_tup (ma_cons (te_rd 1) (ma_cons (te_not (te_rd 2)) ma_nil))) (te_tup (ma_cons (te_rd 1) (ma_cons (te_rd 2) ma_nil)))))))
theorem ok__parts_couple {f : Addr} {fd : FuncData} (F : Fun K "_parts_couple" "_parts_couple" (top 20) f fd) (T : TN mg)
    {f13 : Addr} {d13 : FuncData} (D13 : D1 K mg "couple" (top 13) ["step", "other"] f13 d13) (G13 : HK.FnG P w K mg base CX0 2 f13 d13 ["step", "other"] (spF P w 2 [false, false] F_couple)) :
    HK.FnG P w K mg base CX0 3 f fd ["part", "other"] (spF P w 2 [false, false] F__parts_couple) := by
  have sc : FnScope ["part", "other"] ["part", "other"] (defScope (top 20)) := ⟨rfl, rfl, rfl, by decide +kernel, rfl, by decide +kernel, by decide +kernel⟩
  refine okF (N := ["part", "other"]) (ps := ["part", "other"]) (b := b__parts_couple) F sc (by decide) fun cdv A outer s H vs E hq hr => ?_
  have nd := sc.nd
  refine ⟨_,
      (pss_one (ps_ret (HK.pe_callG (E := E0) G13 hq (hr.mono (by decide)) rfl D13.g D13.F.kp D13.b pass0 (pa_cons (pe_ix (show IxR _ (rIx K) from ix_seq) (pe_ix (show IxR _ (rIx K) from ix_seq) (pv 0) pe_int (fun _ _ => rfl)) (pe_un un_neg pe_int) (fun _ _ => rfl)) (pa_cons (pe_ix (show IxR _ (rIx K) from ix_seq) (pe_ix (show IxR _ (rIx K) from ix_seq) (pv 1) pe_int (fun _ _ => rfl)) pe_int (fun _ _ => rfl)) pa_nil))))), fun B O => ?_⟩
  exact
      (ms_ret (te_call (mx_val (te_op l_ix (te_opB l_ixb 0 te_c) (te_un l_neg te_c)) (mx_val (te_op l_ix (te_opB l_ixb 1 te_c) te_c) mx_nil))))
theorem ok_joined {f : Addr} {fd : FuncData} (F : Fun K "joined" "joined" (top 26) f fd) (T : TN mg)
    {f20 : Addr} {d20 : FuncData} (D20 : D1 K mg "_parts_couple" (top 20) ["part", "other"] f20 d20) (G20 : HK.FnG P w K mg base CX0 3 f20 d20 ["part", "other"] (spF P w 2 [false, false] F__parts_couple)) :
    HK.FnG P w K mg base CX0 4 f fd ["one", "other"] (spF P w 2 [false, false] F_joined) := by
  have sc : FnScope ["one", "other", "many", "row"] ["one", "other"] (defScope (top 26)) := ⟨rfl, rfl, rfl, by decide +kernel, rfl, by decide +kernel, by decide +kernel⟩
  refine okF (N := ["one", "other", "many", "row"]) (ps := ["one", "other"]) (b := b_joined) F sc (by decide) fun cdv A outer s H vs E hq hr => ?_
  have nd := sc.nd
  refine ⟨_,
      (pss_cons (ps_if (pt_not (pt_val (HK.pe_callG (E := E0) G20 hq (hr.mono (by decide)) rfl D20.g D20.F.kp D20.b pass0 (pa_cons (pe_ix (show IxR _ (rIx K) from ix_seq) (pv 0) (pe_un un_neg pe_int) (fun _ _ => rfl)) (pa_cons (pe_ix (show IxR _ (rIx K) from ix_seq) (pv 1) pe_int (fun _ _ => rfl)) pa_nil)))))
        (pss_one ps_nev)
         pss_nil)
      (pss_one (ps_ret (pe_lc (own := [("many", 2), ("row", 3)]) (g := (gTup K 2 (gCons (gName 2) (gCons (gName 3) gNil)))) (tt := tYes) rfl nd (pi_list (pe_lst (StX.pa_star (pv 0) (StX.pa_star (pv 1) pa_nil)))) (blkOk_by (N := ["one", "other", "many", "row"]) (sc := defScope (top 26)) (by decide +kernel)) (fun _ _ _ _ _ => (pg_tup (by rfl) (pgs_cons (pg_name (i := 2) nd rfl (Or.inl rfl)) (pgs_cons (pg_name (i := 3) nd rfl (Or.inl rfl)) pgs_nil)))) (fun _ _ _ _ _ => pts_nil) (fun _ _ _ _ _ => (pe_tup (pa_cons (pv 2) (pa_cons (pe_callTy (show CallR _ _ (rListOf K) from cr_listOf) (by rfl) T.n_list (by decide +kernel) (pa_cons (pv 3) pa_nil)) pa_nil)))))))), fun B O => ?_⟩
  exact
      (ms_seq (ms_if (mt_not (mt_val (te_call (mx_val (te_opB l_ixb 0 (te_un l_neg te_c)) (mx_val (te_opB l_ixb 1 te_c) mx_nil)))))
         ms_nev
         ms_next)
      (ms_ret (te_lc (mi_list (te_lst (ma_star (te_rd 0) (ma_star (te_rd 1) ma_nil)))) (mg_tup (mgs_cons mg_name (mgs_cons mg_name mgs_nil))) (gw_tup (gw_cons gw_name gm_name (gw_cons gw_name gm_name gw_nil))) (gm_tup (gm_cons gm_name (gm_cons gm_name gm_nil))) mt_yes (te_tup (ma_cons (te_rd 2) (ma_cons (te_cb l_listR (ma_cons (te_rd 3) ma_nil)) ma_nil))) (np2 rfl rfl))))
theorem ok_l_number {f : Addr} {fd : FuncData} (F : Fun K "_law_number" "_law_number" (top 33) f fd) (T : TN mg)
    {f30 : Addr} {d30 : FuncData} (D30 : D1 K mg "_law_take" (top 30) ["_law_bag_here", "_law_many"] f30 d30) (G30 : HK.FnG P w K mg base CX0 1 f30 d30 ["_law_bag_here", "_law_many"] (spF P w 2 [true, false] F_l_take)) :
    HK.FnG P w K mg base CX0 2 f fd ["_law_bag_here"] (spF P w 1 [true] F_l_number) := by
  have sc : FnScope ["_law_bag_here", "_law_way"] ["_law_bag_here"] (defScope (top 33)) := ⟨rfl, rfl, rfl, by decide +kernel, rfl, by decide +kernel, by decide +kernel⟩
  refine okF (N := ["_law_bag_here", "_law_way"]) (ps := ["_law_bag_here"]) (b := b_l_number) F sc (by decide) fun cdv A outer s H vs E hq hr => ?_
  have nd := sc.nd
  refine ⟨_,
      (pss_cons (ps_set (i := 1) nd rfl (Or.inl rfl) (HK.pe_callG (E := E0) G30 hq (hr.mono (by decide)) rfl D30.g D30.F.kp D30.b pass0 (pa_cons (pv 0) (pa_cons pe_int pa_nil))))
      (pss_cons (ps_if (pt_cmpR (opR_or op_lt op_lt_str) (pv 1) pe_int (nomark _))
        (pss_one (ps_ret (pe_op (opR_or op_add (opR_or op_add_str op_cat)) pe_int (HK.pe_callG (E := E0) G30 hq (hr.mono (by decide)) rfl D30.g D30.F.kp D30.b pass0 (pa_cons (pv 0) (pa_cons (pe_ix (show IxR _ (rIx K) from ix_seq) (pe_lst (pa_cons pe_int (pa_cons pe_int (pa_cons pe_int (pa_cons pe_int (pa_cons pe_int (pa_cons pe_int pa_nil))))))) (pv 1) (fun _ _ => rfl)) pa_nil))))))
         pss_nil)
      (pss_one (ps_ret (pe_op (opR_or op_add (opR_or op_add_str op_cat)) (pe_ix (show IxR _ (rIx K) from ix_seq) (pe_lst (pa_cons (pe_op op_pow pe_int pe_int) (pa_cons (pe_op op_pow pe_int pe_int) (pa_cons (pe_op op_pow pe_int pe_int) (pa_cons (pe_op op_pow pe_int pe_int) pa_nil))))) (HK.pe_callG (E := E0) G30 hq (hr.mono (by decide)) rfl D30.g D30.F.kp D30.b pass0 (pa_cons (pv 0) (pa_cons pe_int pa_nil))) (fun _ _ => rfl)) (HK.pe_callG (E := E0) G30 hq (hr.mono (by decide)) rfl D30.g D30.F.kp D30.b pass0 (pa_cons (pv 0) (pa_cons pe_int pa_nil)))))))), fun B O => ?_⟩
  exact
      (ms_seq (ms_asg (te_call (mx_io 0 (mx_val te_c mx_nil))) mg_name)
      (ms_seq (ms_if (mt_test (te_op l_ltA (te_rd 1) te_c))
         (ms_ret (te_op l_addA te_c (te_call (mx_io 0 (mx_val (te_op l_ix (te_lst (ma_cons te_c (ma_cons te_c (ma_cons te_c (ma_cons te_c (ma_cons te_c (ma_cons te_c ma_nil))))))) (te_rd 1)) mx_nil)))))
         ms_next)
      (ms_ret (te_op l_addA (te_op l_ix (te_lst (ma_cons (te_op l_pow te_c te_c) (ma_cons (te_op l_pow te_c te_c) (ma_cons (te_op l_pow te_c te_c) (ma_cons (te_op l_pow te_c te_c) ma_nil))))) (te_call (mx_io 0 (mx_val te_c mx_nil)))) (te_call (mx_io 0 (mx_val te_c mx_nil)))))))
theorem ok_l_train {f : Addr} {fd : FuncData} (F : Fun K "_law_train" "_law_train" (top 39) f fd) (T : TN mg)
    {f31 : Addr} {d31 : FuncData} (D31 : D1 K mg "_law_one" (top 31) ["_law_bag_here", "_law_things"] f31 d31) (G31 : HK.FnG P w K mg base CX0 2 f31 d31 ["_law_bag_here", "_law_things"] (spF P w 2 [true, false] F_l_one))
    {f30 : Addr} {d30 : FuncData} (D30 : D1 K mg "_law_take" (top 30) ["_law_bag_here", "_law_many"] f30 d30) (G30 : HK.FnG P w K mg base CX0 1 f30 d30 ["_law_bag_here", "_law_many"] (spF P w 2 [true, false] F_l_take))
    {f38 : Addr} {d38 : FuncData} (D38 : D1 K mg "_law_round" (top 38) ["_law_bag_here", "_law_kinds_here", "_law_here", "_law_upto"] f38 d38) (G38 : HK.FnG P w K mg base CX0 4 f38 d38 ["_law_bag_here", "_law_kinds_here", "_law_here", "_law_upto"] (spF P w 4 [true, false, false, false] F_l_round))
    {f33 : Addr} {d33 : FuncData} (D33 : D1 K mg "_law_number" (top 33) ["_law_bag_here"] f33 d33) (G33 : HK.FnG P w K mg base CX0 2 f33 d33 ["_law_bag_here"] (spF P w 1 [true] F_l_number))
    {f37 : Addr} {d37 : FuncData} (D37 : D1 K mg "_law_row_from" (top 37) ["_law_bag_here", "_law_kinds_here", "_law_here", "_law_upto"] f37 d37) (G37 : HK.FnG P w K mg base CX0 3 f37 d37 ["_law_bag_here", "_law_kinds_here", "_law_here", "_law_upto"] (spF P w 4 [true, false, false, false] F_l_row_from))
    {f35 : Addr} {d35 : FuncData} (D35 : D1 K mg "_law_end" (top 35) ["_law_step"] f35 d35) (G35 : HK.FnG P w K mg base CX0 1 f35 d35 ["_law_step"] (spF P w 1 [false] F_l_end)) :
    HK.FnG P w K mg base CX0 5 f fd ["_law_bag_here", "_law_kinds_here", "_law_upto"] (spF P w 3 [true, false, false] F_l_train) := by
  have sc : FnScope ["_law_bag_here", "_law_kinds_here", "_law_upto", "_law_here", "_law_found", "_law_k"] ["_law_bag_here", "_law_kinds_here", "_law_upto"] (defScope (top 39)) := ⟨rfl, rfl, rfl, by decide +kernel, rfl, by decide +kernel, by decide +kernel⟩
  refine okF (N := ["_law_bag_here", "_law_kinds_here", "_law_upto", "_law_here", "_law_found", "_law_k"]) (ps := ["_law_bag_here", "_law_kinds_here", "_law_upto"]) (b := b_l_train) F sc (by decide) fun cdv A outer s H vs E hq hr => ?_
  have nd := sc.nd
  refine ⟨_,
      (pss_cons (ps_par (i := 3) (j := 4) (by rfl) nd rfl rfl (by decide) rfl rfl (pa_cons (HK.pe_callG (E := E0) G31 hq (hr.mono (by decide)) rfl D31.g D31.F.kp D31.b pass0 (pa_cons (pv 0) (pa_cons (pv 1) pa_nil))) (pa_cons (pe_lst pa_nil) pa_nil)) (by rfl))
      (pss_cons (ps_for PassesOwn.never rfl (pi_range1 (by rfl) T.n_range (pa_cons (pe_op (opR_or op_add (opR_or op_add_str op_cat)) pe_int (HK.pe_callG (E := E0) G30 hq (hr.mono (by decide)) rfl D30.g D30.F.kp D30.b pass0 (pa_cons (pv 0) (pa_cons (pv 2) pa_nil)))) pa_nil)) (pg_name (i := 5) nd rfl (Or.inl rfl))
        (pss_one (ps_if (pt_cmpR (show OpR _ _ (rEqA K) from op_eqA hr.units) (HK.pe_callG (E := E0) G30 hq (hr.mono (by decide)) rfl D30.g D30.F.kp D30.b pass0 (pa_cons (pv 0) (pa_cons pe_int pa_nil))) pe_int (nomark _))
          (pss_one (ps_expr (pe_bm PySem.F.plainAttrs_list PySem.F.slot_list_append PySem.F.type_list_append mt_append (pv 4) (pa_cons (pe_tup (pa_cons (HK.pe_callG (E := E0) G33 hq (hr.mono (by decide)) rfl D33.g D33.F.kp D33.b pass0 (pa_cons (pv 0) pa_nil)) (pa_cons (HK.pe_callG (E := E0) G38 hq (hr.mono (by decide)) rfl D38.g D38.F.kp D38.b pass0 (pa_cons (pv 0) (pa_cons (pv 1) (pa_cons (pv 3) (pa_cons pe_int pa_nil))))) pa_nil))) pa_nil))))
                     (pss_cons (ps_expr (pe_bm PySem.F.plainAttrs_list PySem.F.slot_list_append PySem.F.type_list_append mt_append (pv 4) (pa_cons (pe_tup (pa_cons pe_int (pa_cons (HK.pe_callG (E := E0) G37 hq (hr.mono (by decide)) rfl D37.g D37.F.kp D37.b pass0 (pa_cons (pv 0) (pa_cons (pv 1) (pa_cons (pv 3) (pa_cons pe_int pa_nil))))) pa_nil))) pa_nil)))
          (pss_one (ps_set (i := 3) nd rfl (Or.inl rfl) (HK.pe_callG (E := E0) G35 hq (hr.mono (by decide)) rfl D35.g D35.F.kp D35.b pass0 (pa_cons (pe_ix (show IxR _ (rIx K) from ix_seq) (pe_ix (show IxR _ (rIx K) from ix_seq) (pe_ix (show IxR _ (rIx K) from ix_seq) (pv 4) (pe_un un_neg pe_int) (fun _ _ => rfl)) pe_int (fun _ _ => rfl)) (pe_un un_neg pe_int) (fun _ _ => rfl)) pa_nil))))))))
      (pss_one (ps_ret (pv 4))))), fun B O => ?_⟩
  exact
      (ms_seq (ms_par (ma_cons (te_call (mx_io 0 (mx_val (te_rd 1) mx_nil))) (ma_cons (te_lst ma_nil) ma_nil)))
      (ms_seq (ms_for (mi_rng1 (ma_cons (te_op l_addA te_c (te_call (mx_io 0 (mx_val (te_rd 2) mx_nil)))) ma_nil)) mg_name
         (ms_if (mt_test (te_op l_eqR (te_call (mx_io 0 (mx_val te_c mx_nil))) te_c))
           (ms_drop (te_mut lm_appendF 4 (ma_cons (te_tup (ma_cons (te_call (mx_io 0 mx_nil)) (ma_cons (te_call (mx_io 0 (mx_val (te_rd 1) (mx_val (te_rd 3) (mx_val te_c mx_nil))))) ma_nil))) ma_nil)))
           (ms_seq (ms_drop (te_mut lm_appendF 4 (ma_cons (te_tup (ma_cons te_c (ma_cons (te_call (mx_io 0 (mx_val (te_rd 1) (mx_val (te_rd 3) (mx_val te_c mx_nil))))) ma_nil))) ma_nil)))
          (ms_asg (te_call (mx_val (te_op l_ix (te_op l_ix (te_opB l_ixb 4 (te_un l_neg te_c)) te_c) (te_un l_neg te_c)) mx_nil)) mg_name))))
      (ms_ret (te_mv 4))))
end
end FL18

namespace FL18
open PySem PySem.Spec PyProof.Rows L2 FL
theorem all_mk {P : Program} {w : World} {K : PySem.W.Frag} {h : Heap} {mg : Str → Option Value} {fa : Addr} {f6 f7 f8 f10 f11 f12 f13 f15 f16 f17 f18 f20 f21 f22 f23 f24 f25 f26 f27 f29 f30 f31 f32 f33 f34 f35 f36 f37 f38 f39 f40 f41 f42 : Addr}
    {od6 an6 : Option Addr} {sl6 : Array (Option Value)} {oc6 kV6 dc6 pm6 cd6 ct6 : Value}
    {od7 an7 : Option Addr} {sl7 : Array (Option Value)} {oc7 kV7 dc7 pm7 cd7 ct7 : Value}
    {od8 an8 : Option Addr} {sl8 : Array (Option Value)} {oc8 kV8 dc8 pm8 cd8 ct8 : Value}
    {od10 an10 : Option Addr} {sl10 : Array (Option Value)} {oc10 kV10 dc10 pm10 cd10 ct10 : Value}
    {od11 an11 : Option Addr} {sl11 : Array (Option Value)} {oc11 kV11 dc11 pm11 cd11 ct11 : Value}
    {od12 an12 : Option Addr} {sl12 : Array (Option Value)} {oc12 kV12 dc12 pm12 cd12 ct12 : Value}
    {od13 an13 : Option Addr} {sl13 : Array (Option Value)} {oc13 kV13 dc13 pm13 cd13 ct13 : Value}
    {od15 an15 : Option Addr} {sl15 : Array (Option Value)} {oc15 kV15 dc15 pm15 cd15 ct15 : Value}
    {od16 an16 : Option Addr} {sl16 : Array (Option Value)} {oc16 kV16 dc16 pm16 cd16 ct16 : Value}
    {od17 an17 : Option Addr} {sl17 : Array (Option Value)} {oc17 kV17 dc17 pm17 cd17 ct17 : Value}
    {od18 an18 : Option Addr} {sl18 : Array (Option Value)} {oc18 kV18 dc18 pm18 cd18 ct18 : Value}
    {od20 an20 : Option Addr} {sl20 : Array (Option Value)} {oc20 kV20 dc20 pm20 cd20 ct20 : Value}
    {od21 an21 : Option Addr} {sl21 : Array (Option Value)} {oc21 kV21 dc21 pm21 cd21 ct21 : Value}
    {od22 an22 : Option Addr} {sl22 : Array (Option Value)} {oc22 kV22 dc22 pm22 cd22 ct22 : Value}
    {od23 an23 : Option Addr} {sl23 : Array (Option Value)} {oc23 kV23 dc23 pm23 cd23 ct23 : Value}
    {od24 an24 : Option Addr} {sl24 : Array (Option Value)} {oc24 kV24 dc24 pm24 cd24 ct24 : Value}
    {od25 an25 : Option Addr} {sl25 : Array (Option Value)} {oc25 kV25 dc25 pm25 cd25 ct25 : Value}
    {od26 an26 : Option Addr} {sl26 : Array (Option Value)} {oc26 kV26 dc26 pm26 cd26 ct26 : Value}
    {od27 an27 : Option Addr} {sl27 : Array (Option Value)} {oc27 kV27 dc27 pm27 cd27 ct27 : Value}
    {od29 an29 : Option Addr} {sl29 : Array (Option Value)} {oc29 kV29 dc29 pm29 cd29 ct29 : Value}
    {od30 an30 : Option Addr} {sl30 : Array (Option Value)} {oc30 kV30 dc30 pm30 cd30 ct30 : Value}
    {od31 an31 : Option Addr} {sl31 : Array (Option Value)} {oc31 kV31 dc31 pm31 cd31 ct31 : Value}
    {od32 an32 : Option Addr} {sl32 : Array (Option Value)} {oc32 kV32 dc32 pm32 cd32 ct32 : Value}
    {od33 an33 : Option Addr} {sl33 : Array (Option Value)} {oc33 kV33 dc33 pm33 cd33 ct33 : Value}
    {od34 an34 : Option Addr} {sl34 : Array (Option Value)} {oc34 kV34 dc34 pm34 cd34 ct34 : Value}
    {od35 an35 : Option Addr} {sl35 : Array (Option Value)} {oc35 kV35 dc35 pm35 cd35 ct35 : Value}
    {od36 an36 : Option Addr} {sl36 : Array (Option Value)} {oc36 kV36 dc36 pm36 cd36 ct36 : Value}
    {od37 an37 : Option Addr} {sl37 : Array (Option Value)} {oc37 kV37 dc37 pm37 cd37 ct37 : Value}
    {od38 an38 : Option Addr} {sl38 : Array (Option Value)} {oc38 kV38 dc38 pm38 cd38 ct38 : Value}
    {od39 an39 : Option Addr} {sl39 : Array (Option Value)} {oc39 kV39 dc39 pm39 cd39 ct39 : Value}
    {od40 an40 : Option Addr} {sl40 : Array (Option Value)} {oc40 kV40 dc40 pm40 cd40 ct40 : Value}
    {od41 an41 : Option Addr} {sl41 : Array (Option Value)} {oc41 kV41 dc41 pm41 cd41 ct41 : Value}
    {od42 an42 : Option Addr} {sl42 : Array (Option Value)} {oc42 kV42 dc42 pm42 cd42 ct42 : Value}
    (X : K.In h) (G : h.Ns mainGlobals mg) (hfa : mg "law" = some (.ref fa))
    (a6 : PySem.W.nsIn K mainGlobals "is_integer" = some (some (.ref f6)))
    (l6 : K.lookup f6 = some ⟨oc6, od6, .func (PySem.W.fnOf "is_integer" "is_integer" (defArgs (top 6)) (defBody (top 6)) (defScope (top 6)) .none kV6 dc6 pm6 an6 cd6 ct6), sl6⟩)
    (c6 : PySem.W.codeIn K cd6 "is_integer" = true)
    (k6 : PySem.W.keepIn K (.ref f6) = true)
    (a7 : PySem.W.nsIn K mainGlobals "is_number" = some (some (.ref f7)))
    (l7 : K.lookup f7 = some ⟨oc7, od7, .func (PySem.W.fnOf "is_number" "is_number" (defArgs (top 7)) (defBody (top 7)) (defScope (top 7)) .none kV7 dc7 pm7 an7 cd7 ct7), sl7⟩)
    (c7 : PySem.W.codeIn K cd7 "is_number" = true)
    (k7 : PySem.W.keepIn K (.ref f7) = true)
    (a8 : PySem.W.nsIn K mainGlobals "has_two_steps" = some (some (.ref f8)))
    (l8 : K.lookup f8 = some ⟨oc8, od8, .func (PySem.W.fnOf "has_two_steps" "has_two_steps" (defArgs (top 8)) (defBody (top 8)) (defScope (top 8)) .none kV8 dc8 pm8 an8 cd8 ct8), sl8⟩)
    (c8 : PySem.W.codeIn K cd8 "has_two_steps" = true)
    (k8 : PySem.W.keepIn K (.ref f8) = true)
    (a10 : PySem.W.nsIn K mainGlobals "begin_of" = some (some (.ref f10)))
    (l10 : K.lookup f10 = some ⟨oc10, od10, .func (PySem.W.fnOf "begin_of" "begin_of" (defArgs (top 10)) (defBody (top 10)) (defScope (top 10)) .none kV10 dc10 pm10 an10 cd10 ct10), sl10⟩)
    (c10 : PySem.W.codeIn K cd10 "begin_of" = true)
    (k10 : PySem.W.keepIn K (.ref f10) = true)
    (a11 : PySem.W.nsIn K mainGlobals "end_of" = some (some (.ref f11)))
    (l11 : K.lookup f11 = some ⟨oc11, od11, .func (PySem.W.fnOf "end_of" "end_of" (defArgs (top 11)) (defBody (top 11)) (defScope (top 11)) .none kV11 dc11 pm11 an11 cd11 ct11), sl11⟩)
    (c11 : PySem.W.codeIn K cd11 "end_of" = true)
    (k11 : PySem.W.keepIn K (.ref f11) = true)
    (a12 : PySem.W.nsIn K mainGlobals "about" = some (some (.ref f12)))
    (l12 : K.lookup f12 = some ⟨oc12, od12, .func (PySem.W.fnOf "about" "about" (defArgs (top 12)) (defBody (top 12)) (defScope (top 12)) .none kV12 dc12 pm12 an12 cd12 ct12), sl12⟩)
    (c12 : PySem.W.codeIn K cd12 "about" = true)
    (k12 : PySem.W.keepIn K (.ref f12) = true)
    (a13 : PySem.W.nsIn K mainGlobals "couple" = some (some (.ref f13)))
    (l13 : K.lookup f13 = some ⟨oc13, od13, .func (PySem.W.fnOf "couple" "couple" (defArgs (top 13)) (defBody (top 13)) (defScope (top 13)) .none kV13 dc13 pm13 an13 cd13 ct13), sl13⟩)
    (c13 : PySem.W.codeIn K cd13 "couple" = true)
    (k13 : PySem.W.keepIn K (.ref f13) = true)
    (a15 : PySem.W.nsIn K mainGlobals "row_ends" = some (some (.ref f15)))
    (l15 : K.lookup f15 = some ⟨oc15, od15, .func (PySem.W.fnOf "row_ends" "row_ends" (defArgs (top 15)) (defBody (top 15)) (defScope (top 15)) .none kV15 dc15 pm15 an15 cd15 ct15), sl15⟩)
    (c15 : PySem.W.codeIn K cd15 "row_ends" = true)
    (k15 : PySem.W.keepIn K (.ref f15) = true)
    (a16 : PySem.W.nsIn K mainGlobals "carts_in" = some (some (.ref f16)))
    (l16 : K.lookup f16 = some ⟨oc16, od16, .func (PySem.W.fnOf "carts_in" "carts_in" (defArgs (top 16)) (defBody (top 16)) (defScope (top 16)) .none kV16 dc16 pm16 an16 cd16 ct16), sl16⟩)
    (c16 : PySem.W.codeIn K cd16 "carts_in" = true)
    (k16 : PySem.W.keepIn K (.ref f16) = true)
    (a17 : PySem.W.nsIn K mainGlobals "first_fixed" = some (some (.ref f17)))
    (l17 : K.lookup f17 = some ⟨oc17, od17, .func (PySem.W.fnOf "first_fixed" "first_fixed" (defArgs (top 17)) (defBody (top 17)) (defScope (top 17)) .none kV17 dc17 pm17 an17 cd17 ct17), sl17⟩)
    (c17 : PySem.W.codeIn K cd17 "first_fixed" = true)
    (k17 : PySem.W.keepIn K (.ref f17) = true)
    (a18 : PySem.W.nsIn K mainGlobals "row_about" = some (some (.ref f18)))
    (l18 : K.lookup f18 = some ⟨oc18, od18, .func (PySem.W.fnOf "row_about" "row_about" (defArgs (top 18)) (defBody (top 18)) (defScope (top 18)) .none kV18 dc18 pm18 an18 cd18 ct18), sl18⟩)
    (c18 : PySem.W.codeIn K cd18 "row_about" = true)
    (k18 : PySem.W.keepIn K (.ref f18) = true)
    (a20 : PySem.W.nsIn K mainGlobals "_parts_couple" = some (some (.ref f20)))
    (l20 : K.lookup f20 = some ⟨oc20, od20, .func (PySem.W.fnOf "_parts_couple" "_parts_couple" (defArgs (top 20)) (defBody (top 20)) (defScope (top 20)) .none kV20 dc20 pm20 an20 cd20 ct20), sl20⟩)
    (c20 : PySem.W.codeIn K cd20 "_parts_couple" = true)
    (k20 : PySem.W.keepIn K (.ref f20) = true)
    (a21 : PySem.W.nsIn K mainGlobals "train_ends" = some (some (.ref f21)))
    (l21 : K.lookup f21 = some ⟨oc21, od21, .func (PySem.W.fnOf "train_ends" "train_ends" (defArgs (top 21)) (defBody (top 21)) (defScope (top 21)) .none kV21 dc21 pm21 an21 cd21 ct21), sl21⟩)
    (c21 : PySem.W.codeIn K cd21 "train_ends" = true)
    (k21 : PySem.W.keepIn K (.ref f21) = true)
    (a22 : PySem.W.nsIn K mainGlobals "carts_of" = some (some (.ref f22)))
    (l22 : K.lookup f22 = some ⟨oc22, od22, .func (PySem.W.fnOf "carts_of" "carts_of" (defArgs (top 22)) (defBody (top 22)) (defScope (top 22)) .none kV22 dc22 pm22 an22 cd22 ct22), sl22⟩)
    (c22 : PySem.W.codeIn K cd22 "carts_of" = true)
    (k22 : PySem.W.keepIn K (.ref f22) = true)
    (a23 : PySem.W.nsIn K mainGlobals "length" = some (some (.ref f23)))
    (l23 : K.lookup f23 = some ⟨oc23, od23, .func (PySem.W.fnOf "length" "length" (defArgs (top 23)) (defBody (top 23)) (defScope (top 23)) .none kV23 dc23 pm23 an23 cd23 ct23), sl23⟩)
    (c23 : PySem.W.codeIn K cd23 "length" = true)
    (k23 : PySem.W.keepIn K (.ref f23) = true)
    (a24 : PySem.W.nsIn K mainGlobals "step_at" = some (some (.ref f24)))
    (l24 : K.lookup f24 = some ⟨oc24, od24, .func (PySem.W.fnOf "step_at" "step_at" (defArgs (top 24)) (defBody (top 24)) (defScope (top 24)) .none kV24 dc24 pm24 an24 cd24 ct24), sl24⟩)
    (c24 : PySem.W.codeIn K cd24 "step_at" = true)
    (k24 : PySem.W.keepIn K (.ref f24) = true)
    (a25 : PySem.W.nsIn K mainGlobals "stretch" = some (some (.ref f25)))
    (l25 : K.lookup f25 = some ⟨oc25, od25, .func (PySem.W.fnOf "stretch" "stretch" (defArgs (top 25)) (defBody (top 25)) (defScope (top 25)) .none kV25 dc25 pm25 an25 cd25 ct25), sl25⟩)
    (c25 : PySem.W.codeIn K cd25 "stretch" = true)
    (k25 : PySem.W.keepIn K (.ref f25) = true)
    (a26 : PySem.W.nsIn K mainGlobals "joined" = some (some (.ref f26)))
    (l26 : K.lookup f26 = some ⟨oc26, od26, .func (PySem.W.fnOf "joined" "joined" (defArgs (top 26)) (defBody (top 26)) (defScope (top 26)) .none kV26 dc26 pm26 an26 cd26 ct26), sl26⟩)
    (c26 : PySem.W.codeIn K cd26 "joined" = true)
    (k26 : PySem.W.keepIn K (.ref f26) = true)
    (a27 : PySem.W.nsIn K mainGlobals "train_about" = some (some (.ref f27)))
    (l27 : K.lookup f27 = some ⟨oc27, od27, .func (PySem.W.fnOf "train_about" "train_about" (defArgs (top 27)) (defBody (top 27)) (defScope (top 27)) .none kV27 dc27 pm27 an27 cd27 ct27), sl27⟩)
    (c27 : PySem.W.codeIn K cd27 "train_about" = true)
    (k27 : PySem.W.keepIn K (.ref f27) = true)
    (a29 : PySem.W.nsIn K mainGlobals "_law_bag" = some (some (.ref f29)))
    (l29 : K.lookup f29 = some ⟨oc29, od29, .func (PySem.W.fnOf "_law_bag" "_law_bag" (defArgs (top 29)) (defBody (top 29)) (defScope (top 29)) .none kV29 dc29 pm29 an29 cd29 ct29), sl29⟩)
    (c29 : PySem.W.codeIn K cd29 "_law_bag" = true)
    (k29 : PySem.W.keepIn K (.ref f29) = true)
    (a30 : PySem.W.nsIn K mainGlobals "_law_take" = some (some (.ref f30)))
    (l30 : K.lookup f30 = some ⟨oc30, od30, .func (PySem.W.fnOf "_law_take" "_law_take" (defArgs (top 30)) (defBody (top 30)) (defScope (top 30)) .none kV30 dc30 pm30 an30 cd30 ct30), sl30⟩)
    (c30 : PySem.W.codeIn K cd30 "_law_take" = true)
    (k30 : PySem.W.keepIn K (.ref f30) = true)
    (a31 : PySem.W.nsIn K mainGlobals "_law_one" = some (some (.ref f31)))
    (l31 : K.lookup f31 = some ⟨oc31, od31, .func (PySem.W.fnOf "_law_one" "_law_one" (defArgs (top 31)) (defBody (top 31)) (defScope (top 31)) .none kV31 dc31 pm31 an31 cd31 ct31), sl31⟩)
    (c31 : PySem.W.codeIn K cd31 "_law_one" = true)
    (k31 : PySem.W.keepIn K (.ref f31) = true)
    (a32 : PySem.W.nsIn K mainGlobals "_law_kinds" = some (some (.ref f32)))
    (l32 : K.lookup f32 = some ⟨oc32, od32, .func (PySem.W.fnOf "_law_kinds" "_law_kinds" (defArgs (top 32)) (defBody (top 32)) (defScope (top 32)) .none kV32 dc32 pm32 an32 cd32 ct32), sl32⟩)
    (c32 : PySem.W.codeIn K cd32 "_law_kinds" = true)
    (k32 : PySem.W.keepIn K (.ref f32) = true)
    (a33 : PySem.W.nsIn K mainGlobals "_law_number" = some (some (.ref f33)))
    (l33 : K.lookup f33 = some ⟨oc33, od33, .func (PySem.W.fnOf "_law_number" "_law_number" (defArgs (top 33)) (defBody (top 33)) (defScope (top 33)) .none kV33 dc33 pm33 an33 cd33 ct33), sl33⟩)
    (c33 : PySem.W.codeIn K cd33 "_law_number" = true)
    (k33 : PySem.W.keepIn K (.ref f33) = true)
    (a34 : PySem.W.nsIn K mainGlobals "_law_begin" = some (some (.ref f34)))
    (l34 : K.lookup f34 = some ⟨oc34, od34, .func (PySem.W.fnOf "_law_begin" "_law_begin" (defArgs (top 34)) (defBody (top 34)) (defScope (top 34)) .none kV34 dc34 pm34 an34 cd34 ct34), sl34⟩)
    (c34 : PySem.W.codeIn K cd34 "_law_begin" = true)
    (k34 : PySem.W.keepIn K (.ref f34) = true)
    (a35 : PySem.W.nsIn K mainGlobals "_law_end" = some (some (.ref f35)))
    (l35 : K.lookup f35 = some ⟨oc35, od35, .func (PySem.W.fnOf "_law_end" "_law_end" (defArgs (top 35)) (defBody (top 35)) (defScope (top 35)) .none kV35 dc35 pm35 an35 cd35 ct35), sl35⟩)
    (c35 : PySem.W.codeIn K cd35 "_law_end" = true)
    (k35 : PySem.W.keepIn K (.ref f35) = true)
    (a36 : PySem.W.nsIn K mainGlobals "_law_step_on" = some (some (.ref f36)))
    (l36 : K.lookup f36 = some ⟨oc36, od36, .func (PySem.W.fnOf "_law_step_on" "_law_step_on" (defArgs (top 36)) (defBody (top 36)) (defScope (top 36)) .none kV36 dc36 pm36 an36 cd36 ct36), sl36⟩)
    (c36 : PySem.W.codeIn K cd36 "_law_step_on" = true)
    (k36 : PySem.W.keepIn K (.ref f36) = true)
    (a37 : PySem.W.nsIn K mainGlobals "_law_row_from" = some (some (.ref f37)))
    (l37 : K.lookup f37 = some ⟨oc37, od37, .func (PySem.W.fnOf "_law_row_from" "_law_row_from" (defArgs (top 37)) (defBody (top 37)) (defScope (top 37)) .none kV37 dc37 pm37 an37 cd37 ct37), sl37⟩)
    (c37 : PySem.W.codeIn K cd37 "_law_row_from" = true)
    (k37 : PySem.W.keepIn K (.ref f37) = true)
    (a38 : PySem.W.nsIn K mainGlobals "_law_round" = some (some (.ref f38)))
    (l38 : K.lookup f38 = some ⟨oc38, od38, .func (PySem.W.fnOf "_law_round" "_law_round" (defArgs (top 38)) (defBody (top 38)) (defScope (top 38)) .none kV38 dc38 pm38 an38 cd38 ct38), sl38⟩)
    (c38 : PySem.W.codeIn K cd38 "_law_round" = true)
    (k38 : PySem.W.keepIn K (.ref f38) = true)
    (a39 : PySem.W.nsIn K mainGlobals "_law_train" = some (some (.ref f39)))
    (l39 : K.lookup f39 = some ⟨oc39, od39, .func (PySem.W.fnOf "_law_train" "_law_train" (defArgs (top 39)) (defBody (top 39)) (defScope (top 39)) .none kV39 dc39 pm39 an39 cd39 ct39), sl39⟩)
    (c39 : PySem.W.codeIn K cd39 "_law_train" = true)
    (k39 : PySem.W.keepIn K (.ref f39) = true)
    (a40 : PySem.W.nsIn K mainGlobals "_law_freed" = some (some (.ref f40)))
    (l40 : K.lookup f40 = some ⟨oc40, od40, .func (PySem.W.fnOf "_law_freed" "_law_freed" (defArgs (top 40)) (defBody (top 40)) (defScope (top 40)) .none kV40 dc40 pm40 an40 cd40 ct40), sl40⟩)
    (c40 : PySem.W.codeIn K cd40 "_law_freed" = true)
    (k40 : PySem.W.keepIn K (.ref f40) = true)
    (a41 : PySem.W.nsIn K mainGlobals "_law_same" = some (some (.ref f41)))
    (l41 : K.lookup f41 = some ⟨oc41, od41, .func (PySem.W.fnOf "_law_same" "_law_same" (defArgs (top 41)) (defBody (top 41)) (defScope (top 41)) .none kV41 dc41 pm41 an41 cd41 ct41), sl41⟩)
    (c41 : PySem.W.codeIn K cd41 "_law_same" = true)
    (k41 : PySem.W.keepIn K (.ref f41) = true)
    (a42 : PySem.W.nsIn K mainGlobals "law" = some (some (.ref f42)))
    (l42 : K.lookup f42 = some ⟨oc42, od42, .func (PySem.W.fnOf "law" "law" (defArgs (top 42)) (defBody (top 42)) (defScope (top 42)) .none kV42 dc42 pm42 an42 cd42 ct42), sl42⟩)
    (c42 : PySem.W.codeIn K cd42 "law" = true)
    (k42 : PySem.W.keepIn K (.ref f42) = true)
    (z_abs : PySem.W.nsIn K mainGlobals "abs" = some none)
    (z_all : PySem.W.nsIn K mainGlobals "all" = some none)
    (z_bool : PySem.W.nsIn K mainGlobals "bool" = some none)
    (z_dict : PySem.W.nsIn K mainGlobals "dict" = some none)
    (z_enumerate : PySem.W.nsIn K mainGlobals "enumerate" = some none)
    (z_int : PySem.W.nsIn K mainGlobals "int" = some none)
    (z_isinstance : PySem.W.nsIn K mainGlobals "isinstance" = some none)
    (z_len : PySem.W.nsIn K mainGlobals "len" = some none)
    (z_list : PySem.W.nsIn K mainGlobals "list" = some none)
    (z_max : PySem.W.nsIn K mainGlobals "max" = some none)
    (z_min : PySem.W.nsIn K mainGlobals "min" = some none)
    (z_range : PySem.W.nsIn K mainGlobals "range" = some none)
    (z_repr : PySem.W.nsIn K mainGlobals "repr" = some none)
    (z_sorted : PySem.W.nsIn K mainGlobals "sorted" = some none)
    (z_str : PySem.W.nsIn K mainGlobals "str" = some none)
    (z_sum : PySem.W.nsIn K mainGlobals "sum" = some none)
    (z_tuple : PySem.W.nsIn K mainGlobals "tuple" = some none)
    (z_zip : PySem.W.nsIn K mainGlobals "zip" = some none)
    (sm : K.lookup sysModules = none) :
    K.lookup sysModules = none ∧ ∃ fd : FuncData, (∀ (s : Shared) (v : Value), BindsTo s fd ⟨[v], []⟩ [("_law_script", v)]) ∧ ∀ base : Heap, K.In base → base.Ns mainGlobals mg → HK.FnG P w K mg base CX0 6 fa fd ["_law_script"] (spLaw K) := by
  have e := hfa.symm.trans (PySem.W.mg_of X G a42)
  cases e
  have N : ∀ {x : Str}, PySem.W.nsIn K mainGlobals x = some none → mg x = none := fun z => PySem.W.mg_none_of X G z
  have M : ∀ {x : Str} {v : Value}, PySem.W.nsIn K mainGlobals x = some (some v) → mg x = some v := fun z => PySem.W.mg_of X G z
  have T : TN mg := ⟨N z_abs, N z_all, N z_bool, N z_dict, N z_enumerate, N z_int, N z_isinstance, N z_len, N z_list, N z_max, N z_min, N z_range, N z_repr, N z_sorted, N z_str, N z_sum, N z_tuple, N z_zip⟩
  have F6 := fun_mk (st := top 6) l6 c6 k6
  have b6 := F6.binds (ps := ["thing"]) fun _ _ _ _ _ _ us hl => match us, hl with | [_], _ => rfl
  have D6 : D1 K mg "is_integer" (top 6) ["thing"] f6 _ := ⟨M a6, F6, b6⟩
  have F7 := fun_mk (st := top 7) l7 c7 k7
  have b7 := F7.binds (ps := ["least", "thing"]) fun _ _ _ _ _ _ us hl => match us, hl with | [_, _], _ => rfl
  have D7 : D1 K mg "is_number" (top 7) ["least", "thing"] f7 _ := ⟨M a7, F7, b7⟩
  have F8 := fun_mk (st := top 8) l8 c8 k8
  have b8 := F8.binds (ps := ["cart"]) fun _ _ _ _ _ _ us hl => match us, hl with | [_], _ => rfl
  have D8 : D1 K mg "has_two_steps" (top 8) ["cart"] f8 _ := ⟨M a8, F8, b8⟩
  have F10 := fun_mk (st := top 10) l10 c10 k10
  have b10 := F10.binds (ps := ["step"]) fun _ _ _ _ _ _ us hl => match us, hl with | [_], _ => rfl
  have D10 : D1 K mg "begin_of" (top 10) ["step"] f10 _ := ⟨M a10, F10, b10⟩
  have F11 := fun_mk (st := top 11) l11 c11 k11
  have b11 := F11.binds (ps := ["step"]) fun _ _ _ _ _ _ us hl => match us, hl with | [_], _ => rfl
  have D11 : D1 K mg "end_of" (top 11) ["step"] f11 _ := ⟨M a11, F11, b11⟩
  have F12 := fun_mk (st := top 12) l12 c12 k12
  have b12 := F12.binds (ps := ["step"]) fun _ _ _ _ _ _ us hl => match us, hl with | [_], _ => rfl
  have D12 : D1 K mg "about" (top 12) ["step"] f12 _ := ⟨M a12, F12, b12⟩
  have F13 := fun_mk (st := top 13) l13 c13 k13
  have b13 := F13.binds (ps := ["step", "other"]) fun _ _ _ _ _ _ us hl => match us, hl with | [_, _], _ => rfl
  have D13 : D1 K mg "couple" (top 13) ["step", "other"] f13 _ := ⟨M a13, F13, b13⟩
  have F15 := fun_mk (st := top 15) l15 c15 k15
  have b15 := F15.binds (ps := ["row"]) fun _ _ _ _ _ _ us hl => match us, hl with | [_], _ => rfl
  have D15 : D1 K mg "row_ends" (top 15) ["row"] f15 _ := ⟨M a15, F15, b15⟩
  have F16 := fun_mk (st := top 16) l16 c16 k16
  have b16 := F16.binds (ps := ["row"]) fun _ _ _ _ _ _ us hl => match us, hl with | [_], _ => rfl
  have D16 : D1 K mg "carts_in" (top 16) ["row"] f16 _ := ⟨M a16, F16, b16⟩
  have F17 := fun_mk (st := top 17) l17 c17 k17
  have b17 := F17.binds (ps := ["row"]) fun _ _ _ _ _ _ us hl => match us, hl with | [_], _ => rfl
  have D17 : D1 K mg "first_fixed" (top 17) ["row"] f17 _ := ⟨M a17, F17, b17⟩
  have F18 := fun_mk (st := top 18) l18 c18 k18
  have b18 := F18.binds (ps := ["row"]) fun _ _ _ _ _ _ us hl => match us, hl with | [_], _ => rfl
  have D18 : D1 K mg "row_about" (top 18) ["row"] f18 _ := ⟨M a18, F18, b18⟩
  have F20 := fun_mk (st := top 20) l20 c20 k20
  have b20 := F20.binds (ps := ["part", "other"]) fun _ _ _ _ _ _ us hl => match us, hl with | [_, _], _ => rfl
  have D20 : D1 K mg "_parts_couple" (top 20) ["part", "other"] f20 _ := ⟨M a20, F20, b20⟩
  have F21 := fun_mk (st := top 21) l21 c21 k21
  have b21 := F21.binds (ps := ["train"]) fun _ _ _ _ _ _ us hl => match us, hl with | [_], _ => rfl
  have D21 : D1 K mg "train_ends" (top 21) ["train"] f21 _ := ⟨M a21, F21, b21⟩
  have F22 := fun_mk (st := top 22) l22 c22 k22
  have b22 := F22.binds (ps := ["train"]) fun _ _ _ _ _ _ us hl => match us, hl with | [_], _ => rfl
  have D22 : D1 K mg "carts_of" (top 22) ["train"] f22 _ := ⟨M a22, F22, b22⟩
  have F23 := fun_mk (st := top 23) l23 c23 k23
  have b23 := F23.binds (ps := ["train"]) fun _ _ _ _ _ _ us hl => match us, hl with | [_], _ => rfl
  have D23 : D1 K mg "length" (top 23) ["train"] f23 _ := ⟨M a23, F23, b23⟩
  have F24 := fun_mk (st := top 24) l24 c24 k24
  have b24 := F24.binds (ps := ["train", "index"]) fun _ _ _ _ _ _ us hl => match us, hl with | [_, _], _ => rfl
  have D24 : D1 K mg "step_at" (top 24) ["train", "index"] f24 _ := ⟨M a24, F24, b24⟩
  have F25 := fun_mk (st := top 25) l25 c25 k25
  have b25 := F25.binds (ps := ["train", "first", "many"]) fun _ _ _ _ _ _ us hl => match us, hl with | [_, _, _], _ => rfl
  have D25 : D1 K mg "stretch" (top 25) ["train", "first", "many"] f25 _ := ⟨M a25, F25, b25⟩
  have F26 := fun_mk (st := top 26) l26 c26 k26
  have b26 := F26.binds (ps := ["one", "other"]) fun _ _ _ _ _ _ us hl => match us, hl with | [_, _], _ => rfl
  have D26 : D1 K mg "joined" (top 26) ["one", "other"] f26 _ := ⟨M a26, F26, b26⟩
  have F27 := fun_mk (st := top 27) l27 c27 k27
  have b27 := F27.binds (ps := ["train"]) fun _ _ _ _ _ _ us hl => match us, hl with | [_], _ => rfl
  have D27 : D1 K mg "train_about" (top 27) ["train"] f27 _ := ⟨M a27, F27, b27⟩
  have F29 := fun_mk (st := top 29) l29 c29 k29
  have b29 := F29.binds (ps := ["_law_script"]) fun _ _ _ _ _ _ us hl => match us, hl with | [_], _ => rfl
  have D29 : D1 K mg "_law_bag" (top 29) ["_law_script"] f29 _ := ⟨M a29, F29, b29⟩
  have F30 := fun_mk (st := top 30) l30 c30 k30
  have b30 := F30.binds (ps := ["_law_bag_here", "_law_many"]) fun _ _ _ _ _ _ us hl => match us, hl with | [_, _], _ => rfl
  have D30 : D1 K mg "_law_take" (top 30) ["_law_bag_here", "_law_many"] f30 _ := ⟨M a30, F30, b30⟩
  have F31 := fun_mk (st := top 31) l31 c31 k31
  have b31 := F31.binds (ps := ["_law_bag_here", "_law_things"]) fun _ _ _ _ _ _ us hl => match us, hl with | [_, _], _ => rfl
  have D31 : D1 K mg "_law_one" (top 31) ["_law_bag_here", "_law_things"] f31 _ := ⟨M a31, F31, b31⟩
  have F32 := fun_mk (st := top 32) l32 c32 k32
  have b32 := F32.binds (ps := ["_law_bag_here", "_law_many"]) fun _ _ _ _ _ _ us hl => match us, hl with | [_, _], _ => rfl
  have D32 : D1 K mg "_law_kinds" (top 32) ["_law_bag_here", "_law_many"] f32 _ := ⟨M a32, F32, b32⟩
  have F33 := fun_mk (st := top 33) l33 c33 k33
  have b33 := F33.binds (ps := ["_law_bag_here"]) fun _ _ _ _ _ _ us hl => match us, hl with | [_], _ => rfl
  have D33 : D1 K mg "_law_number" (top 33) ["_law_bag_here"] f33 _ := ⟨M a33, F33, b33⟩
  have F34 := fun_mk (st := top 34) l34 c34 k34
  have b34 := F34.binds (ps := ["_law_step"]) fun _ _ _ _ _ _ us hl => match us, hl with | [_], _ => rfl
  have D34 : D1 K mg "_law_begin" (top 34) ["_law_step"] f34 _ := ⟨M a34, F34, b34⟩
  have F35 := fun_mk (st := top 35) l35 c35 k35
  have b35 := F35.binds (ps := ["_law_step"]) fun _ _ _ _ _ _ us hl => match us, hl with | [_], _ => rfl
  have D35 : D1 K mg "_law_end" (top 35) ["_law_step"] f35 _ := ⟨M a35, F35, b35⟩
  have F36 := fun_mk (st := top 36) l36 c36 k36
  have b36 := F36.binds (ps := ["_law_bag_here", "_law_here", "_law_there"]) fun _ _ _ _ _ _ us hl => match us, hl with | [_, _, _], _ => rfl
  have D36 : D1 K mg "_law_step_on" (top 36) ["_law_bag_here", "_law_here", "_law_there"] f36 _ := ⟨M a36, F36, b36⟩
  have F37 := fun_mk (st := top 37) l37 c37 k37
  have b37 := F37.binds (ps := ["_law_bag_here", "_law_kinds_here", "_law_here", "_law_upto"]) fun _ _ _ _ _ _ us hl => match us, hl with | [_, _, _, _], _ => rfl
  have D37 : D1 K mg "_law_row_from" (top 37) ["_law_bag_here", "_law_kinds_here", "_law_here", "_law_upto"] f37 _ := ⟨M a37, F37, b37⟩
  have F38 := fun_mk (st := top 38) l38 c38 k38
  have b38 := F38.binds (ps := ["_law_bag_here", "_law_kinds_here", "_law_here", "_law_upto"]) fun _ _ _ _ _ _ us hl => match us, hl with | [_, _, _, _], _ => rfl
  have D38 : D1 K mg "_law_round" (top 38) ["_law_bag_here", "_law_kinds_here", "_law_here", "_law_upto"] f38 _ := ⟨M a38, F38, b38⟩
  have F39 := fun_mk (st := top 39) l39 c39 k39
  have b39 := F39.binds (ps := ["_law_bag_here", "_law_kinds_here", "_law_upto"]) fun _ _ _ _ _ _ us hl => match us, hl with | [_, _, _], _ => rfl
  have D39 : D1 K mg "_law_train" (top 39) ["_law_bag_here", "_law_kinds_here", "_law_upto"] f39 _ := ⟨M a39, F39, b39⟩
  have F40 := fun_mk (st := top 40) l40 c40 k40
  have b40 := F40.binds (ps := ["_law_train_here"]) fun _ _ _ _ _ _ us hl => match us, hl with | [_], _ => rfl
  have D40 : D1 K mg "_law_freed" (top 40) ["_law_train_here"] f40 _ := ⟨M a40, F40, b40⟩
  have F41 := fun_mk (st := top 41) l41 c41 k41
  have b41 := F41.binds (ps := ["_law_bag_here", "_law_one_here", "_law_other"]) fun _ _ _ _ _ _ us hl => match us, hl with | [_, _, _], _ => rfl
  have D41 : D1 K mg "_law_same" (top 41) ["_law_bag_here", "_law_one_here", "_law_other"] f41 _ := ⟨M a41, F41, b41⟩
  have F42 := fun_mk (st := top 42) l42 c42 k42
  refine ⟨sm, PySem.W.fnOf "law" "law" (defArgs (top 42)) (defBody (top 42)) (defScope (top 42)) .none kV42 dc42 pm42 an42 cd42 ct42, ?bb, fun base _ _ => ?gg⟩
  case gg =>
    have GB : FnOk P w K mg base CX0 1 f29 _ ["_law_script"] (CBFL18.spBag K) := CBFL18.ok_bag F29 ⟨N z_abs, N z_len, N z_int⟩
    have G30 := ok_l_take (P := P) (w := w) (K := K) (mg := mg) (base := base) F30 T 
    have G32 := ok_l_kinds (P := P) (w := w) (K := K) (mg := mg) (base := base) F32 T D30 G30
    have G35 := ok_l_end (P := P) (w := w) (K := K) (mg := mg) (base := base) F35 T 
    have G34 := ok_l_begin (P := P) (w := w) (K := K) (mg := mg) (base := base) F34 T 
    have G40 := ok_l_freed (P := P) (w := w) (K := K) (mg := mg) (base := base) F40 T D35 G35 D34 G34
    have G31 := ok_l_one (P := P) (w := w) (K := K) (mg := mg) (base := base) F31 T D30 G30
    have G36 := ok_l_step_on (P := P) (w := w) (K := K) (mg := mg) (base := base) F36 T D30 G30
    have G37 := ok_l_row_from (P := P) (w := w) (K := K) (mg := mg) (base := base) F37 T D30 G30 D31 G31 D36 G36
    have G38 := ok_l_round (P := P) (w := w) (K := K) (mg := mg) (base := base) F38 T D37 G37 D35 G35 D36 G36
    have G33 := ok_l_number (P := P) (w := w) (K := K) (mg := mg) (base := base) F33 T D30 G30
    have G39 := ok_l_train (P := P) (w := w) (K := K) (mg := mg) (base := base) F39 T D31 G31 D30 G30 D38 G38 D33 G33 D37 G37 D35 G35
    have G17 := ok_first_fixed (P := P) (w := w) (K := K) (mg := mg) (base := base) F17 T 
    have G8 := ok_has_two_steps (P := P) (w := w) (K := K) (mg := mg) (base := base) F8 T 
    have G12 := ok_n_about (P := P) (w := w) (K := K) (mg := mg) (base := base) F12 T D8 G8
    have G18 := ok_n_row_about (P := P) (w := w) (K := K) (mg := mg) (base := base) F18 T D17 G17 D12 G12
    have G27 := ok_train_about (P := P) (w := w) (K := K) (mg := mg) (base := base) F27 T D17 G17 D18 G18
    have G11 := ok_end_of (P := P) (w := w) (K := K) (mg := mg) (base := base) F11 T 
    have G10 := ok_begin_of (P := P) (w := w) (K := K) (mg := mg) (base := base) F10 T 
    have G15 := ok_row_ends (P := P) (w := w) (K := K) (mg := mg) (base := base) F15 T D11 G11 D10 G10
    have G21 := ok_train_ends (P := P) (w := w) (K := K) (mg := mg) (base := base) F21 T D15 G15
    have G16 := ok_carts_in (P := P) (w := w) (K := K) (mg := mg) (base := base) F16 T 
    have G22 := ok_carts_of (P := P) (w := w) (K := K) (mg := mg) (base := base) F22 T D16 G16
    have G23 := ok_length (P := P) (w := w) (K := K) (mg := mg) (base := base) F23 T 
    have G6 := ok_is_integer (P := P) (w := w) (K := K) (mg := mg) (base := base) F6 T 
    have G7 := ok_is_number (P := P) (w := w) (K := K) (mg := mg) (base := base) F7 T D6 G6
    have G25 := ok_stretch (P := P) (w := w) (K := K) (mg := mg) (base := base) F25 T D23 G23 D7 G7
    have G24 := ok_step_at (P := P) (w := w) (K := K) (mg := mg) (base := base) F24 T D25 G25
    have G41 := ok_l_same (P := P) (w := w) (K := K) (mg := mg) (base := base) F41 T D21 G21 D22 G22 D23 G23 D30 G30 D24 G24
    have G13 := ok_couple (P := P) (w := w) (K := K) (mg := mg) (base := base) F13 T D11 G11 D10 G10
    have G20 := ok__parts_couple (P := P) (w := w) (K := K) (mg := mg) (base := base) F20 T D13 G13
    have G26 := ok_joined (P := P) (w := w) (K := K) (mg := mg) (base := base) F26 T D20 G20
    exact ok_law0 F42 T D29 GB D32 G32 D30 G30 D40 G40 D39 G39 D27 G27 D21 G21 D41 G41 D18 G18 D22 G22 D16 G16 D15 G15 D12 G12 D38 G38 D26 G26
  case bb => exact fun s v => .of_eq rfl
end FL18
open PySem PySem.W PyProof.Rows in
set_option maxRecDepth 100000 in
set_option maxHeartbeats 0 in
theorem PySem.Challenge.cw_hookcarts_k18_whole_about_twice_holds : PySem.Challenge.rw_hookcarts_k18_whole_about_twice.Holds := by
  w_on; o_law; k_head; (case hw => w_witness2)
  k_fill
  refine HK.walkM (l := PySem.Challenge.rw_hookcarts_k18_whole_about_twice) (n := 63) (k := 6) (x := "_law_script") (sp := FL18.spLaw) rfl (by decide) rfl ⟨rfl, by decide, by decide⟩ (by decide +kernel) (fun w h Y => PySem.W.kIn_of Y) ?F (fun K H a ns hl _ M hS => ⟨a, ns, rfl, M, hS, hl, fun _ => rfl⟩)
  case F =>
    intro w mg fa h KX G hmg
    refine' FL18.all_mk KX G hmg ?a6 ?l6 ?c6 ?k6 ?a7 ?l7 ?c7 ?k7 ?a8 ?l8 ?c8 ?k8 ?a10 ?l10 ?c10 ?k10 ?a11 ?l11 ?c11 ?k11 ?a12 ?l12 ?c12 ?k12 ?a13 ?l13 ?c13 ?k13 ?a15 ?l15 ?c15 ?k15 ?a16 ?l16 ?c16 ?k16 ?a17 ?l17 ?c17 ?k17 ?a18 ?l18 ?c18 ?k18 ?a20 ?l20 ?c20 ?k20 ?a21 ?l21 ?c21 ?k21 ?a22 ?l22 ?c22 ?k22 ?a23 ?l23 ?c23 ?k23 ?a24 ?l24 ?c24 ?k24 ?a25 ?l25 ?c25 ?k25 ?a26 ?l26 ?c26 ?k26 ?a27 ?l27 ?c27 ?k27 ?a29 ?l29 ?c29 ?k29 ?a30 ?l30 ?c30 ?k30 ?a31 ?l31 ?c31 ?k31 ?a32 ?l32 ?c32 ?k32 ?a33 ?l33 ?c33 ?k33 ?a34 ?l34 ?c34 ?k34 ?a35 ?l35 ?c35 ?k35 ?a36 ?l36 ?c36 ?k36 ?a37 ?l37 ?c37 ?k37 ?a38 ?l38 ?c38 ?k38 ?a39 ?l39 ?c39 ?k39 ?a40 ?l40 ?c40 ?k40 ?a41 ?l41 ?c41 ?k41 ?a42 ?l42 ?c42 ?k42 ?z_abs ?z_all ?z_bool ?z_dict ?z_enumerate ?z_int ?z_isinstance ?z_len ?z_list ?z_max ?z_min ?z_range ?z_repr ?z_sorted ?z_str ?z_sum ?z_tuple ?z_zip ?sm
    (case a6 => first | k_is | rfl | decide +kernel)
    (case l6 => first | k_is | rfl | decide +kernel)
    (case c6 => first | k_is | rfl | decide +kernel)
    (case k6 => first | k_is | rfl | decide +kernel)
    (case a7 => first | k_is | rfl | decide +kernel)
    (case l7 => first | k_is | rfl | decide +kernel)
    (case c7 => first | k_is | rfl | decide +kernel)
    (case k7 => first | k_is | rfl | decide +kernel)
    (case a8 => first | k_is | rfl | decide +kernel)
    (case l8 => first | k_is | rfl | decide +kernel)
    (case c8 => first | k_is | rfl | decide +kernel)
    (case k8 => first | k_is | rfl | decide +kernel)
    (case a10 => first | k_is | rfl | decide +kernel)
    (case l10 => first | k_is | rfl | decide +kernel)
    (case c10 => first | k_is | rfl | decide +kernel)
    (case k10 => first | k_is | rfl | decide +kernel)
    (case a11 => first | k_is | rfl | decide +kernel)
    (case l11 => first | k_is | rfl | decide +kernel)
    (case c11 => first | k_is | rfl | decide +kernel)
    (case k11 => first | k_is | rfl | decide +kernel)
    (case a12 => first | k_is | rfl | decide +kernel)
    (case l12 => first | k_is | rfl | decide +kernel)
    (case c12 => first | k_is | rfl | decide +kernel)
    (case k12 => first | k_is | rfl | decide +kernel)
    (case a13 => first | k_is | rfl | decide +kernel)
    (case l13 => first | k_is | rfl | decide +kernel)
    (case c13 => first | k_is | rfl | decide +kernel)
    (case k13 => first | k_is | rfl | decide +kernel)
    (case a15 => first | k_is | rfl | decide +kernel)
    (case l15 => first | k_is | rfl | decide +kernel)
    (case c15 => first | k_is | rfl | decide +kernel)
    (case k15 => first | k_is | rfl | decide +kernel)
    (case a16 => first | k_is | rfl | decide +kernel)
    (case l16 => first | k_is | rfl | decide +kernel)
    (case c16 => first | k_is | rfl | decide +kernel)
    (case k16 => first | k_is | rfl | decide +kernel)
    (case a17 => first | k_is | rfl | decide +kernel)
    (case l17 => first | k_is | rfl | decide +kernel)
    (case c17 => first | k_is | rfl | decide +kernel)
    (case k17 => first | k_is | rfl | decide +kernel)
    (case a18 => first | k_is | rfl | decide +kernel)
    (case l18 => first | k_is | rfl | decide +kernel)
    (case c18 => first | k_is | rfl | decide +kernel)
    (case k18 => first | k_is | rfl | decide +kernel)
    (case a20 => first | k_is | rfl | decide +kernel)
    (case l20 => first | k_is | rfl | decide +kernel)
    (case c20 => first | k_is | rfl | decide +kernel)
    (case k20 => first | k_is | rfl | decide +kernel)
    (case a21 => first | k_is | rfl | decide +kernel)
    (case l21 => first | k_is | rfl | decide +kernel)
    (case c21 => first | k_is | rfl | decide +kernel)
    (case k21 => first | k_is | rfl | decide +kernel)
    (case a22 => first | k_is | rfl | decide +kernel)
    (case l22 => first | k_is | rfl | decide +kernel)
    (case c22 => first | k_is | rfl | decide +kernel)
    (case k22 => first | k_is | rfl | decide +kernel)
    (case a23 => first | k_is | rfl | decide +kernel)
    (case l23 => first | k_is | rfl | decide +kernel)
    (case c23 => first | k_is | rfl | decide +kernel)
    (case k23 => first | k_is | rfl | decide +kernel)
    (case a24 => first | k_is | rfl | decide +kernel)
    (case l24 => first | k_is | rfl | decide +kernel)
    (case c24 => first | k_is | rfl | decide +kernel)
    (case k24 => first | k_is | rfl | decide +kernel)
    (case a25 => first | k_is | rfl | decide +kernel)
    (case l25 => first | k_is | rfl | decide +kernel)
    (case c25 => first | k_is | rfl | decide +kernel)
    (case k25 => first | k_is | rfl | decide +kernel)
    (case a26 => first | k_is | rfl | decide +kernel)
    (case l26 => first | k_is | rfl | decide +kernel)
    (case c26 => first | k_is | rfl | decide +kernel)
    (case k26 => first | k_is | rfl | decide +kernel)
    (case a27 => first | k_is | rfl | decide +kernel)
    (case l27 => first | k_is | rfl | decide +kernel)
    (case c27 => first | k_is | rfl | decide +kernel)
    (case k27 => first | k_is | rfl | decide +kernel)
    (case a29 => first | k_is | rfl | decide +kernel)
    (case l29 => first | k_is | rfl | decide +kernel)
    (case c29 => first | k_is | rfl | decide +kernel)
    (case k29 => first | k_is | rfl | decide +kernel)
    (case a30 => first | k_is | rfl | decide +kernel)
    (case l30 => first | k_is | rfl | decide +kernel)
    (case c30 => first | k_is | rfl | decide +kernel)
    (case k30 => first | k_is | rfl | decide +kernel)
    (case a31 => first | k_is | rfl | decide +kernel)
    (case l31 => first | k_is | rfl | decide +kernel)
    (case c31 => first | k_is | rfl | decide +kernel)
    (case k31 => first | k_is | rfl | decide +kernel)
    (case a32 => first | k_is | rfl | decide +kernel)
    (case l32 => first | k_is | rfl | decide +kernel)
    (case c32 => first | k_is | rfl | decide +kernel)
    (case k32 => first | k_is | rfl | decide +kernel)
    (case a33 => first | k_is | rfl | decide +kernel)
    (case l33 => first | k_is | rfl | decide +kernel)
    (case c33 => first | k_is | rfl | decide +kernel)
    (case k33 => first | k_is | rfl | decide +kernel)
    (case a34 => first | k_is | rfl | decide +kernel)
    (case l34 => first | k_is | rfl | decide +kernel)
    (case c34 => first | k_is | rfl | decide +kernel)
    (case k34 => first | k_is | rfl | decide +kernel)
    (case a35 => first | k_is | rfl | decide +kernel)
    (case l35 => first | k_is | rfl | decide +kernel)
    (case c35 => first | k_is | rfl | decide +kernel)
    (case k35 => first | k_is | rfl | decide +kernel)
    (case a36 => first | k_is | rfl | decide +kernel)
    (case l36 => first | k_is | rfl | decide +kernel)
    (case c36 => first | k_is | rfl | decide +kernel)
    (case k36 => first | k_is | rfl | decide +kernel)
    (case a37 => first | k_is | rfl | decide +kernel)
    (case l37 => first | k_is | rfl | decide +kernel)
    (case c37 => first | k_is | rfl | decide +kernel)
    (case k37 => first | k_is | rfl | decide +kernel)
    (case a38 => first | k_is | rfl | decide +kernel)
    (case l38 => first | k_is | rfl | decide +kernel)
    (case c38 => first | k_is | rfl | decide +kernel)
    (case k38 => first | k_is | rfl | decide +kernel)
    (case a39 => first | k_is | rfl | decide +kernel)
    (case l39 => first | k_is | rfl | decide +kernel)
    (case c39 => first | k_is | rfl | decide +kernel)
    (case k39 => first | k_is | rfl | decide +kernel)
    (case a40 => first | k_is | rfl | decide +kernel)
    (case l40 => first | k_is | rfl | decide +kernel)
    (case c40 => first | k_is | rfl | decide +kernel)
    (case k40 => first | k_is | rfl | decide +kernel)
    (case a41 => first | k_is | rfl | decide +kernel)
    (case l41 => first | k_is | rfl | decide +kernel)
    (case c41 => first | k_is | rfl | decide +kernel)
    (case k41 => first | k_is | rfl | decide +kernel)
    (case a42 => first | k_is | rfl | decide +kernel)
    (case l42 => first | k_is | rfl | decide +kernel)
    (case c42 => first | k_is | rfl | decide +kernel)
    (case k42 => first | k_is | rfl | decide +kernel)
    (case z_abs => first | k_is | rfl | decide +kernel)
    (case z_all => first | k_is | rfl | decide +kernel)
    (case z_bool => first | k_is | rfl | decide +kernel)
    (case z_dict => first | k_is | rfl | decide +kernel)
    (case z_enumerate => first | k_is | rfl | decide +kernel)
    (case z_int => first | k_is | rfl | decide +kernel)
    (case z_isinstance => first | k_is | rfl | decide +kernel)
    (case z_len => first | k_is | rfl | decide +kernel)
    (case z_list => first | k_is | rfl | decide +kernel)
    (case z_max => first | k_is | rfl | decide +kernel)
    (case z_min => first | k_is | rfl | decide +kernel)
    (case z_range => first | k_is | rfl | decide +kernel)
    (case z_repr => first | k_is | rfl | decide +kernel)
    (case z_sorted => first | k_is | rfl | decide +kernel)
    (case z_str => first | k_is | rfl | decide +kernel)
    (case z_sum => first | k_is | rfl | decide +kernel)
    (case z_tuple => first | k_is | rfl | decide +kernel)
    (case z_zip => first | k_is | rfl | decide +kernel)
    (case sm => first | k_is | rfl | decide +kernel)
#print axioms PySem.Challenge.cw_hookcarts_k18_whole_about_twice_holds
