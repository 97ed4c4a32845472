import PyProof.Rows.All
import Wide.All
import OpenK.AllK
import Wide.FinOn
import HandS.ForMost
import HandS.EndBits
import HandS.Wide
import PyProof.Ascii
import HandS.Codes
import HandS.IsInst
import HandS.More
import PySem.Challenge.RW_hookcarts_k11_kinds_of_any_value
set_option Elab.async false
set_option linter.all false
set_option maxRecDepth 100000
set_option maxHeartbeats 4000000
namespace HK
open PySem PySem.Spec PyProof.Rows L2
/-! ### promises of defs that are called where no repr runs (they may call repr themselves) -/
/-- nothing is being shown around -/
abbrev Quiet (A : Around) : Prop := A.guards = some []
theorem quiet_deeper {A : Around} {env : Env} (h : Quiet A) : Quiet (A.deeper env) := by
  first
    | exact h
    | (unfold Quiet at *; simp [Around.deeper, h])
structure FnG (P : Program) (w : World) (K : PySem.W.Frag) (mg : Str → Option Value) (base : Heap) (CX : CXT) (k : Nat) (f : Addr) (fd : FuncData) (ps : List Str) (sp : Sp) : Prop where
  len : ∀ vs H Q E, sp vs H Q E → vs.length = ps.length
  go : ∀ (A : Around) (outer : List Env) (s : Shared) (H : Hp) (args : Args) (us : List Value) (vs : List V) (Q : VK) (E : XK), Quiet A → Room k A → Env0 P w K mg base A outer s H →
    BindsTo s fd args (ps.zip us) → Vals vs us → sp vs H Q E → codeAny (model P w) A (.call (.ref f) args) (CR CX outer P w H s Q E) s
section
variable {P : Program} {w : World} {K : PySem.W.Frag} {mg : Str → Option Value} {base : Heap} {CX : CXT} {k : Nat}
theorem FnG.of {f : Addr} {fd : FuncData} {ps : List Str} {sp : Sp} (F : FnOk P w K mg base CX k f fd ps sp) : FnG P w K mg base CX k f fd ps sp :=
  ⟨F.len, fun A outer s H args us vs Q E _ => F.run A outer s H args us vs Q E⟩
/-- a def of the text whose body may show things -/
theorem fnG {x qual : Str} {st : Stmt} {f : Addr} {fd : FuncData} {N ps : List Str} {sp : Sp} (F : Fun K x qual st f fd) (S : FnScope N ps (defScope st)) (len : ∀ vs H Q E, sp vs H Q E → vs.length = ps.length)
    (hbody : ∀ (cdv : Value) (A : Around) (outer : List Env) (s : Shared) (H : Hp) (vs : List V) (Q : VK) (E : XK), Quiet (A.deeper (envOfC qual (defScope st) s.heap.objs.size f cdv)) → Room k (A.deeper (envOfC qual (defScope st) s.heap.objs.size f cdv)) →
      sp vs H Q E → ∃ t, PSs (cxOf CX P w K mg base N qual (defScope st) f cdv A outer s H E).nox (defBody st) t ∧ t { nx := fun _ H' => Q .non H', rt := Q } (start N vs) H) :
    FnG P w K mg base CX (k + 1) f fd ps sp := by
  obtain ⟨oc, od, kV, doc, pm, an, cdv, ct, osl, rfl, lk, hcd⟩ := F.ex
  refine ⟨len, fun A outer s H args us vs Q E hq hr e0 hb r hs => ?_⟩
  have KX : K.In s.heap := e0.mod.kin.keeps fun _ _ e => (e0.bs _ _ e).1
  have hkind : ∀ y ∈ ps.zip us, (defScope st).names.lookup y.1 = some .local ∨
      ((defScope st).names.lookup y.1 = some .cell ∧ ((cellsFrom (s.heap.objs.size + 1) (defScope st).names []).lookup y.1).isSome = true) := by
    rintro ⟨n, v⟩ hy
    exact (S.par n (List.of_mem_zip hy).1).imp id fun q => ⟨q, PySem.W.cellsFrom_some _ _ _ (.inl q)⟩
  refine codeAny_call_function hr.depth (KX _ _ lk) rfl S.co S.gen rfl (PySem.W.codeRec_of KX hcd) (hb _ _ _ _ (wpAny_newFunctionEnv_cells S.kind hkind ?_))
  rintro env rfl s1 x
  have lim : s.heap.NoLimit := e0.mod.nolimit.keeps fun _ _ e => (e0.bs _ _ e).1
  obtain ⟨t, ht, q⟩ := hbody cdv A outer s H vs Q E (quiet_deeper hq) (hr.deeper _) hs
  have I := inv_start (CX := CX) (E := E) (cd := cdv) (f := f) (qual := qual) S hr.hd e0 (len _ _ _ _ hs) r x
  refine ⟨lim.keeps x.toInCall.keep, codeAny_func (wpAny_mono (ht.nox.run [] s1 (start N vs) H _ I q) (fun fl s' h => ?_) fun _ _ z => z)⟩
  cases fl with
  | ret u => exact let ⟨v, _, H', J, rv, q⟩ := h; ⟨v, H', J.os, J.bare, J.base, J.hok, rv, q⟩
  | next => exact let ⟨_, H', J, q⟩ := h; ⟨V.non, H', J.os, J.bare, J.base, J.hok, (rfl : Value.none = Value.none), q⟩
  | brk => exact let ⟨_, _, _, q⟩ := h; q.elim
  | cont => exact let ⟨_, _, _, q⟩ := h; q.elim
end
section
variable {X : Cx} {CX : CXT} {k : Nat} {f : Addr} {fd : FuncData} {ps : List Str} {sp : Sp} {E : XK} {x : Str} {p pos : Pos} {e : Expr} {es : List Expr} {t : TA}
/-- f(a, ..) of such a def, without defaults -/
theorem pe_callG (F : FnG X.prog X.w X.K X.mg X.base CX k f fd ps sp) (hq : Quiet X.A) (hr : Room k X.A) (hg : Gl X x) (hm : X.mg x = some (.ref f)) (hk : PySem.W.keepIn X.K (.ref f) = true) (hb : Binds X.K fd ps []) (hx : Passes CX X E) (ha : PA X (e :: es) t)
    (hdb : (x == ("__debug__" : Str)) = false := by decide) (he : starEach (e :: es) X.env = (false, eval e X.env) :: starEach es X.env := by rfl) (hpl : (backTo pos (starEach es X.env)).any (·.1) = false := by rfl) :
    PE X (.Call (.Name x p) (e :: es) [] pos) (tCall sp [] E t) := by
  refine ⟨fun pins s σ H Q I h => wpAny_Call_Name_kw (ld_glob I hg hm (PySem.W.callWith_K (h₀ := X.base) I.ok.mod.kin hk (thn (ha.run pos pins s σ H _ I h) fun us s1 z => ?_) he hpl) hdb)⟩
  obtain ⟨vs, H1, I1, r, q⟩ := z
  refine ⟨I1.kIn, wpAny_call (codeAny_mono (F.go X.A X.stack s1 H1 ⟨us, []⟩ us vs Q E hq hr I1.env0 ?_ r ?_) fun res s' h => ?_)⟩
  · have hl : (us ++ ([] : List Value)).length = ps.length := by
      rw [List.append_nil, ← r.length]
      exact F.len vs H1 Q E (by simpa using q)
    simpa using hb s1 us I1.kIn hl
  · simpa using q
  · match res, h with
    | .error _, h => exact hx pins σ H1 s1 _ s' I1 h
    | .ok (.ret _), h => exact I1.after h
    | .ok .next, h => exact False.elim h
    | .ok .brk, h => exact False.elim h
    | .ok .cont, h => exact False.elim h
end

/-! ### the end of a law whose def is called quietly -/
section
variable {P : Program} {w : World} {K : PySem.W.Frag} {mg mb : Str → Option Value} {k : Nat} {fa a : Addr} {fd : FuncData} {x : Str} {sp : Sp} {s₁ : Shared} {vs : List Value} {ns : List Int}
/-- what is told of the call's end -/
abbrev Ended (s₁ : Shared) (r : Result) (s' : Shared) : Prop := r = .ok (.ret (.bool true)) ∧ OldK s₁.heap s'.heap ∧ s'.os = s₁.os ∧ AllBare s'.gens
theorem core_end (KX : K.In s₁.heap) (hns : s₁.heap.Ns mainGlobals mg) (hb : s₁.heap.Ns builtinsNs mb) (hbb : ∀ y : Str, y ≠ "__name__" → mb y = bootBuiltins y) (hlim : s₁.heap.NoLimit) (hg : s₁.gens = #[])
    (ha : s₁.heap.get? a = some { cls := .type "list", data := .seq vs.toArray }) (hr : Room k callerA)
    (F : ∀ base : Heap, K.In base → base.Ns mainGlobals mg → FnG P w K mg base CX0 k fa fd [x] sp) (hbind : ∀ (s : Shared) (u : Value), BindsTo s fd ⟨[u], []⟩ [(x, u)])
    (H : Hp) (hO : Only H) (hS : sp [.ref a] H (fun v _ => v = .bl true) fun _ _ _ => False) (hok : HOk P w H s₁.heap) (hA : ∀ b u, H b = some u → b = a ∧ K.lookup a = none) :
    codeAny (model P w) callerA (.call (.ref fa) ⟨[.ref a], []⟩) (Ended s₁) s₁ := by
  have none_of : ∀ {b : Addr} {o : Obj}, s₁.heap.get? b = some o → (b = a → K.lookup a = none → False) → H b = none := fun {b o} _ n => by
    cases q : H b with
    | none => rfl
    | some u => exact (n (hA b u q).1 (hA b u q).2).elim
  have nsK : ∀ {b : Addr} {m : Str → Option Value}, s₁.heap.Ns b m → (hidT s₁.heap H).Ns b m := by
    rintro b m ⟨o, es, ep, e, d, r⟩
    refine ⟨o, es, ep, hidT_get e (none_of e fun z _ => ?_), d, r⟩
    subst z
    rw [ha] at e
    cases e
    cases (d : Data.seq vs.toArray _ = Data.dict es ep)
  have hKb : K.In (hidT s₁.heap H) := fun b o e => hidT_get (KX b o e) (none_of (KX b o e) fun z n => by
    subst z
    rw [n] at e
    cases e)
  have hM : Mod K mg (hidT s₁.heap H) := ⟨hKb, nsK hns, ⟨mb, nsK hb, hbb⟩, hlim.elim fun mc z => ⟨mc, nsK z.1, z.2⟩⟩
  have e0 : Env0 P w K mg (hidT s₁.heap H) callerA [] s₁ H := ⟨rfl, hM, fun _ _ e => of_hidT e, Nat.le_of_eq (hidT_size _ _), trivial, fun b hb => absurd hb (by show b ∉ ([] : List Addr); simp), hok, .of_eq hg⟩
  refine codeAny_mono ((F _ hKb (nsK hns)).go callerA [] s₁ H ⟨[.ref a], []⟩ [.ref a] [.ref a] _ _ rfl hr e0 (hbind s₁ (.ref a)) (.cons rfl .nil) hS) fun r s' h => ?_
  match r, h with
  | .error _, h => exact h.elim
  | .ok .next, h => exact False.elim h
  | .ok .brk, h => exact False.elim h
  | .ok .cont, h => exact False.elim h
  | .ok (.ret u), h =>
    obtain ⟨v, H', os, bare, un, hok', r', q⟩ := h
    obtain rfl : v = .bl true := q
    obtain rfl : u = Value.bool true := r'
    refine ⟨rfl, OldK.of_keep fun b o e => ?_, os, bare⟩
    rcases hO b with z | ⟨ob, xs, z⟩
    · exact un.keep b o e z (by show b ∉ ([] : List Addr); simp) (by simp)
    · have e1 := (hok b _ z).1
      have e2 := (hok' b _ (un.frzs b ob _ z)).1
      rw [e] at e1
      cases e1
      exact e2
theorem law_end (KX : K.In s₁.heap) (hns : s₁.heap.Ns mainGlobals mg) (hb : s₁.heap.Ns builtinsNs mb) (hbb : ∀ y : Str, y ≠ "__name__" → mb y = bootBuiltins y) (hlim : s₁.heap.NoLimit) (hg : s₁.gens = #[])
    (ha : s₁.heap.get? a = some { cls := .type "list", data := .seq vs.toArray }) (hi : IntsAre vs ns) (hl : ns.length ≤ sizeLine) (hr : Room k callerA)
    (F : ∀ base : Heap, K.In base → base.Ns mainGlobals mg → FnG P w K mg base CX0 k fa fd [x] sp) (hbind : ∀ (s : Shared) (u : Value), BindsTo s fd ⟨[u], []⟩ [(x, u)])
    (hsp : ∀ H : Hp, Only H → SqL K H a (ns.map V.int) → sp [.ref a] H (fun v _ => v = .bl true) fun _ _ _ => False) :
    codeAny (model P w) callerA (.call (.ref fa) ⟨[.ref a], []⟩) (Ended s₁) s₁ := by
  have rv := vals_ints hi
  cases hk : K.lookup a with
  | some o =>
    have e := (KX a o hk).symm.trans ha
    cases e
    exact core_end KX hns hb hbb hlim hg ha hr F hbind (fun _ => none) (fun _ => .inl rfl)
      (hsp _ (fun _ => .inl rfl) (.inr ⟨_, vs.toArray, _, hk, rfl, rfl, rfl, by rw [List.size_toArray, hi.length]; exact hl, by simpa using rv⟩)) (fun b u z => nomatch z) fun b u z => nomatch z
  | none =>
    let H0 : Hp := fun b => if b = a then some (.frz { cls := .type "list", data := .seq vs.toArray } (.lst (ns.map V.int))) else none
    have at_ : ∀ b, b = a → H0 b = some (.frz { cls := .type "list", data := .seq vs.toArray } (.lst (ns.map V.int))) := fun b z => if_pos z
    have off : ∀ b, b ≠ a → H0 b = none := fun b z => if_neg z
    have hO : Only H0 := fun b => (Classical.em (b = a)).elim (fun z => .inr ⟨_, _, at_ b z⟩) fun z => .inl (off b z)
    refine core_end KX hns hb hbb hlim hg ha hr F hbind H0 hO (hsp H0 hO (.inl (.inr ⟨_, at_ a rfl⟩))) (fun b u z => ?_) fun b u z => ⟨?_, hk⟩
    · by_cases hb : b = a
      · rw [at_ b hb] at z
        cases z
        subst hb
        exact ⟨ha, by rw [List.length_map]; exact hl, vs, _, rv, ha⟩
      · rw [off b hb] at z
        cases z
    · by_cases hb : b = a
      · exact hb
      · rw [off b hb] at z
        cases z
end
/-- the goal that k_head leaves, from the quiet promise of the law's def; the script's bits told -/
theorem walkG {l : PySem.W.OpenLaw} {n k : Nat} {q : Program} {loose : List Str} {XP : (Str → Option Value) → Heap → Prop} {YP : World → Heap → Prop} {d : DefRec} {K : Params → PySem.W.Frag} {sp : PySem.W.Frag → Sp} {x : Str}
    (hn : l.most = some n) (hn2 : n ≤ sizeLine) (hdf : d.params.defaults = []) (hr : Room k callerA) (hY : ∀ (w : World) (h : Heap), YP w h → (K w.params).In h)
    (F : ∀ (w : World) (mg : Str → Option Value) (fa : Addr) (h : Heap), (K w.params).In h → h.Ns mainGlobals mg → mg d.name = some (.ref fa) → ∃ fd : FuncData, (∀ (s : Shared) (u : Value), BindsTo s fd ⟨[u], []⟩ [(x, u)]) ∧
      ∀ base : Heap, (K w.params).In base → base.Ns mainGlobals mg → FnG l.prog w (K w.params) mg base CX0 k fa fd [x] (sp (K w.params)))
    (hsp : ∀ (K : PySem.W.Frag) (H : Hp) (a : Addr) (ns : List Int), ns.length ≤ n → (∀ z ∈ ns, Builtin.Int.intBits z ≤ 1048576) → Only H → SqL K H a (ns.map V.int) → sp K [.ref a] H (fun v _ => v = .bl true) fun _ _ _ => False) :
    PySem.W.WalkO q loose XP YP l.row.toRowW d [] (fun f vs => PySem.call f vs) := by
  refine Att.attach_callB hn hdf fun w s₀ s₁ mg mb fa o pm cd doc a vs ns G Y ho hd hcd hmg hobj hints hlen hbits hg => ?_
  obtain ⟨fd, hb, hF⟩ := F w mg fa _ (hY w _ Y) G.T.g hmg
  exact law_end (hY w _ Y) G.T.g G.T.b G.T.builtins G.T.nolimit hg hobj hints (Nat.le_trans hlen hn2) hr hF hb fun H hO hS => hsp _ H a ns hlen hbits hO hS
end HK

namespace HK
open PySem PySem.Spec PyProof.Rows L2
/-! ### max, min of two texts -/
theorem cmp_str_gt {prog : Program} {w : World} {A : Around} {P : Nat → Value → Prop} (val : Nat → Str) (hv : ∀ i v, P i v → ∃ t, v = .str (val i) t) : CmpOf prog w A .Gt P (fun i j => decide ((val j).cps.toList < (val i).cps.toList)) := by
  intro i j vi vj s Q E hi hj h
  obtain ⟨t, rfl⟩ := hv i vi hi
  obtain ⟨u, rfl⟩ := hv j vj hj
  exact richCompare_gives (op := .Gt) (typeIs_str s _ t) (typeIs_str s _ u) F.slot_str_gt F.entry_str_gt (F.args_str_gt_2 _ _) (gives_str_gt _ _ t u) (fun z => nomatch z) h
theorem cmp_str_lt {prog : Program} {w : World} {A : Around} {P : Nat → Value → Prop} (val : Nat → Str) (hv : ∀ i v, P i v → ∃ t, v = .str (val i) t) : CmpOf prog w A .Lt P (fun i j => decide ((val i).cps.toList < (val j).cps.toList)) := by
  intro i j vi vj s Q E hi hj h
  obtain ⟨t, rfl⟩ := hv i vi hi
  obtain ⟨u, rfl⟩ := hv j vj hj
  exact richCompare_gives (op := .Lt) (typeIs_str s _ t) (typeIs_str s _ u) F.slot_str_lt F.entry_str_lt (F.args_str_lt_2 _ _) (gives_str_lt _ _ t u) (fun z => nomatch z) h
def pairAt (a b : Str) (i : Nat) : Str := if i = 0 then a else b
theorem pair_at {a b : Str} {t u : Tok} : ∀ (i : Nat) (v : Value), #[Value.str a t, Value.str b u][i]? = some v → ∃ t', v = .str (pairAt a b i) t'
  | 0, v, h => ⟨t, by simpa [pairAt, eq_comm] using h⟩
  | 1, v, h => ⟨u, by simpa [pairAt, eq_comm] using h⟩
  | n + 2, v, h => by simp at h
section
variable {prog : Program} {w : World} {A : Around} {E : Value → Shared → Prop} {s : Shared} {a b : Str} {t u : Tok} {Q : Value → Shared → Prop}
theorem pair_best {x : Value} (bt : Nat → Nat → Bool) (h : #[Value.str a t, Value.str b u][argBest bt (2 - 1)]? = some x) : x = if bt 1 0 = true then Value.str b u else Value.str a t := by
  by_cases g : bt 1 0 = true
  · rw [if_pos g]
    have e : argBest bt (2 - 1) = 1 := by simp [argBest, g]
    rw [e] at h
    simpa [eq_comm] using h
  · rw [if_neg g]
    have e : argBest bt (2 - 1) = 0 := by simp [argBest, g]
    rw [e] at h
    simpa [eq_comm] using h
theorem strs_max (hh : A.handled = none) (h : ∀ h' tk, (∀ c o, s.heap.get? c = some o → h'.get? c = some o) → Q (if decide (a.cps.toList < b.cps.toList) = true then .str b u else .str a t) { s with heap := h', toks := tk }) :
    wpAny (model prog w) A (call (.builtin "max") [.str a t, .str b u]) Q E s := by
  have hT : (s.heap.push { cls := .type "tuple", data := .seq #[.str a t, .str b u] }).IsTuple s.heap.objs.size #[.str a t, .str b u] := ⟨_, Heap.get?_push_size _ rfl, rfl, 0, rfl⟩
  have z1 : (s.heap.push { cls := .type "tuple", data := .seq #[Value.str a t, .str b u] }).objs.size = s.heap.objs.size + 1 := Heap.size_push ..
  refine call_max_two (wpAny_pyIter_tuple hT ?_)
  refine ⟨_, [_, s.heap.objs.size], [_], 2, _, _, _, rfl, Walks.tuple (A := A.in1) hh _ s.heap.objs.size (by rw [z1]; exact Nat.ne_of_lt (Nat.lt_succ_self _)) #[.str a t, .str b u], ⟨⟨_, Heap.get?_push_size _ rfl, rfl, rfl⟩, hT.push _⟩, fun c hc => ?_, by decide, cmp_str_gt (pairAt a b) pair_at, fun v h' tk hP hk => ?_⟩
  · show c < ((s.heap.push _).push _).objs.size
    rw [Heap.size_push, z1]
    rcases List.mem_cons.mp hc with rfl | hc
    · rw [z1]; exact Nat.lt_succ_self _
    · rw [List.mem_singleton.mp hc]; exact Nat.lt_succ_of_lt (Nat.lt_succ_self _)
  · rw [pair_best _ hP]
    refine h h' tk fun c o e => hk c o (fun hm => ?_) (Heap.get?_push_of_some _ (Heap.get?_push_of_some _ e))
    have z := Heap.lt_size e
    rw [List.mem_singleton.mp hm, z1] at z
    exact Nat.lt_irrefl _ (Nat.lt_of_succ_lt z)
theorem strs_min (hh : A.handled = none) (h : ∀ h' tk, (∀ c o, s.heap.get? c = some o → h'.get? c = some o) → Q (if decide (b.cps.toList < a.cps.toList) = true then .str b u else .str a t) { s with heap := h', toks := tk }) :
    wpAny (model prog w) A (call (.builtin "min") [.str a t, .str b u]) Q E s := by
  have hT : (s.heap.push { cls := .type "tuple", data := .seq #[.str a t, .str b u] }).IsTuple s.heap.objs.size #[.str a t, .str b u] := ⟨_, Heap.get?_push_size _ rfl, rfl, 0, rfl⟩
  have z1 : (s.heap.push { cls := .type "tuple", data := .seq #[Value.str a t, .str b u] }).objs.size = s.heap.objs.size + 1 := Heap.size_push ..
  refine call_min_two (wpAny_pyIter_tuple hT ?_)
  refine ⟨_, [_, s.heap.objs.size], [_], 2, _, _, _, rfl, Walks.tuple (A := A.in1) hh _ s.heap.objs.size (by rw [z1]; exact Nat.ne_of_lt (Nat.lt_succ_self _)) #[.str a t, .str b u], ⟨⟨_, Heap.get?_push_size _ rfl, rfl, rfl⟩, hT.push _⟩, fun c hc => ?_, by decide, cmp_str_lt (pairAt a b) pair_at, fun v h' tk hP hk => ?_⟩
  · show c < ((s.heap.push _).push _).objs.size
    rw [Heap.size_push, z1]
    rcases List.mem_cons.mp hc with rfl | hc
    · rw [z1]; exact Nat.lt_succ_self _
    · rw [List.mem_singleton.mp hc]; exact Nat.lt_succ_of_lt (Nat.lt_succ_self _)
  · rw [pair_best _ hP]
    refine h h' tk fun c o e => hk c o (fun hm => ?_) (Heap.get?_push_of_some _ (Heap.get?_push_of_some _ e))
    have z := Heap.lt_size e
    rw [List.mem_singleton.mp hm, z1] at z
    exact Nat.lt_irrefl _ (Nat.lt_of_succ_lt z)
end
def maxS (a b : Str) : Str := if a.cps.toList < b.cps.toList then b else a
def minS (a b : Str) : Str := if b.cps.toList < a.cps.toList then b else a
section
variable {X : Cx}
theorem call_maxS (hc : X.calm = true) : CallR X (.builtin "max") (fun xs H Q => ∃ a b, xs = [.str a, .str b] ∧ Q (.str (maxS a b)) H) := by
  intro pins s σ H xs us Q I r h
  obtain ⟨a, b, rfl, q⟩ := h
  obtain ⟨u, v, rfl, ⟨t, rfl⟩, ⟨t', rfl⟩⟩ := vals2 r
  refine strs_max (I.ok.hd hc) fun h' tk k => ⟨_, H, I.kept k, ?_, q⟩
  unfold maxS
  by_cases g : a.cps.toList < b.cps.toList
  · rw [if_pos (decide_eq_true g), if_pos g]; exact ⟨_, rfl⟩
  · rw [decide_eq_false g, if_neg Bool.false_ne_true, if_neg g]; exact ⟨_, rfl⟩
theorem call_minS (hc : X.calm = true) : CallR X (.builtin "min") (fun xs H Q => ∃ a b, xs = [.str a, .str b] ∧ Q (.str (minS a b)) H) := by
  intro pins s σ H xs us Q I r h
  obtain ⟨a, b, rfl, q⟩ := h
  obtain ⟨u, v, rfl, ⟨t, rfl⟩, ⟨t', rfl⟩⟩ := vals2 r
  refine strs_min (I.ok.hd hc) fun h' tk k => ⟨_, H, I.kept k, ?_, q⟩
  unfold minS
  by_cases g : b.cps.toList < a.cps.toList
  · rw [if_pos (decide_eq_true g), if_pos g]; exact ⟨_, rfl⟩
  · rw [decide_eq_false g, if_neg Bool.false_ne_true, if_neg g]; exact ⟨_, rfl⟩
/-! ### orders of texts -/
theorem op_gtS : OpR X (compareOp .Gt) (fun x y H Q => ∃ i j, x = .str i ∧ y = .str j ∧ Q (.bl (decide (j.cps.toList < i.cps.toList))) H) := by
  intro pins s σ H x y v u Q I rx ry h
  obtain ⟨i, j, rfl, rfl, q⟩ := h
  obtain ⟨t, rfl⟩ := rx
  obtain ⟨t', rfl⟩ := ry
  exact compareOp_gives (op := .Gt) (typeIs_str s i t) (typeIs_str s j t') F.slot_str_gt F.entry_str_gt (F.args_str_gt_2 _ _) (gives_str_gt i j t t') (fun e => nomatch e) ⟨.bl _, H, I, rfl, q⟩
/-! ### repr of data -/
/-- data whose text has room -/
def Tells (d : PyData) : Prop := d.showable = true ∧ d.hasDict = false ∧ d.shown.length ≤ sizeLine ∧ d.depth ≤ 60
theorem call_reprD (hq : Quiet X.A) (hu : X.A.units + 64 < cLine) : CallR X (.builtin "repr") (fun xs H Q => ∃ x d, xs = [x] ∧ Dp X.K H x d ∧ Tells d ∧ Q (.str d.shown) H) := by
  intro pins s σ H xs us Q I r h
  obtain ⟨x, d, rfl, hd, ⟨t1, t2, t3, t4⟩, q⟩ := h
  obtain ⟨u, rfl, ru⟩ := vals1 r
  obtain ⟨as, rd⟩ := Dp.reads I d x u hd ru
  cases hd with
  | non =>
    obtain rfl : u = Value.none := ru
    exact PySem.P.repr_of_none ⟨.str "None", H, I.tok _, ⟨_, rfl⟩, q⟩
  | bl b =>
    obtain rfl : u = Value.bool b := ru
    refine PySem.P.repr_of_bool ⟨.str (if b then "True" else "False"), H, I.tok _, ⟨_, rfl⟩, ?_⟩
    simpa only [PyData.shown] using q
  | int i =>
    obtain ⟨t, rfl⟩ := ru
    refine PySem.P.repr_of_int (by simpa [PyData.showable] using t1) ⟨.str (toString i), H, I.tok _, ⟨_, rfl⟩, ?_⟩
    simpa only [PyData.shown] using q
  | str y =>
    obtain ⟨t, rfl⟩ := ru
    simp only [PyData.shown] at q t3
    exact PySem.P.repr_of_str ⟨.str _, H, I.tok _, ⟨_, rfl⟩, q⟩ t3
  | lst h1 h2 =>
    obtain rfl : u = Value.ref _ := ru
    exact repr_of_reads' rd t1 (PyData.noDict_hsm t2) hq (by omega) (fun _ _ e => e) (fun h' u tk k => ⟨.str _, H, I.kept k, ⟨_, rfl⟩, q⟩) t3
  | tup h1 h2 =>
    obtain rfl : u = Value.ref _ := ru
    exact repr_of_reads' rd t1 (PyData.noDict_hsm t2) hq (by omega) (fun _ _ e => e) (fun h' u tk k => ⟨.str _, H, I.kept k, ⟨_, rfl⟩, q⟩) t3
end
end HK

namespace HK
open PySem PySem.Spec PyProof.Rows L2
/-! ### heaps: all is kept, but what stands at b -/
def Keep (b : Addr) (H H' : Hp) : Prop := ∀ c o, c ≠ b → H c = some o → H' c = some o
theorem Keep.refl (b : Addr) (H : Hp) : Keep b H H := fun _ _ _ h => h
theorem Keep.trans {b : Addr} {H H1 H2 : Hp} (x : Keep b H H1) (y : Keep b H1 H2) : Keep b H H2 := fun c o n h => y c o n (x c o n h)
theorem Keep.of {b : Addr} {H H' : Hp} (x : Same H H') : Keep b H H' := fun c o _ h => x c o h
theorem Same.new {H : Hp} {p : Addr} {o : HO} (n : H p = none) : Same H (upd H p o) := fun c u h => by
  rw [upd_ne (ne_of_none h n)]
  exact h
/-- a thing that was new is changed -/
theorem Same.newer {H H1 : Hp} {p : Addr} {o : HO} (x : Same H H1) (n : H p = none) : Same H (upd H1 p o) := fun c u h => by
  rw [upd_ne (ne_of_none h n)]
  exact x c u h
theorem Keep.newer {b : Addr} {H H1 : Hp} {p : Addr} {o : HO} (x : Keep b H H1) (n : H p = none) : Keep b H (upd H1 p o) := fun c u nb h => by
  rw [upd_ne (ne_of_none h n)]
  exact x c u nb h
theorem Keep.free {b : Addr} {H H' : Hp} (x : Keep b H H') {l : Addr} (nb : l ≠ b) (h : H' l = none) : H l = none := by
  cases q : H l with
  | none => rfl
  | some o =>
    rw [x l o nb q] at h
    cases h
/-! ### data that stands apart from b -/
mutual
inductive D (b : Addr) (H : Hp) : V → PyData → Prop
  | non : D b H .non .none
  | bl (x : Bool) : D b H (.bl x) (.bool x)
  | int (i : Int) : D b H (.int i) (.int i)
  | str (x : Str) : D b H (.str x) (.str x)
  | lst {a : Addr} {xs : List V} {ds : List PyData} : a ≠ b → H a = some (.lst xs) → DAll b H xs ds → D b H (.ref a) (.list ds)
  | tup {a : Addr} {xs : List V} {ds : List PyData} : a ≠ b → H a = some (.tup xs) → DAll b H xs ds → D b H (.ref a) (.tuple ds)
inductive DAll (b : Addr) (H : Hp) : List V → List PyData → Prop
  | nil : DAll b H [] []
  | cons {v : V} {vs : List V} {d : PyData} {ds : List PyData} : D b H v d → DAll b H vs ds → DAll b H (v :: vs) (d :: ds)
end
section
variable {b : Addr} {H H' : Hp}
mutual
theorem D.keep (k : Keep b H H') : ∀ {v : V} (d : PyData), D b H v d → D b H' v d
  | _, .none, .non => .non
  | _, .bool _, .bl x => .bl x
  | _, .int _, .int i => .int i
  | _, .str _, .str x => .str x
  | _, .list ds, .lst n h r => .lst n (k _ _ n h) (DAll.keep k ds r)
  | _, .tuple ds, .tup n h r => .tup n (k _ _ n h) (DAll.keep k ds r)
theorem DAll.keep (k : Keep b H H') : ∀ {vs : List V} (ds : List PyData), DAll b H vs ds → DAll b H' vs ds
  | _, [], .nil => .nil
  | _, d :: ds, .cons x r => .cons (D.keep k d x) (DAll.keep k ds r)
end
mutual
theorem D.dp {K : PySem.W.Frag} : ∀ {v : V} (d : PyData), D b H v d → Dp K H v d
  | _, .none, .non => .non
  | _, .bool _, .bl x => .bl x
  | _, .int _, .int i => .int i
  | _, .str _, .str x => .str x
  | _, .list ds, .lst n h r => .lst (SqL.of h) (DAll.dp ds r)
  | _, .tuple ds, .tup n h r => .tup (SqT.of h) (DAll.dp ds r)
theorem DAll.dp {K : PySem.W.Frag} : ∀ {vs : List V} (ds : List PyData), DAll b H vs ds → DpAll K H vs ds
  | _, [], .nil => .nil
  | _, d :: ds, .cons x r => .cons (D.dp d x) (DAll.dp ds r)
end
theorem D.same {v : V} {d : PyData} (h : D b H v d) (s : Same H H') : D b H' v d := D.keep (Keep.of s) d h
theorem D.kept {v : V} {d : PyData} (h : D b H v d) (k : Keep b H H') : D b H' v d := D.keep k d h
theorem DAll.same {v : List V} {d : List PyData} (h : DAll b H v d) (s : Same H H') : DAll b H' v d := DAll.keep (Keep.of s) d h
theorem DAll.kept {v : List V} {d : List PyData} (h : DAll b H v d) (k : Keep b H H') : DAll b H' v d := DAll.keep k d h
theorem DAll.len : ∀ {vs : List V} {ds : List PyData}, DAll b H vs ds → vs.length = ds.length
  | _, _, .nil => rfl
  | _, _, .cons _ r => congrArg Nat.succ (DAll.len r)
theorem DAll.get : ∀ {vs : List V} {ds : List PyData} {i : Nat} {v : V}, DAll b H vs ds → vs[i]? = some v → ∃ d, ds[i]? = some d ∧ D b H v d
  | _, _, i, v, .nil, h => by simp at h
  | _, _, 0, v, .cons x r, h => by
    simp only [List.getElem?_cons_zero, Option.some.injEq] at h
    subst h
    exact ⟨_, rfl, x⟩
  | _, _, i + 1, v, .cons x r, h => DAll.get (i := i) r (by simpa using h)
theorem DAll.append : ∀ {vs ws : List V} {ds es : List PyData}, DAll b H vs ds → DAll b H ws es → DAll b H (vs ++ ws) (ds ++ es)
  | _, _, _, _, .nil, s => s
  | _, _, _, _, .cons x r, s => .cons x (DAll.append r s)
/-- new tuples and lists of data -/
theorem D.newT {p : Addr} {xs : List V} {ds : List PyData} (nb : p ≠ b) (n : H p = none) (h : DAll b H xs ds) : D b (upd H p (.tup xs)) (.ref p) (.tuple ds) := .tup nb upd_same (h.same (Same.new n))
theorem D.newL {p : Addr} {xs : List V} {ds : List PyData} (nb : p ≠ b) (n : H p = none) (h : DAll b H xs ds) : D b (upd H p (.lst xs)) (.ref p) (.list ds) := .lst nb upd_same (h.same (Same.new n))
end
/-! ### how much room the text of data wants -/
structure Sm (d : PyData) (n m : Nat) : Prop where
  lay : d.canLay0 = true
  sh : d.intsShort 40 = true
  ok : d.showable = true
  w : d.weight ≤ n
  dp : d.depth ≤ m
structure SmA (ds : List PyData) (n m : Nat) : Prop where
  lay : PyData.canLayAll0 ds = true
  sh : PyData.intsShortAll 40 ds = true
  ok : PyData.showableAll ds = true
  w : PyData.weightAll ds ≤ n
  dp : PyData.depthAll ds ≤ m
/-- a short text of signs -/
structure Sh (x : Str) (n : Nat) : Prop where
  len : x.cps.size ≤ n
  cps : PyData.strOk x = true
theorem Sm.str {x : Str} {n : Nat} (h : Sh x n) : Sm (.str x) n 0 := ⟨by simpa only [PyData.canLay0] using h.cps, rfl, rfl, h.len, by simp [PyData.depth]⟩
theorem Sm.bool (x : Bool) : Sm (.bool x) 0 0 := ⟨rfl, rfl, rfl, Nat.le_refl _, by simp [PyData.depth]⟩
theorem Sm.none : Sm .none 0 0 := ⟨rfl, rfl, rfl, Nat.le_refl _, by simp [PyData.depth]⟩
theorem SmA.nil : SmA [] 0 0 := ⟨rfl, rfl, rfl, Nat.le_refl _, by simp [PyData.depthAll]⟩
theorem SmA.mono {ds : List PyData} {n m i j : Nat} (h : SmA ds n i) (a : n ≤ m) (c : i ≤ j) : SmA ds m j := ⟨h.lay, h.sh, h.ok, Nat.le_trans h.w a, Nat.le_trans h.dp c⟩
theorem Sm.mono {d : PyData} {n m i j : Nat} (h : Sm d n i) (a : n ≤ m) (c : i ≤ j) : Sm d m j := ⟨h.lay, h.sh, h.ok, Nat.le_trans h.w a, Nat.le_trans h.dp c⟩
theorem SmA.cons {d : PyData} {ds : List PyData} {n m i j : Nat} (h : Sm d n i) (r : SmA ds m j) : SmA (d :: ds) (n + 1 + m) (max i j) :=
  ⟨by simp only [PyData.canLayAll0, h.lay, r.lay, Bool.and_self], by simp only [PyData.intsShortAll, h.sh, r.sh, Bool.and_self], by simp only [PyData.showableAll, h.ok, r.ok, Bool.and_self],
    by have := h.w; have := r.w; simp only [PyData.weightAll]; omega, by have := h.dp; have := r.dp; simp only [PyData.depthAll]; omega⟩
theorem Sm.tuple {ds : List PyData} {n m : Nat} (h : SmA ds n m) : Sm (.tuple ds) n (m + 1) := ⟨by simpa only [PyData.canLay0] using h.lay, by simpa only [PyData.intsShort] using h.sh, by simpa only [PyData.showable] using h.ok,
  by simpa only [PyData.weight] using h.w, by have := h.dp; simp only [PyData.depth]; omega⟩
theorem Sm.list {ds : List PyData} {n m : Nat} (h : SmA ds n m) : Sm (.list ds) n (m + 1) := ⟨by simpa only [PyData.canLay0] using h.lay, by simpa only [PyData.intsShort] using h.sh, by simpa only [PyData.showable] using h.ok,
  by simpa only [PyData.weight] using h.w, by have := h.dp; simp only [PyData.depth]; omega⟩
theorem Sm.tells {d : PyData} {n m : Nat} (h : Sm d n m) (a : n ≤ 300000) (c : m ≤ 60) : Tells d := by
  have z := PyData.shown_le 40 (by decide) d (PyData.leavesShort_of_canLay0 40 d h.lay h.sh)
  have w := h.w
  refine ⟨h.ok, PyData.hasDict_of_canLay d h.lay, ?_, Nat.le_trans h.dp c⟩
  rw [sizeLine_eq]
  omega
theorem Sm.shaped {d : PyData} {n m : Nat} (h : Sm d n m) (c : m ≤ 60) : SeqAt.shaped d = true := by
  unfold SeqAt.shaped
  rw [h.lay, decide_eq_true (Nat.le_trans h.dp (Nat.le_trans c (by decide)))]
  rfl
/-- data that may be compared and shown -/
def Fine (d : PyData) : Prop := Tells d ∧ SeqAt.shaped d = true ∧ d.canLay0 = true
theorem Sm.fine {d : PyData} {n m : Nat} (h : Sm d n m) (a : n ≤ 300000) (c : m ≤ 60) : Fine d := ⟨h.tells a c, h.shaped c, h.lay⟩
/-- o[i] of a list, by values (for o[i] op= e) -/
theorem get_list {X : Cx} : PGet X (rIxL X.K) := by
  intro pins s σ H o i ov iv Q I ro ri h
  obtain ⟨p, xs, k, z, rfl, rfl, hq, he, q⟩ := h
  cases ro
  obtain ⟨t, rfl⟩ := ri
  obtain ⟨its, r, pl, hz⟩ := I.list hq
  obtain ⟨j, h1, h2, h3, h4, h5⟩ := atI_get he
  obtain ⟨w, ew, rw'⟩ := r.get h2
  have hl := r.length
  have hn := line63
  have fin : EP X pins σ Q w s := ⟨z, H, I, rw', q⟩
  by_cases h0 : 0 ≤ k
  · have hj : k.toNat = j := Option.some.inj ((seqIndex_of h0 h5).symm.trans h1)
    exact wpAny_getItem_list pl.isList h0 (by omega) (by rw [hj]; simpa using ew) fin
  · have hj : (k + (its.toArray.size : Int)).toNat = j := by
      rw [List.size_toArray, ← hl]
      exact Option.some.inj ((seqIndex_neg (by omega) h4).symm.trans h1)
    exact wpAny_getItem_list_neg pl.isList (by omega) (by rw [List.size_toArray] <;> omega) (by omega) (by rw [hj]; simpa using ew) fin
end HK

namespace HK
open PySem PySem.Spec PyProof.Rows L2
/-- the address of the table of modules is told, so that nothing new stands there -/
def Mk (H : Hp) : Prop := ∃ o u, H sysModules = some (.frz o u)
theorem Mk.same {H H' : Hp} (m : Mk H) (s : Same H H') : Mk H' := by
  obtain ⟨o, u, h⟩ := m
  exact ⟨o, u, s _ _ h⟩
theorem Mk.kept {b : Addr} {H H' : Hp} (m : Mk H) (k : Keep b H H') (hb : ∃ xs, H b = some (.lst xs)) : Mk H' := by
  obtain ⟨o, u, h⟩ := m
  obtain ⟨xs, hb⟩ := hb
  exact ⟨o, u, k _ _ (ne_of h hb (by intro z; cases z)) h⟩
section
variable {P : Program} {w : World} {K : PySem.W.Frag} {mg mb : Str → Option Value} {k : Nat} {fa a : Addr} {fd : FuncData} {x : Str} {sp : Sp} {s₁ : Shared} {vs : List Value} {ns : List Int}
theorem core_endM (KX : K.In s₁.heap) (hns : s₁.heap.Ns mainGlobals mg) (hb : s₁.heap.Ns builtinsNs mb) (hbb : ∀ y : Str, y ≠ "__name__" → mb y = bootBuiltins y) (hlim : s₁.heap.NoLimit) (hg : s₁.gens = #[]) (hr : Room k callerA)
    (F : ∀ base : Heap, K.In base → base.Ns mainGlobals mg → FnG P w K mg base CX0 k fa fd [x] sp) (hbind : ∀ (s : Shared) (u : Value), BindsTo s fd ⟨[u], []⟩ [(x, u)])
    (H : Hp) (hO : ∀ c u, H c = some u → ∃ o v, u = .frz o v) (hS : sp [.ref a] H (fun v _ => v = .bl true) fun _ _ _ => False) (hok : HOk P w H s₁.heap) (hA : ∀ c u, H c = some u → K.lookup c = none ∧ c ≠ mainGlobals ∧ c ≠ builtinsNs ∧ c ≠ cStatics) :
    codeAny (model P w) callerA (.call (.ref fa) ⟨[.ref a], []⟩) (Ended s₁) s₁ := by
  have nsK : ∀ {c : Addr} {m : Str → Option Value}, (c = mainGlobals ∨ c = builtinsNs ∨ c = cStatics) → s₁.heap.Ns c m → (hidT s₁.heap H).Ns c m := by
    rintro c m hc ⟨o, es, ep, e, d, r⟩
    refine ⟨o, es, ep, hidT_get e ?_, d, r⟩
    cases q : H c with
    | none => rfl
    | some u =>
      obtain ⟨_, n1, n2, n3⟩ := hA c u q
      rcases hc with z | z | z
      · exact absurd z n1
      · exact absurd z n2
      · exact absurd z n3
  have hKb : K.In (hidT s₁.heap H) := fun c o e => hidT_get (KX c o e) (by
    cases q : H c with
    | none => rfl
    | some u =>
      rw [(hA c u q).1] at e
      cases e)
  have hM : Mod K mg (hidT s₁.heap H) := ⟨hKb, nsK (.inl rfl) hns, ⟨mb, nsK (.inr (.inl rfl)) hb, hbb⟩, hlim.elim fun mc z => ⟨mc, nsK (.inr (.inr rfl)) z.1, z.2⟩⟩
  have e0 : Env0 P w K mg (hidT s₁.heap H) callerA [] s₁ H := ⟨rfl, hM, fun _ _ e => of_hidT e, Nat.le_of_eq (hidT_size _ _), trivial, fun c hc => absurd hc (by show c ∉ ([] : List Addr); simp), hok, .of_eq hg⟩
  refine codeAny_mono ((F _ hKb (nsK (.inl rfl) hns)).go callerA [] s₁ H ⟨[.ref a], []⟩ [.ref a] [.ref a] _ _ rfl hr e0 (hbind s₁ (.ref a)) (.cons rfl .nil) hS) fun r s' h => ?_
  match r, h with
  | .error _, h => exact h.elim
  | .ok .next, h => exact False.elim h
  | .ok .brk, h => exact False.elim h
  | .ok .cont, h => exact False.elim h
  | .ok (.ret u), h =>
    obtain ⟨v, H', os, bare, un, hok', r', q⟩ := h
    obtain rfl : v = .bl true := q
    obtain rfl : u = Value.bool true := r'
    refine ⟨rfl, OldK.of_keep fun c o e => ?_, os, bare⟩
    cases z : H c with
    | none => exact un.keep c o e z (by show c ∉ ([] : List Addr); simp) (by simp)
    | some t =>
      obtain ⟨ob, v, rfl⟩ := hO c t z
      have e1 := (hok c _ z).1
      have e2 := (hok' c _ (un.frzs c ob _ z)).1
      rw [e] at e1
      cases e1
      exact e2
theorem ns_dict {h : Heap} {c : Addr} {m : Str → Option Value} {vs : Array Value} {n : Nat} (x : h.Ns c m) (e : h.get? c = some { cls := .type "list", data := .seq vs n }) : False := by
  obtain ⟨o, es, ep, e', d, r⟩ := x
  rw [e] at e'
  cases e'
  cases d
theorem law_endM (KX : K.In s₁.heap) (k1 : K.lookup sysModules = none) (hns : s₁.heap.Ns mainGlobals mg) (hb : s₁.heap.Ns builtinsNs mb) (hbb : ∀ y : Str, y ≠ "__name__" → mb y = bootBuiltins y) (hlim : s₁.heap.NoLimit) (hse : s₁.heap.NoSeer) (hg : s₁.gens = #[])
    (ha : s₁.heap.get? a = some { cls := .type "list", data := .seq vs.toArray }) (hi : IntsAre vs ns) (hl : ns.length ≤ sizeLine) (hr : Room k callerA)
    (F : ∀ base : Heap, K.In base → base.Ns mainGlobals mg → FnG P w K mg base CX0 k fa fd [x] sp) (hbind : ∀ (s : Shared) (u : Value), BindsTo s fd ⟨[u], []⟩ [(x, u)])
    (hsp : ∀ H : Hp, Mk H → SqL K H a (ns.map V.int) → sp [.ref a] H (fun v _ => v = .bl true) fun _ _ _ => False) :
    codeAny (model P w) callerA (.call (.ref fa) ⟨[.ref a], []⟩) (Ended s₁) s₁ := by
  have rv := vals_ints hi
  obtain ⟨mm, hmods, _⟩ := hse.mods
  obtain ⟨o1, es1, ep1, e1, d1, _⟩ := id hmods
  have na : a ≠ sysModules := fun z => ns_dict (m := mm) (by rw [z]; exact hmods) ha
  have ng : ∀ {c m}, s₁.heap.Ns c m → a ≠ c := fun {c m} z q => ns_dict (m := m) (by rw [q]; exact z) ha
  obtain ⟨mc, hmc, _⟩ := id hlim
  have ext : ObjOk P w (fun _ => none) s₁.heap sysModules (.frz o1 (.ext fun _ => True)) := ⟨e1, trivial, ⟨_, e1⟩, fun _ _ _ _ => trivial⟩
  cases hk : K.lookup a with
  | some o =>
    have e := (KX a o hk).symm.trans ha
    cases e
    let H0 : Hp := fun c => if c = sysModules then some (.frz o1 (.ext fun _ => True)) else none
    have at_ : H0 sysModules = some (.frz o1 (.ext fun _ => True)) := if_pos rfl
    have on : ∀ c u, H0 c = some u → c = sysModules ∧ u = .frz o1 (.ext fun _ => True) := fun c u z => by
      by_cases q : c = sysModules
      · subst q
        rw [at_] at z
        cases z
        exact ⟨rfl, rfl⟩
      · rw [show H0 c = none from if_neg q] at z
        cases z
    refine core_endM KX hns hb hbb hlim hg hr F hbind H0 (fun c u z => ⟨_, _, (on c u z).2⟩)
      (hsp _ ⟨_, _, at_⟩ (.inr ⟨_, vs.toArray, _, hk, rfl, rfl, rfl, by rw [List.size_toArray, hi.length]; exact hl, by simpa using rv⟩)) (fun c u z => ?_) fun c u z => ?_
    · obtain ⟨rfl, rfl⟩ := on c u z
      exact ⟨e1, trivial, ⟨_, e1⟩, fun _ _ _ _ => trivial⟩
    · obtain ⟨rfl, rfl⟩ := on c u z
      exact ⟨k1, by decide, by decide, by decide⟩
  | none =>
    let H0 : Hp := fun c => if c = a then some (.frz { cls := .type "list", data := .seq vs.toArray } (.lst (ns.map V.int))) else if c = sysModules then some (.frz o1 (.ext fun _ => True)) else none
    have at_a : H0 a = some (.frz { cls := .type "list", data := .seq vs.toArray } (.lst (ns.map V.int))) := if_pos rfl
    have at_s : H0 sysModules = some (.frz o1 (.ext fun _ => True)) := (if_neg na.symm).trans (if_pos rfl)
    have on : ∀ c u, H0 c = some u → (c = a ∧ u = .frz { cls := .type "list", data := .seq vs.toArray } (.lst (ns.map V.int))) ∨ (c = sysModules ∧ u = .frz o1 (.ext fun _ => True)) := fun c u z => by
      by_cases q : c = a
      · subst q
        rw [at_a] at z
        cases z
        exact .inl ⟨rfl, rfl⟩
      · by_cases q2 : c = sysModules
        · subst q2
          rw [at_s] at z
          cases z
          exact .inr ⟨rfl, rfl⟩
        · rw [show H0 c = none from (if_neg q).trans (if_neg q2)] at z
          cases z
    refine core_endM KX hns hb hbb hlim hg hr F hbind H0 (fun c u z => ?_) (hsp H0 ⟨_, _, at_s⟩ (.inl (.inr ⟨_, at_a⟩))) (fun c u z => ?_) fun c u z => ?_
    · rcases on c u z with ⟨_, e⟩ | ⟨_, e⟩ <;> exact ⟨_, _, e⟩
    · rcases on c u z with ⟨rfl, rfl⟩ | ⟨rfl, rfl⟩
      · exact ⟨ha, by rw [List.length_map]; exact hl, vs, _, rv, ha⟩
      · exact ⟨e1, trivial, ⟨_, e1⟩, fun _ _ _ _ => trivial⟩
    · rcases on c u z with ⟨rfl, rfl⟩ | ⟨rfl, rfl⟩
      · exact ⟨hk, ng hns, ng hb, ng hmc⟩
      · exact ⟨k1, by decide, by decide, by decide⟩
end
theorem walkM {l : PySem.W.OpenLaw} {n k : Nat} {q : Program} {loose : List Str} {XP : (Str → Option Value) → Heap → Prop} {YP : World → Heap → Prop} {d : DefRec} {K : Params → PySem.W.Frag} {sp : PySem.W.Frag → Sp} {x : Str}
    (hn : l.most = some n) (hn2 : n ≤ sizeLine) (hdf : d.params.defaults = []) (hr : Room k callerA) (him : importsNone q = true) (hY : ∀ (w : World) (h : Heap), YP w h → (K w.params).In h)
    (F : ∀ (w : World) (mg : Str → Option Value) (fa : Addr) (h : Heap), (K w.params).In h → h.Ns mainGlobals mg → mg d.name = some (.ref fa) → (K w.params).lookup sysModules = none ∧ ∃ fd : FuncData, (∀ (s : Shared) (u : Value), BindsTo s fd ⟨[u], []⟩ [(x, u)]) ∧
      ∀ base : Heap, (K w.params).In base → base.Ns mainGlobals mg → FnG l.prog w (K w.params) mg base CX0 k fa fd [x] (sp (K w.params)))
    (hsp : ∀ (K : PySem.W.Frag) (H : Hp) (a : Addr) (ns : List Int), ns.length ≤ n → (∀ z ∈ ns, Builtin.Int.intBits z ≤ 1048576) → Mk H → SqL K H a (ns.map V.int) → sp K [.ref a] H (fun v _ => v = .bl true) fun _ _ _ => False) :
    PySem.W.WalkO q loose XP YP l.row.toRowW d [] (fun f vs => PySem.call f vs) := by
  refine Att.attach_callB hn hdf fun w s₀ s₁ mg mb fa o pm cd doc a vs ns G Y ho hd hcd hmg hobj hints hlen hbits hg => ?_
  obtain ⟨k1, fd, hb, hF⟩ := F w mg fa _ (hY w _ Y) G.T.g hmg
  exact law_endM (hY w _ Y) k1 G.T.g G.T.b G.T.builtins G.T.nolimit (G.T.seer him) hg hobj hints (Nat.le_trans hlen hn2) hr hF hb fun H hO hS => hsp _ H a ns hlen hbits hO hS
/-! ### data with empty dicts -/
mutual
inductive DX (b : Addr) (H : Hp) : V → PyData → Prop
  | non : DX b H .non .none
  | bl (x : Bool) : DX b H (.bl x) (.bool x)
  | int (i : Int) : DX b H (.int i) (.int i)
  | str (x : Str) : DX b H (.str x) (.str x)
  | lst {a : Addr} {xs : List V} {ds : List PyData} : a ≠ b → H a = some (.lst xs) → DXs b H xs ds → DX b H (.ref a) (.list ds)
  | tup {a : Addr} {xs : List V} {ds : List PyData} : a ≠ b → H a = some (.tup xs) → DXs b H xs ds → DX b H (.ref a) (.tuple ds)
  | dct {a : Addr} : a ≠ b → H a = some (.dK []) → DX b H (.ref a) (.dict [])
inductive DXs (b : Addr) (H : Hp) : List V → List PyData → Prop
  | nil : DXs b H [] []
  | cons {v : V} {vs : List V} {d : PyData} {ds : List PyData} : DX b H v d → DXs b H vs ds → DXs b H (v :: vs) (d :: ds)
end
section
variable {b : Addr} {H H' : Hp}
mutual
theorem DX.keep (k : Keep b H H') : ∀ {v : V} (d : PyData), DX b H v d → DX b H' v d
  | _, .none, .non => .non
  | _, .bool _, .bl x => .bl x
  | _, .int _, .int i => .int i
  | _, .str _, .str x => .str x
  | _, .list ds, .lst n h r => .lst n (k _ _ n h) (DXs.keep k ds r)
  | _, .tuple ds, .tup n h r => .tup n (k _ _ n h) (DXs.keep k ds r)
  | _, .dict _, .dct n h => .dct n (k _ _ n h)
theorem DXs.keep (k : Keep b H H') : ∀ {vs : List V} (ds : List PyData), DXs b H vs ds → DXs b H' vs ds
  | _, [], .nil => .nil
  | _, d :: ds, .cons x r => .cons (DX.keep k d x) (DXs.keep k ds r)
end
theorem DX.kept {v : V} {d : PyData} (h : DX b H v d) (k : Keep b H H') : DX b H' v d := DX.keep k d h
theorem DX.same {v : V} {d : PyData} (h : DX b H v d) (s : Same H H') : DX b H' v d := DX.keep (Keep.of s) d h
theorem DXs.kept {v : List V} {d : List PyData} (h : DXs b H v d) (k : Keep b H H') : DXs b H' v d := DXs.keep k d h
theorem DXs.same {v : List V} {d : List PyData} (h : DXs b H v d) (s : Same H H') : DXs b H' v d := DXs.keep (Keep.of s) d h
theorem DXs.len : ∀ {vs : List V} {ds : List PyData}, DXs b H vs ds → vs.length = ds.length
  | _, _, .nil => rfl
  | _, _, .cons _ r => congrArg Nat.succ (DXs.len r)
theorem DXs.get : ∀ {vs : List V} {ds : List PyData} {i : Nat} {v : V}, DXs b H vs ds → vs[i]? = some v → ∃ d, ds[i]? = some d ∧ DX b H v d
  | _, _, i, v, .nil, h => by simp at h
  | _, _, 0, v, .cons x r, h => by
    simp only [List.getElem?_cons_zero, Option.some.injEq] at h
    subst h
    exact ⟨_, rfl, x⟩
  | _, _, i + 1, v, .cons x r, h => DXs.get (i := i) r (by simpa using h)
theorem DXs.append : ∀ {vs ws : List V} {ds es : List PyData}, DXs b H vs ds → DXs b H ws es → DXs b H (vs ++ ws) (ds ++ es)
  | _, _, _, _, .nil, s => s
  | _, _, _, _, .cons x r, s => .cons x (DXs.append r s)
theorem DXs.set {v : V} {d : PyData} (x : DX b H v d) : ∀ {vs : List V} {ds : List PyData} (i : Nat), DXs b H vs ds → DXs b H (vs.set i v) (ds.set i d)
  | _, _, _, .nil => .nil
  | _, _, 0, .cons _ t => .cons x t
  | _, _, i + 1, .cons q t => .cons q (DXs.set x i t)
theorem DXs.take : ∀ {vs : List V} {ds : List PyData} (n : Nat), DXs b H vs ds → DXs b H (vs.take n) (ds.take n)
  | _, _, 0, _ => .nil
  | _, _, _ + 1, .nil => .nil
  | _, _, n + 1, .cons r t => .cons r (DXs.take n t)
theorem DXs.drop : ∀ {vs : List V} {ds : List PyData} (n : Nat), DXs b H vs ds → DXs b H (vs.drop n) (ds.drop n)
  | _, _, 0, r => r
  | _, _, _ + 1, .nil => .nil
  | _, _, n + 1, .cons _ t => DXs.drop n t
theorem DX.newT {p : Addr} {xs : List V} {ds : List PyData} (nb : p ≠ b) (n : H p = none) (h : DXs b H xs ds) : DX b (upd H p (.tup xs)) (.ref p) (.tuple ds) := .tup nb upd_same (h.same (Same.new n))
theorem DX.newL {p : Addr} {xs : List V} {ds : List PyData} (nb : p ≠ b) (n : H p = none) (h : DXs b H xs ds) : DX b (upd H p (.lst xs)) (.ref p) (.list ds) := .lst nb upd_same (h.same (Same.new n))
mutual
theorem D.dx : ∀ {v : V} (d : PyData), D b H v d → DX b H v d
  | _, .none, .non => .non
  | _, .bool _, .bl x => .bl x
  | _, .int _, .int i => .int i
  | _, .str _, .str x => .str x
  | _, .list ds, .lst n h r => .lst n h (DAll.dx ds r)
  | _, .tuple ds, .tup n h r => .tup n h (DAll.dx ds r)
theorem DAll.dx : ∀ {vs : List V} (ds : List PyData), DAll b H vs ds → DXs b H vs ds
  | _, [], .nil => .nil
  | _, d :: ds, .cons x r => .cons (D.dx d x) (DAll.dx ds r)
end
end
section
variable {X : Cx} {pins : List (Addr × Obj)} {σ : L2.St} {H : Hp} {s : Shared} {b : Addr}
mutual
/-- such data is read, and not by the table of modules -/
theorem DX.reads (I : Inv X pins σ H s) (M : Mk H) : ∀ (d : PyData) (v : V) (u : Value), DX b H v d → RelV v u → ∃ as, Reads s.heap u d as ∧ sysModules ∉ as
  | .none, _, _, .non, r => by
    cases r
    exact ⟨_, .none, by simp⟩
  | .bool _, _, _, .bl _, r => by
    cases r
    exact ⟨_, .bool _, by simp⟩
  | .int _, _, _, .int i, r => by
    obtain ⟨t, rfl⟩ := r
    exact ⟨_, .int i t, by simp⟩
  | .str _, _, _, .str x, r => by
    obtain ⟨t, rfl⟩ := r
    exact ⟨_, .str x t, by simp⟩
  | .list ds, _, _, .lst (a := a) n h ha, r => by
    cases r
    obtain ⟨its, rv, ⟨o, n, ho, hc, _, hd⟩, _⟩ := I.list (SqL.of h)
    obtain ⟨as, hr, hn⟩ := DXs.reads I M ds _ its ha rv
    obtain ⟨om, um, hm⟩ := M
    exact ⟨_, .list ho hc hd hr, by rw [List.mem_cons]; rintro (z | z); exact ne_of hm h (by intro z; cases z) z; exact hn z⟩
  | .tuple ds, _, _, .tup n h ha, r => by
    cases r
    obtain ⟨its, rv, ⟨o, ho, hc, n, hd⟩, _⟩ := I.tuple (SqT.of h)
    obtain ⟨as, hr, hn⟩ := DXs.reads I M ds _ its ha rv
    exact ⟨_, .tuple ho hc hd hr, hn⟩
  | .dict _, _, _, .dct (a := a) n h, r => by
    cases r
    obtain ⟨_, _, vs, kv, o, es, ep, e1, e2, e3, _, e4⟩ := (show ObjOk X.prog X.w H s.heap a (.dK []) from I.hok a _ h)
    obtain ⟨om, um, hm⟩ := M
    have ev : vs = [] := by cases kv; rfl
    subst ev
    have ees : es.toList = [] := by
      have z := e4.1
      generalize es.toList = l at z
      cases z
      rfl
    refine ⟨_, .dict (as := []) (bs := []) e1 e2.1 e3 (by rw [ees]; exact .nil) (by rw [ees]; exact .nil), ?_⟩
    simp only [List.append_nil, List.mem_singleton]
    exact ne_of hm h (by intro z; cases z)
theorem DXs.reads (I : Inv X pins σ H s) (M : Mk H) : ∀ (ds : List PyData) (vs : List V) (us : List Value), DXs b H vs ds → Vals vs us → ∃ as, ReadsAll s.heap us ds as ∧ sysModules ∉ as
  | [], _, _, .nil, r => by
    cases r
    exact ⟨_, .nil, by simp⟩
  | d :: ds, _, _, .cons h1 h2, r => by
    cases r with
    | cons r1 r2 =>
      obtain ⟨as, q1, n1⟩ := DX.reads I M d _ _ h1 r1
      obtain ⟨bs, q2, n2⟩ := DXs.reads I M ds _ _ h2 r2
      exact ⟨_, .cons q1 q2, by rw [List.mem_append]; rintro (z | z); exact n1 z; exact n2 z⟩
end
end
/-- room for the text of such data -/
structure TX (d : PyData) : Prop where
  ok : d.showable = true
  fit : d.shown.length ≤ sizeLine
  dp : d.depth ≤ 60
section
variable {X : Cx}
theorem call_reprX (hq : Quiet X.A) (hu : X.A.units + 64 < cLine) : CallR X (.builtin "repr") (fun xs H Q => ∃ b x d, xs = [x] ∧ Mk H ∧ DX b H x d ∧ TX d ∧ Q (.str d.shown) H) := by
  intro pins s σ H xs us Q I r h
  obtain ⟨b, x, d, rfl, M, hd, ⟨t1, t3, t4⟩, q⟩ := h
  obtain ⟨u, rfl, ru⟩ := vals1 r
  obtain ⟨as, rd, nm⟩ := DX.reads I M d x u hd ru
  cases hd with
  | non =>
    obtain rfl : u = Value.none := ru
    exact PySem.P.repr_of_none ⟨.str "None", H, I.tok _, ⟨_, rfl⟩, q⟩
  | bl y =>
    obtain rfl : u = Value.bool y := ru
    refine PySem.P.repr_of_bool ⟨.str (if y then "True" else "False"), H, I.tok _, ⟨_, rfl⟩, ?_⟩
    simpa only [PyData.shown] using q
  | int i =>
    obtain ⟨t, rfl⟩ := ru
    refine PySem.P.repr_of_int (by simpa [PyData.showable] using t1) ⟨.str (toString i), H, I.tok _, ⟨_, rfl⟩, ?_⟩
    simpa only [PyData.shown] using q
  | str y =>
    obtain ⟨t, rfl⟩ := ru
    simp only [PyData.shown] at q t3
    exact PySem.P.repr_of_str ⟨.str _, H, I.tok _, ⟨_, rfl⟩, q⟩ t3
  | lst h0 h1 h2 =>
    obtain rfl : u = Value.ref _ := ru
    exact repr_of_reads' rd t1 (fun _ => nm) hq (by omega) (fun _ _ e => e) (fun h' u tk k => ⟨.str _, H, I.kept k, ⟨_, rfl⟩, q⟩) t3
  | tup h0 h1 h2 =>
    obtain rfl : u = Value.ref _ := ru
    exact repr_of_reads' rd t1 (fun _ => nm) hq (by omega) (fun _ _ e => e) (fun h' u tk k => ⟨.str _, H, I.kept k, ⟨_, rfl⟩, q⟩) t3
  | dct h0 h1 =>
    obtain rfl : u = Value.ref _ := ru
    exact repr_of_reads' rd t1 (fun _ => nm) hq (by omega) (fun _ _ e => e) (fun h' u tk k => ⟨.str _, H, I.kept k, ⟨_, rfl⟩, q⟩) t3
end
end HK

namespace HK
open PySem PySem.Spec PyProof.Rows L2
def Asc (x : Str) : Prop := ∀ c ∈ x.cps.toList, c < 128
theorem Asc.app {x y : Str} (h : Asc x) (k : Asc y) : Asc (x ++ y) := fun c hc => by
  have e : (x ++ y).cps = x.cps ++ y.cps := rfl
  rw [e, Array.toList_append] at hc
  rcases List.mem_append.mp hc with z | z
  · exact h c z
  · exact k c z
def ascB (x : Str) : Bool := x.cps.toList.all fun c => decide (c < 128)
theorem Asc.by {x : Str} (h : ascB x = true) : Asc x := fun c hc => of_decide_eq_true (List.all_eq_true.mp h c hc)
theorem Asc.ok {x : Str} (h : Asc x) : PyData.strOk x = true := by
  unfold PyData.strOk
  rw [← Array.all_toList, List.all_eq_true]
  intro c hc
  have := h c hc
  exact decide_eq_true (by omega)
theorem rc_asc : ∀ c < 128, ∀ q ∈ [34, 39], ((Builtin.Str.reprChar q c).all fun d => decide (d < 128)) = true := by decide +kernel
theorem fold_asc {q : Nat} (hq : q ∈ [34, 39]) : ∀ (l : List Nat) (acc : Array Nat), (∀ c ∈ l, c < 128) → (∀ c ∈ acc.toList, c < 128) → ∀ c ∈ (l.foldl (fun out c => out ++ (Builtin.Str.reprChar q c).toArray) acc).toList, c < 128
  | [], acc, _, h => h
  | x :: r, acc, hl, h => fold_asc hq r _ (fun c hc => hl c (List.mem_cons_of_mem _ hc)) fun c hc => by
    rw [Array.toList_append] at hc
    rcases List.mem_append.mp hc with z | z
    · exact h c z
    · exact of_decide_eq_true (List.all_eq_true.mp (rc_asc x (hl x List.mem_cons_self) q hq) c z)
theorem quote_is (x : Str) : reprQuote x ∈ [34, 39] := by
  unfold reprQuote
  split <;> simp
theorem Asc.repr {x : Str} (h : Asc x) : Asc (reprText x) := fun c hc => by
  have q := quote_is x
  have q128 : reprQuote x < 128 := by
    simp only [List.mem_cons, List.not_mem_nil, or_false] at q
    omega
  unfold reprText at hc
  rw [← Array.foldl_toList, Array.toList_push] at hc
  rcases List.mem_append.mp hc with z | z
  · refine fold_asc q x.cps.toList #[reprQuote x] h (fun c hc => ?_) c z
    have e : c = reprQuote x := by simpa using hc
    omega
  · rw [List.mem_singleton.mp z]
    exact q128
theorem join_asc {sep : Str} (hs : Asc sep) : ∀ ts : List Str, (∀ t ∈ ts, Asc t) → Asc (Str.join sep ts)
  | [], _ => fun c hc => by simp [Str.join, Str.empty] at hc
  | [x], h => h x List.mem_cons_self
  | x :: y :: r, h => ((h x List.mem_cons_self).app hs).app (join_asc hs (y :: r) fun t ht => h t (List.mem_cons_of_mem _ ht))
theorem from_asc : ∀ (ts : List Str) (k : Nat) (acc : Str), Asc acc → (∀ t ∈ ts, Asc t) → Asc (textFrom k acc ts)
  | [], _, _, h, _ => h
  | t :: r, k, acc, h, hr => from_asc r (k + 1) _ ((h.app (by split <;> exact Asc.by (by decide +kernel))).app (hr t List.mem_cons_self)) fun u hu => hr u (List.mem_cons_of_mem _ hu)
mutual
def ascD : PyData → Bool
  | .none | .bool _ | .int _ => true
  | .str x => ascB x
  | .list xs | .tuple xs => ascDs xs
  | .dict kvs => kvs.isEmpty
def ascDs : List PyData → Bool
  | [] => true
  | x :: xs => ascD x && ascDs xs
end
theorem int_asc (i : Int) : Asc (toString i : String) := fun c hc => by
  rw [Str.ofString_eq_toList] at hc
  simp only [List.mem_map] at hc
  obtain ⟨d, hd, rfl⟩ := hc
  exact int_ascii i d hd
mutual
theorem shown_asc : ∀ d : PyData, ascD d = true → Asc d.shown
  | .none, _ => Asc.by (by decide +kernel)
  | .bool true, _ => Asc.by (by decide +kernel)
  | .bool false, _ => Asc.by (by decide +kernel)
  | .int i, _ => by
    simp only [PyData.shown]
    exact int_asc i
  | .str x, h => by
    simp only [PyData.shown]
    exact Asc.repr (Asc.by (by simpa only [ascD] using h))
  | .list xs, h => by
    simp only [PyData.shown]
    exact Asc.app (from_asc _ _ _ (Asc.by (by decide +kernel)) (showns_asc xs (by simpa only [ascD] using h))) (Asc.by (by decide +kernel))
  | .tuple xs, h => by
    simp only [PyData.shown]
    unfold tupleText
    refine Asc.app (Asc.app (Asc.by (by decide +kernel)) (join_asc (Asc.by (by decide +kernel)) _ (showns_asc xs (by simpa only [ascD] using h)))) ?_
    split <;> exact Asc.by (by decide +kernel)
  | .dict kvs, h => by
    have e : kvs = [] := by simpa only [ascD, List.isEmpty_iff] using h
    subst e
    exact Asc.by (by decide +kernel)
theorem showns_asc : ∀ ds : List PyData, ascDs ds = true → ∀ t ∈ PyData.shownAll ds, Asc t
  | [], _ => fun t ht => by simp [PyData.shownAll] at ht
  | d :: ds, h => fun t ht => by
    have h' : ascD d = true ∧ ascDs ds = true := by simpa only [ascDs, Bool.and_eq_true] using h
    simp only [PyData.shownAll, List.mem_cons] at ht
    rcases ht with rfl | ht
    · exact shown_asc d h'.1
    · exact showns_asc ds h'.2 t ht
end
/-! ### room -/
structure SX (d : PyData) (n m : Nat) : Prop where
  asc : ascD d = true
  sh : d.leavesShort 40 = true
  ok : d.showable = true
  w : d.weight ≤ n
  dp : d.depth ≤ m
/-- the same of many, n all together -/
structure SXs (ds : List PyData) (n m : Nat) : Prop where
  each : ∀ d ∈ ds, ascD d = true ∧ d.leavesShort 40 = true ∧ d.showable = true ∧ d.depth ≤ m
  w : (ds.map fun d => d.weight + 1).sum ≤ n
theorem ascDs_all : ∀ {ds : List PyData}, (∀ d ∈ ds, ascD d = true) → ascDs ds = true
  | [], _ => rfl
  | d :: ds, h => by simp only [ascDs, h d List.mem_cons_self, ascDs_all fun e he => h e (List.mem_cons_of_mem _ he), Bool.and_self]
theorem shortAll_all : ∀ {ds : List PyData}, (∀ d ∈ ds, d.leavesShort 40 = true) → PyData.leavesShortAll 40 ds = true
  | [], _ => rfl
  | d :: ds, h => by simp only [PyData.leavesShortAll, h d List.mem_cons_self, shortAll_all fun e he => h e (List.mem_cons_of_mem _ he), Bool.and_self]
theorem showAll_all : ∀ {ds : List PyData}, (∀ d ∈ ds, d.showable = true) → PyData.showableAll ds = true
  | [], _ => rfl
  | d :: ds, h => by simp only [PyData.showableAll, h d List.mem_cons_self, showAll_all fun e he => h e (List.mem_cons_of_mem _ he), Bool.and_self]
theorem depthAll_all : ∀ {ds : List PyData} {m : Nat}, (∀ d ∈ ds, d.depth ≤ m) → PyData.depthAll ds ≤ m
  | [], _, _ => Nat.zero_le _
  | d :: ds, m, h => by
    have h1 := h d List.mem_cons_self
    have h2 := depthAll_all (ds := ds) fun e he => h e (List.mem_cons_of_mem _ he)
    simp only [PyData.depthAll]
    omega
theorem weightAll_sum : ∀ ds : List PyData, PyData.weightAll ds = (ds.map fun d => d.weight + 1).sum
  | [] => rfl
  | d :: ds => by simp only [PyData.weightAll, List.map_cons, List.sum_cons, weightAll_sum ds]
theorem SXs.list {ds : List PyData} {n m : Nat} (h : SXs ds n m) : SX (.list ds) n (m + 1) :=
  ⟨by simpa only [ascD] using ascDs_all fun d hd => (h.each d hd).1, by simpa only [PyData.leavesShort] using shortAll_all fun d hd => (h.each d hd).2.1, by simpa only [PyData.showable] using showAll_all fun d hd => (h.each d hd).2.2.1,
    by simp only [PyData.weight, weightAll_sum]; exact h.w, by have := depthAll_all fun d hd => (h.each d hd).2.2.2; simp only [PyData.depth]; omega⟩
theorem SXs.tuple {ds : List PyData} {n m : Nat} (h : SXs ds n m) : SX (.tuple ds) n (m + 1) :=
  ⟨by simpa only [ascD] using ascDs_all fun d hd => (h.each d hd).1, by simpa only [PyData.leavesShort] using shortAll_all fun d hd => (h.each d hd).2.1, by simpa only [PyData.showable] using showAll_all fun d hd => (h.each d hd).2.2.1,
    by simp only [PyData.weight, weightAll_sum]; exact h.w, by have := depthAll_all fun d hd => (h.each d hd).2.2.2; simp only [PyData.depth]; omega⟩
theorem all_ascDs : ∀ {ds : List PyData}, ascDs ds = true → ∀ d ∈ ds, ascD d = true
  | d :: ds, h, e, he => by
    have h' : ascD d = true ∧ ascDs ds = true := by simpa only [ascDs, Bool.and_eq_true] using h
    rcases List.mem_cons.mp he with rfl | he
    · exact h'.1
    · exact all_ascDs h'.2 e he
theorem all_short : ∀ {ds : List PyData}, PyData.leavesShortAll 40 ds = true → ∀ d ∈ ds, d.leavesShort 40 = true
  | d :: ds, h, e, he => by
    have h' : d.leavesShort 40 = true ∧ PyData.leavesShortAll 40 ds = true := by simpa only [PyData.leavesShortAll, Bool.and_eq_true] using h
    rcases List.mem_cons.mp he with rfl | he
    · exact h'.1
    · exact all_short h'.2 e he
theorem all_show : ∀ {ds : List PyData}, PyData.showableAll ds = true → ∀ d ∈ ds, d.showable = true
  | d :: ds, h, e, he => by
    have h' : d.showable = true ∧ PyData.showableAll ds = true := by simpa only [PyData.showableAll, Bool.and_eq_true] using h
    rcases List.mem_cons.mp he with rfl | he
    · exact h'.1
    · exact all_show h'.2 e he
theorem all_depth : ∀ {ds : List PyData} {m : Nat}, PyData.depthAll ds ≤ m → ∀ d ∈ ds, d.depth ≤ m
  | d :: ds, m, h, e, he => by
    simp only [PyData.depthAll] at h
    rcases List.mem_cons.mp he with rfl | he
    · omega
    · exact all_depth (ds := ds) (by omega) e he
/-- what a list or a tuple holds -/
theorem SX.items {ds : List PyData} {n m : Nat} (h : SX (.list ds) n m ∨ SX (.tuple ds) n m) : 1 ≤ m ∧ SXs ds n (m - 1) := by
  rcases h with h | h
  all_goals
    have a := h.asc
    have b := h.sh
    have c := h.ok
    have w := h.w
    have dp := h.dp
    simp only [ascD, PyData.leavesShort, PyData.showable, PyData.weight, PyData.depth, weightAll_sum] at a b c w dp
    exact ⟨by omega, fun d hd => ⟨all_ascDs a d hd, all_short b d hd, all_show c d hd, all_depth (ds := ds) (by omega) d hd⟩, w⟩
theorem SXs.nil {m : Nat} : SXs [] 0 m := ⟨fun d hd => (List.not_mem_nil hd).elim, Nat.le_refl _⟩
theorem SXs.cons {d : PyData} {ds : List PyData} {n k m : Nat} (h : SX d n m) (r : SXs ds k m) : SXs (d :: ds) (n + 1 + k) m :=
  ⟨fun e he => by
    rcases List.mem_cons.mp he with rfl | he
    · exact ⟨h.asc, h.sh, h.ok, h.dp⟩
    · exact r.each e he, by have := h.w; have := r.w; simp only [List.map_cons, List.sum_cons]; omega⟩
theorem SXs.mono {ds : List PyData} {n k m j : Nat} (h : SXs ds n m) (a : n ≤ k) (c : m ≤ j) : SXs ds k j := ⟨fun d hd => let ⟨x, y, z, t⟩ := h.each d hd; ⟨x, y, z, Nat.le_trans t c⟩, Nat.le_trans h.w a⟩
theorem SX.mono {d : PyData} {n k m j : Nat} (h : SX d n m) (a : n ≤ k) (c : m ≤ j) : SX d k j := ⟨h.asc, h.sh, h.ok, Nat.le_trans h.w a, Nat.le_trans h.dp c⟩
theorem sum_le_mem : ∀ {ds : List PyData} {d : PyData}, d ∈ ds → d.weight + 1 ≤ (ds.map fun d => d.weight + 1).sum
  | e :: ds, d, h => by
    simp only [List.map_cons, List.sum_cons]
    rcases List.mem_cons.mp h with rfl | h
    · omega
    · have := sum_le_mem h
      omega
theorem SXs.get {ds : List PyData} {n m : Nat} (h : SXs ds n m) {d : PyData} (hd : d ∈ ds) : SX d (n - 1) m := by
  obtain ⟨a, b, c, e⟩ := h.each d hd
  have := sum_le_mem hd
  have := h.w
  exact ⟨a, b, c, by omega, e⟩
theorem sum_set : ∀ {ds : List PyData} {i : Nat} {d : PyData}, ((ds.set i d).map fun d => d.weight + 1).sum ≤ (ds.map fun d => d.weight + 1).sum + (d.weight + 1)
  | [], i, d => by simp
  | e :: ds, 0, d => by simp only [List.set_cons_zero, List.map_cons, List.sum_cons]; omega
  | e :: ds, i + 1, d => by
    have := sum_set (ds := ds) (i := i) (d := d)
    simp only [List.set_cons_succ, List.map_cons, List.sum_cons]
    omega
theorem sum_set_of : ∀ {ds : List PyData} {i : Nat} {d e : PyData}, ds[i]? = some e → ((ds.set i d).map fun d => d.weight + 1).sum + e.weight = (ds.map fun d => d.weight + 1).sum + d.weight
  | [], i, d, e, h => by simp at h
  | x :: ds, 0, d, e, h => by
    have z : x = e := by simpa using h
    subst z
    simp only [List.set_cons_zero, List.map_cons, List.sum_cons]
    omega
  | x :: ds, i + 1, d, e, h => by
    have := sum_set_of (ds := ds) (i := i) (d := d) (e := e) (by simpa using h)
    simp only [List.set_cons_succ, List.map_cons, List.sum_cons]
    omega
theorem SXs.append {ds es : List PyData} {n k m : Nat} (h : SXs ds n m) (r : SXs es k m) : SXs (ds ++ es) (n + k) m :=
  ⟨fun d hd => (List.mem_append.mp hd).elim (h.each d) (r.each d), by have := h.w; have := r.w; rw [List.map_append, List.sum_append]; omega⟩
theorem sub_sum : ∀ {es ds : List PyData}, es.Sublist ds → (es.map fun d => d.weight + 1).sum ≤ (ds.map fun d => d.weight + 1).sum
  | _, _, .slnil => Nat.le_refl _
  | _, _, .cons a h => by
    have := sub_sum h
    simp only [List.map_cons, List.sum_cons]
    omega
  | _, _, .cons₂ a h => by
    have := sub_sum h
    simp only [List.map_cons, List.sum_cons]
    omega
theorem SXs.sub {ds es : List PyData} {n m : Nat} (h : SXs ds n m) (s : es.Sublist ds) : SXs es n m :=
  ⟨fun d hd => h.each d (s.subset hd), Nat.le_trans (sub_sum s) h.w⟩
theorem SX.none : SX .none 0 0 := ⟨rfl, rfl, rfl, Nat.le_refl _, by simp [PyData.depth]⟩
theorem SX.bool (x : Bool) : SX (.bool x) 0 0 := ⟨rfl, rfl, rfl, Nat.le_refl _, by simp [PyData.depth]⟩
theorem SX.str {x : Str} {n : Nat} (h : Asc x) (l : x.cps.size ≤ n) : SX (.str x) n 0 :=
  ⟨List.all_eq_true.mpr fun c hc => decide_eq_true (h c hc), by simp only [PyData.leavesShort, List.all_eq_true, decide_eq_true_eq]; exact fun c hc => Nat.lt_trans (h c hc) (by decide), rfl, l, by simp [PyData.depth]⟩
theorem SX.empty : SX (.dict []) 0 1 := ⟨rfl, rfl, rfl, Nat.le_refl _, by simp [PyData.depth, PyData.depthKv]⟩
theorem SX.int {i : Int} (h : i.natAbs < 10 ^ 39) : SX (.int i) 130 0 := by
  have l2 : i.natAbs.log2 < 130 := by
    by_cases z : i.natAbs = 0
    · rw [z]; decide
    · exact (Nat.log2_lt z).mpr (Nat.lt_trans h (by decide))
  refine ⟨rfl, ?_, by simp only [PyData.showable, decide_eq_true_eq]; omega, ?_, by simp [PyData.depth]⟩
  · have e := int_text_length_le10 (k := 39) (by decide) h
    show decide ((Str.ofString (toString i)).length ≤ 40) = true
    refine decide_eq_true ?_
    rw [PySem.ofString_length]
    exact e
  · simp only [PyData.weight]
    split <;> omega
theorem SX.tx {d : PyData} {n m : Nat} (h : SX d n m) (a : n ≤ 300000) (c : m ≤ 60) : TX d := by
  have z := PyData.shown_le 40 (by decide) d h.sh
  have w := h.w
  refine ⟨h.ok, ?_, Nat.le_trans h.dp c⟩
  rw [sizeLine_eq]
  omega
/-- the text of it, as data -/
theorem SX.said {d : PyData} {n m : Nat} (h : SX d n m) : Sm (.str d.shown) (42 * n + 40) 0 := by
  have z := PyData.shown_le 40 (by decide) d h.sh
  have w := h.w
  exact Sm.str ⟨by show d.shown.length ≤ _; omega, (shown_asc d h.asc).ok⟩
end HK

namespace K11
open PySem PySem.Spec PyProof.Rows L2 HK
def top (i : Nat) : Stmt := PySem.Challenge.pw_hookcarts_k11_kinds_of_any_value.main.body.getD i (.Pass ⟨0, 0, 0, 0⟩)
abbrev sBag : Stmt := top 9
abbrev sTake : Stmt := top 10
abbrev sAlike : Stmt := top 11
abbrev sOne : Stmt := top 12
abbrev sKinds : Stmt := top 13
theorem yes_ok {σ : L2.St} {H : Hp} {A B : Hp → Prop} (h : A H) : tYes σ H (fun b H3 => if b = true then A H3 else B H3) := by
  show (if true = true then A H else B H)
  rw [if_pos rfl]
  exact h
theorem fm {x m : Int} (h : 0 < m) : 0 ≤ x.fmod m ∧ x.fmod m < m := by
  rw [Int.fmod_eq_emod_of_nonneg _ (by omega)]
  exact ⟨Int.emod_nonneg _ (by omega), Int.emod_lt_of_pos _ h⟩
theorem nz {b : Int} (h : b ≠ 0) : b ≠ 0 := h
/-! ### the bag of draws -/
def Bag (b : Addr) (H : Hp) : Prop := ∃ (r s i : Int) (l : Addr) (ns : List Int), H b = some (.lst [.int r, .int s, .int i, .ref l]) ∧ H l = some (.lst (ns.map V.int)) ∧ l ≠ b ∧ 0 ≤ r ∧ 0 ≤ s ∧ s < 2147483647 ∧ 0 ≤ i ∧ ∀ n ∈ ns, 0 ≤ n
theorem Bag.same {b : Addr} {H H' : Hp} (g : Bag b H) (s : Same H H') : Bag b H' := by
  obtain ⟨r, s', i, l, ns, h1, h2, z⟩ := g
  exact ⟨r, s', i, l, ns, s _ _ h1, s _ _ h2, z⟩
theorem Bag.ne {b p : Addr} {H : Hp} (g : Bag b H) (n : H p = none) : p ≠ b := by
  obtain ⟨r, s', i, l, ns, h1, h2, z⟩ := g
  exact (ne_of_none h1 n).symm
def BagL (b l : Addr) (H : Hp) : Prop := ∃ (r s i : Int) (ns : List Int), H b = some (.lst [.int r, .int s, .int i, .ref l]) ∧ H l = some (.lst (ns.map V.int)) ∧ l ≠ b ∧ 0 ≤ r ∧ 0 ≤ s ∧ s < 2147483647 ∧ 0 ≤ i ∧ ∀ n ∈ ns, 0 ≤ n
theorem BagL.bag {b l : Addr} {H : Hp} (g : BagL b l H) : Bag b H := by
  obtain ⟨r, s, i, ns, h1, h2, z⟩ := g
  exact ⟨r, s, i, l, ns, h1, h2, z⟩
theorem Bag.L {b : Addr} {H : Hp} (g : Bag b H) : ∃ l, BagL b l H := by
  obtain ⟨r, s, i, l, ns, h1, h2, z⟩ := g
  exact ⟨l, r, s, i, ns, h1, h2, z⟩
theorem BagL.same {b l : Addr} {H H' : Hp} (g : BagL b l H) (s : Same H H') : BagL b l H' := by
  obtain ⟨r, s', i, ns, h1, h2, z⟩ := g
  exact ⟨r, s', i, ns, s _ _ h1, s _ _ h2, z⟩
theorem BagL.upd {b l p : Addr} {H H' : Hp} {o : HO} (g : BagL b l H') (g0 : BagL b l H) (n : H p = none) : BagL b l (upd H' p o) := by
  obtain ⟨r, s', i, ns, h1, h2, z⟩ := g
  obtain ⟨_, _, _, _, e1, e2, _⟩ := g0
  exact ⟨r, s', i, ns, by rw [upd_ne (ne_of_none e1 n)]; exact h1, by rw [upd_ne (ne_of_none e2 n)]; exact h2, z⟩
/-- what a draw keeps: all but the bag's own list, where the bag's cells stand, what is told -/
structure Keep (b : Addr) (H H' : Hp) : Prop where
  k : HK.Keep b H H'
  g : ∀ l, BagL b l H → BagL b l H'
  on : ∀ q, H q ≠ none → H' q ≠ none
instance {b : Addr} {H H' : Hp} : CoeFun (Keep b H H') (fun _ => ∀ c o, c ≠ b → H c = some o → H' c = some o) := ⟨fun k => k.k⟩
instance {b : Addr} {H H' : Hp} : Coe (Keep b H H') (HK.Keep b H H') := ⟨fun k => k.k⟩
theorem on_same {H H' : Hp} (s : Same H H') : ∀ q, H q ≠ none → H' q ≠ none := fun q h => by
  cases e : H q with
  | none => exact absurd e h
  | some o => rw [s _ _ e]; exact fun z => nomatch z
theorem on_upd {H H' : Hp} {p : Addr} {o : HO} (x : ∀ q, H q ≠ none → H' q ≠ none) : ∀ q, H q ≠ none → (upd H' p o) q ≠ none := fun q h => by
  by_cases e : q = p
  · subst e
    rw [upd_same]
    exact fun z => nomatch z
  · rw [upd_ne e]
    exact x q h
theorem Keep.refl (b : Addr) (H : Hp) : Keep b H H := ⟨HK.Keep.refl b H, fun _ h => h, fun _ h => h⟩
theorem Keep.trans {b : Addr} {H H1 H2 : Hp} (x : Keep b H H1) (y : Keep b H1 H2) : Keep b H H2 := ⟨HK.Keep.trans x.k y.k, fun l h => y.g l (x.g l h), fun q h => y.on q (x.on q h)⟩
theorem Keep.of {b : Addr} {H H' : Hp} (x : Same H H') : Keep b H H' := ⟨HK.Keep.of x, fun l h => h.same x, on_same x⟩
theorem Keep.newer {b : Addr} {H H1 : Hp} {p : Addr} {o : HO} (x : Keep b H H1) (n : H p = none) : Keep b H (upd H1 p o) := ⟨HK.Keep.newer x.k n, fun l h => (x.g l h).upd h n, on_upd x.on⟩
theorem Keep.bag {b : Addr} {H H1 : Hp} {p : Addr} {o : HO} (x : Keep b H H1) (g : Bag b H) (n : H p = none) : Bag b (upd H1 p o) := by
  obtain ⟨l, h⟩ := g.L
  exact ((x.g l h).upd h n).bag
theorem Keep.free {b : Addr} {H H' : Hp} (x : Keep b H H') {l : Addr} (nb : l ≠ b) (h : H' l = none) : H l = none := HK.Keep.free x.k nb h
theorem Keep.at {b l : Addr} {r s i : Int} {H : Hp} {o : HO} (h1 : H b = some (.lst [.int r, .int s, .int i, .ref l])) (g : BagL b l (upd H b o)) : Keep b H (upd H b o) :=
  ⟨fun x u n q => by rw [upd_ne n]; exact q, fun l0 g0 => by
    obtain ⟨_, _, _, _, e, _⟩ := g0
    rw [h1] at e
    cases e
    exact g, on_upd fun _ h => h⟩
structure TxB (mg : Str → Option Value) : Prop where
  n_abs : mg "abs" = none
  n_len : mg "len" = none
  n_int : mg "int" = none
def spBag (K : PySem.W.Frag) : Sp := fun vs H Q _ => ∃ (a : Addr) (ns : List Int), vs = [.ref a] ∧ SqL K H a (ns.map V.int) ∧ ns.length ≤ 63 ∧ ∀ b H', Same H H' → H b = none → Bag b H' → Q (.ref b) H'
section
variable {P : Program} {w : World} {K : PySem.W.Frag} {mg : Str → Option Value} {base : Heap}
theorem cut_map {ns : List Int} {lo hi : Option Int} : ∃ ms : List Int, cutV (ns.map V.int) lo hi = ms.map V.int ∧ ms.length ≤ ns.length := by
  refine ⟨((ns.drop (HT.sIx (ns.map V.int).length 0 lo)).take (HT.sIx (ns.map V.int).length (ns.map V.int).length hi - HT.sIx (ns.map V.int).length 0 lo)), ?_, ?_⟩
  · unfold cutV
    rw [List.map_take, List.map_drop]
  · rw [List.length_take, List.length_drop]
    omega
theorem scBag : FnScope ["_law_script", "_law_cell"] ["_law_script"] (defScope sBag) := ⟨rfl, rfl, rfl, by decide +kernel, rfl, by decide +kernel, by decide +kernel⟩
theorem ok_bag {f : Addr} {fd : FuncData} (F : Fun K "_law_bag" "_law_bag" sBag f fd) (T : TxB mg) : FnOk P w K mg base CX0 1 f fd ["_law_script"] (spBag K) := by
  refine F.ok scBag (fun vs H Q E h => ?_) (fun cdv A outer s H vs Q E hr h => ?_)
  · obtain ⟨a, ns, rfl, _⟩ := h
    rfl
  · obtain ⟨a, ns, rfl, hS, hl, k⟩ := h
    have nd := scBag.nd
    refine ⟨_, (pss_one (ps_ret (pe_lst (pa_cons pe_int (pa_cons pe_int (pa_cons pe_int (pa_cons (pe_lc (own := [("_law_cell", 1)]) (g := (gName 1)) (tt := tYes) rfl nd (pi_list (pe_slice sl_list (pv 0) po_none (po_some pe_int))) (blkOk_by (N := ["_law_script", "_law_cell"]) (sc := defScope sBag) (by decide +kernel)) (fun _ _ _ _ _ => (pg_name (i := 1) nd rfl (Or.inl rfl))) (fun _ _ _ _ _ => pts_nil) (fun _ _ _ _ _ => (pe_callB call_abs (by rfl) T.n_abs (by decide +kernel) (pa_cons (pv 1) pa_nil)))) pa_nil))))))), ?_⟩
    refine ⟨_, rfl, 63, rfl, a, _, rfl, hS, fun p np => ?_⟩
    obtain ⟨ms, em, lm⟩ := cut_map (ns := ns) (lo := none) (hi := some 63)
    rw [em]
    refine ⟨p, rfl, ⟨_, SqL.of upd_same⟩, fun D nD => ?_⟩
    refine lc_list (K := K) (a := p) (xs := ms.map V.int) (fun i H' => Same H H' ∧ H' p = some (.lst (ms.map V.int)) ∧ ∃ acc : List Int, acc.length = i ∧ (∀ n ∈ acc, 0 ≤ n) ∧ H' D = some (.lst (acc.map V.int))) ?_ (fun i H' _ z => SqL.of z.2.1) ?_ ?_
    · exact ⟨Same.newer (Same.new np) ((Same.new np).free nD), by rw [upd_ne (ne_of_none upd_same nD), upd_same], [], rfl, fun n hn => (List.not_mem_nil hn).elim, upd_same⟩
    · rintro i x H' hi ⟨sm, hp', acc, la, nn, hD⟩
      obtain ⟨z, hz, rfl⟩ : ∃ z, ms[i]? = some z ∧ V.int z = x := by simpa [List.getElem?_map] using hi
      have li : i < ms.length := (List.getElem?_eq_some_iff.mp hz).1
      refine ⟨rfl, ?_⟩
      refine yes_ok ?_
      refine ⟨_, rfl, z, rfl, acc.map V.int, hD, small1000 (by rw [List.length_map]; omega), ?_⟩
      have npD : p ≠ D := ne_of_none upd_same nD
      refine ⟨Same.newer sm ((Same.new np).free nD), by rw [upd_ne npD]; exact hp', acc ++ [if z < 0 then -z else z], by simp [la], fun n hn => ?_, by rw [upd_same, List.map_append]; rfl⟩
      rcases List.mem_append.mp hn with hn | hn
      · exact nn n hn
      · rw [List.mem_singleton.mp hn]
        split <;> omega
    · rintro H' ⟨sm, hp', acc, la, nn, hD⟩
      refine ⟨by show 4 ≤ sizeLine; decide, fun b nb => k b _ (Same.newer sm (sm.free nb)) (sm.free nb) ?_⟩
      exact ⟨0, 1234567891, 0, D, acc, upd_same, by rw [upd_ne (ne_of_none hD nb)]; exact hD, ne_of_none hD nb, by decide, by decide, by decide, by decide, nn⟩
/-! ### a draw -/
def spTake : Sp := fun vs H Q _ => ∃ (b : Addr) (m : Int), vs = [.ref b, .int m] ∧ Bag b H ∧ 1 ≤ m ∧ m < 1073741824 ∧ ∀ r H', 0 ≤ r → r < m → Bag b H' → Keep b H H' → Q (.int r) H'
theorem scTake : FnScope ["_law_bag_here", "_law_many", "_law_cell", "_law_mixed", "_law_drawn", "_law_early", "_law_second"] ["_law_bag_here", "_law_many"] (defScope sTake) := ⟨rfl, rfl, rfl, by decide +kernel, rfl, by decide +kernel, by decide +kernel⟩
theorem ok_take {f : Addr} {fd : FuncData} (F : Fun K "_law_take" "_law_take" sTake f fd) (T : TxB mg) : FnOk P w K mg base CX0 1 f fd ["_law_bag_here", "_law_many"] spTake := by
  refine F.ok scTake (fun vs H Q E h => ?_) (fun cdv A outer s H vs Q E hr h => ?_)
  · obtain ⟨b, m, rfl, _⟩ := h
    rfl
  · obtain ⟨b, m, rfl, g, m1, m2, k⟩ := h
    have nd := scTake.nd
    refine ⟨_, (C8.pss_cut (ps_if (pt_cmpR op_eq (pe_ix ix_list (pv 0) pe_int (fun _ _ => rfl)) pe_int (nomark _))
      (pss_cons (ps_set (i := 2) nd rfl (Or.inl rfl) pe_int)
      (C8.pss_cut (ps_if (pt_cmpR op_lt (pe_ix ix_list (pv 0) pe_int (fun _ _ => rfl)) (pe_callB call_len_seq (by rfl) T.n_len (by decide +kernel) (pa_cons (pe_ix ix_list (pv 0) pe_int (fun _ _ => rfl)) pa_nil)) (nomark _))
        (pss_one (ps_set (i := 2) nd rfl (Or.inl rfl) (pe_ix ix_list (pe_ix ix_list (pv 0) pe_int (fun _ _ => rfl)) (pe_ix ix_list (pv 0) pe_int (fun _ _ => rfl)) (fun _ _ => rfl))))
         pss_nil)
      (pss_cons (ps_augS (pv 0) pe_int get_list pe_int ip_add set_list)
      (C8.pss_cut (ps_if (pt_cmpR op_ge (pv 2) pe_int (nomark _))
        (pss_one (ps_asg (pv 2) (pg_sub (pv 0) pe_int set_list)))
         pss_nil)
      (pss_cons (ps_set (i := 3) nd rfl (Or.inl rfl) (pe_op op_add (pe_op op_add (pe_op op_mul (pe_ix ix_list (pv 0) pe_int (fun _ _ => rfl)) pe_int) (pe_op op_modN (pe_callTy call_int1 (by rfl) T.n_int (by decide +kernel) (pa_cons (pv 2) pa_nil)) pe_int)) (pe_op op_mul pe_int (pe_ix ix_list (pv 0) pe_int (fun _ _ => rfl)))))
      (pss_one (ps_asg (pe_op op_modN (pe_callTy call_int1 (by rfl) T.n_int (by decide +kernel) (pa_cons (pv 3) pa_nil)) pe_int) (pg_sub (pv 0) pe_int set_list))))))))
       pss_nil)
    (pss_cons (ps_if (pt_cmpR op_gt (pe_ix ix_list (pv 0) pe_int (fun _ _ => rfl)) pe_int (nomark _))
      (pss_cons (ps_set (i := 4) nd rfl (Or.inl rfl) (pe_op op_modN (pe_callTy call_int1 (by rfl) T.n_int (by decide +kernel) (pa_cons (pe_ix ix_list (pv 0) pe_int (fun _ _ => rfl)) pa_nil)) (pv 1)))
      (pss_cons (ps_asg (pe_op op_fdivN (pe_ix ix_list (pv 0) pe_int (fun _ _ => rfl)) (pv 1)) (pg_sub (pv 0) pe_int set_list))
      (pss_one (ps_ret (pv 4)))))
       pss_nil)
    (pss_cons (ps_set (i := 5) nd rfl (Or.inl rfl) (pe_op op_modN (pe_callTy call_int1 (by rfl) T.n_int (by decide +kernel) (pa_cons (pe_op op_mul (pe_op op_add (pe_ix ix_list (pv 0) pe_int (fun _ _ => rfl)) pe_int) pe_int) pa_nil)) pe_int))
    (pss_cons (ps_set (i := 6) nd rfl (Or.inl rfl) (pe_op op_modN (pe_callTy call_int1 (by rfl) T.n_int (by decide +kernel) (pa_cons (pe_op op_mul (pe_op op_modN (pe_callTy call_int1 (by rfl) T.n_int (by decide +kernel) (pa_cons (pe_op op_mul (pv 5) (pv 5)) pa_nil)) pe_int) pe_int) pa_nil)) pe_int))
    (pss_one (ps_ret (pe_op op_modN (pe_callTy call_int1 (by rfl) T.n_int (by decide +kernel) (pa_cons (pe_op op_fdivN (pv 6) pe_int) pa_nil)) (pv 1)))))))), ?_⟩
    have g' := g
    obtain ⟨r, s0, i, l, ns, h1, h2, nl, r0, s1, s2, i0, nn⟩ := g'
    -- ahead of the second part: the bag again, with some r
    refine ⟨fun σ H1 => Bag b H1 ∧ Keep b H H1 ∧ ∃ c d, σ = [some (.ref b), some (.int m), c, d, none, none, none], ?_, ?_⟩
    · refine ⟨_, rfl, b, _, _, _, rfl, rfl, SqL.of h1, rfl, rfl, _, rfl, ?_⟩
      refine ite2 (fun z => ?_) (fun z => ?_)
      · refine ⟨fun σ H1 => H1 = H ∧ ∃ c : Int, 0 ≤ c ∧ σ = [some (.ref b), some (.int m), some (.int c), none, none, none, none], ?_, ?_⟩
        · refine ⟨_, rfl, b, _, _, _, rfl, rfl, SqL.of h1, rfl, _, rfl, b, _, _, _, rfl, rfl, SqL.of h1, rfl, l, _, rfl, .inl (SqL.of h2), _, _, rfl, rfl, _, rfl, ?_⟩
          refine ite2 (fun lt => ?_) (fun _ => ⟨rfl, 0, by decide, rfl⟩)
          have lt' : i < ((ns.map V.int).length : Int) := of_decide_eq_true lt
          rw [List.length_map] at lt'
          have hi : i.toNat < ns.length := by omega
          have hz : (ns.map V.int)[i.toNat]? = some (.int ns[i.toNat]) := by rw [List.getElem?_map, List.getElem?_eq_getElem hi]; rfl
          have hz' := atI_nat hz
          rw [Int.toNat_of_nonneg i0] at hz'
          refine ⟨_, rfl, b, _, _, _, rfl, rfl, SqL.of h1, rfl, _, rfl, b, _, _, _, rfl, rfl, SqL.of h1, rfl, l, _, _, _, rfl, rfl, SqL.of h2, hz', ?_⟩
          exact ⟨rfl, _, nn _ (List.getElem_mem hi), rfl⟩
        · rintro σ H1 ⟨rfl, c, c0, rfl⟩
          refine ⟨_, rfl, b, _, _, _, rfl, rfl, SqL.of h1, rfl, _, _, rfl, rfl, b, _, _, _, rfl, rfl, h1, rfl, ?_⟩
          refine ⟨fun σ H2 => ∃ r', 0 ≤ r' ∧ H2 = upd H1 b (.lst [.int r', .int s0, .int (i + 1), .ref l]) ∧ σ = [some (.ref b), some (.int m), some (.int c), none, none, none, none], ?_, ?_⟩
          · refine ⟨_, rfl, _, _, rfl, rfl, _, rfl, ?_⟩
            refine ite2 (fun _ => ?_) (fun _ => ⟨r, r0, rfl, rfl⟩)
            refine ⟨_, rfl, _, rfl, b, _, _, _, rfl, rfl, upd_same, rfl, c, c0, ?_, rfl⟩
            rw [upd_upd]
            rfl
          · rintro σ H2 ⟨r', r0', rfl, rfl⟩
            refine ⟨_, rfl, b, _, _, _, rfl, rfl, SqL.of upd_same, rfl, _, _, rfl, rfl, .inr ⟨by decide, by decide⟩, ?_⟩
            refine ⟨_, rfl, .inl ⟨_, rfl, _, _, rfl, rfl, nz (by decide), _, _, rfl, rfl, ?_⟩⟩
            refine ⟨_, rfl, b, _, _, _, rfl, rfl, SqL.of upd_same, rfl, _, _, rfl, rfl, .inl ⟨by decide, by decide⟩, _, _, rfl, rfl, ?_⟩
            refine ⟨_, rfl, .inl ⟨_, rfl, _, _, rfl, rfl, nz (by decide), _, rfl, b, _, _, _, rfl, rfl, upd_same, rfl, ?_⟩⟩
            rw [upd_upd]
            refine (fun gl : BagL b l _ => ⟨gl.bag, Keep.at h1 gl, _, _, rfl⟩) ⟨r', _, i + 1, ns, upd_same, by rw [upd_ne nl]; exact h2, nl, r0', ?_, ?_, by omega, nn⟩
            · exact (fm (by decide)).1
            · exact (fm (by decide)).2
      · exact ⟨g, Keep.refl _ _, none, none, rfl⟩
    · rintro σ H1 ⟨g1, kp, c, d, rfl⟩
      obtain ⟨r, s0, i, l, ns, h1, h2, nl, r0, s1, s2, i0, nn⟩ := id g1
      refine ⟨_, rfl, b, _, _, _, rfl, rfl, SqL.of h1, rfl, _, _, rfl, rfl, _, rfl, ?_⟩
      refine ite2 (fun _ => ?_) (fun _ => ?_)
      · refine ⟨_, rfl, b, _, _, _, rfl, rfl, SqL.of h1, rfl, .inl ⟨_, rfl, _, rfl, _, _, rfl, rfl, nz (by omega), ?_⟩⟩
        refine ⟨_, rfl, b, _, _, _, rfl, rfl, SqL.of h1, rfl, _, rfl, _, _, rfl, rfl, ⟨by omega, by omega⟩, _, rfl, b, _, _, _, rfl, rfl, h1, rfl, _, rfl, ?_⟩
        refine (fun gl : BagL b l _ => k (r.fmod m) _ (fm (by omega)).1 (fm (by omega)).2 gl.bag (kp.trans (Keep.at h1 gl))) ⟨_, s0, i, ns, upd_same, by rw [upd_ne nl]; exact h2, nl, ?_, s1, s2, i0, nn⟩
        rw [Int.fdiv_eq_ediv_of_nonneg _ (by omega)]
        exact Int.ediv_nonneg r0 (by omega)
      · refine ⟨_, rfl, b, _, _, _, rfl, rfl, SqL.of h1, rfl, _, _, rfl, rfl, _, _, rfl, rfl, .inr ⟨by decide, by decide⟩, .inl ⟨_, rfl, _, _, rfl, rfl, nz (by decide), ?_⟩⟩
        have he' := fm (x := (s0 + 1) * 39373) (m := 1000000007) (by decide)
        have big : (2 : Int) ^ 64 = 18446744073709551616 := by decide
        refine ⟨_, rfl, _, rfl, _, _, rfl, rfl, .inl ⟨by rw [big]; omega, by rw [big]; omega⟩, .inl ⟨_, rfl, _, _, rfl, rfl, nz (by decide), _, _, rfl, rfl, .inr ⟨by decide, by decide⟩, .inl ⟨_, rfl, _, _, rfl, rfl, nz (by decide), ?_⟩⟩⟩
        refine ⟨_, rfl, _, _, rfl, rfl, ⟨by decide, by decide⟩, .inl ⟨_, rfl, _, rfl, _, _, rfl, rfl, nz (by omega), ?_⟩⟩
        exact k _ _ (fm (by omega)).1 (fm (by omega)).2 g1 kp
/-! ### one of several -/
def spOne : Sp := fun vs H Q _ => ∃ (b a : Addr) (xs : List V), vs = [.ref b, .ref a] ∧ Bag b H ∧ a ≠ b ∧ H a = some (.lst xs) ∧ 1 ≤ xs.length ∧ xs.length < 1073741824 ∧ ∀ (i : Nat) (v : V) H', xs[i]? = some v → Bag b H' → Keep b H H' → Q v H'
theorem scOne : FnScope ["_law_bag_here", "_law_things"] ["_law_bag_here", "_law_things"] (defScope sOne) := ⟨rfl, rfl, rfl, by decide +kernel, rfl, by decide +kernel, by decide +kernel⟩
theorem ok_one {f fT : Addr} {fd fdT : FuncData} (F : Fun K "_law_one" "_law_one" sOne f fd) (T : TxB mg) (gT : mg "_law_take" = some (.ref fT)) (FT : Fun K "_law_take" "_law_take" sTake fT fdT) (bT : Binds K fdT ["_law_bag_here", "_law_many"] []) :
    FnOk P w K mg base CX0 2 f fd ["_law_bag_here", "_law_things"] spOne := by
  have GT : FnOk P w K mg base CX0 1 fT fdT _ spTake := ok_take FT T
  refine F.ok scOne (fun vs H Q E h => ?_) (fun cdv A outer s H vs Q E hr h => ?_)
  · obtain ⟨b, a, xs, rfl, _⟩ := h
    rfl
  · obtain ⟨b, a, xs, rfl, g, nab, hx, l1, l2, k⟩ := h
    refine ⟨_, (pss_one (ps_ret (pe_ix ix_list (pv 1) (pe_call GT hr rfl gT FT.kp bT .nil pass0 (pa_cons (pv 0) (pa_cons (pe_callB call_len_seq (by rfl) T.n_len (by decide +kernel) (pa_cons (pv 1) pa_nil)) pa_nil))) (fun _ _ => rfl)))), ?_⟩
    refine ⟨_, rfl, _, rfl, _, rfl, a, _, rfl, .inl (SqL.of hx), b, _, rfl, g, by omega, by omega, fun r H' r0 r1 g' kp => ?_⟩
    have hi : r.toNat < xs.length := by omega
    have hz := atI_nat (List.getElem?_eq_getElem hi)
    rw [Int.toNat_of_nonneg r0] at hz
    exact ⟨a, _, _, _, rfl, rfl, SqL.of (kp _ _ nab hx), hz, k _ _ _ (List.getElem?_eq_getElem hi) g' kp⟩
/-! ### alike -/
structure TxA (mg : Str → Option Value) : Prop where
  n_repr : mg "repr" = none
def spAlike (K : PySem.W.Frag) : Sp := fun vs H Q _ => ∃ (x y : V) (d : PyData), vs = [x, y] ∧ Dp K H x d ∧ Dp K H y d ∧ Fine d ∧ Q (.bl true) H
theorem scAlike : FnScope ["_law_found", "_law_due"] ["_law_found", "_law_due"] (defScope sAlike) := ⟨rfl, rfl, rfl, by decide +kernel, rfl, by decide +kernel, by decide +kernel⟩
theorem ok_alike {f : Addr} {fd : FuncData} (F : Fun K "_law_alike" "_law_alike" sAlike f fd) (T : TxA mg) : FnG P w K mg base CX0 1 f fd ["_law_found", "_law_due"] (spAlike K) := by
  refine fnG F scAlike (fun vs H Q E h => ?_) (fun cdv A outer s H vs Q E hq hr h => ?_)
  · obtain ⟨x, y, d, rfl, _⟩ := h
    rfl
  · obtain ⟨x, y, d, rfl, hx, hy, ⟨ht, hs, hl⟩, k⟩ := h
    refine ⟨_, (pss_one (ps_ret (pe_and (pe_cmpR (op_eqD hr.units) (pv 0) (pv 1) (nomark _)) (pe_one (pe_cmpR op_eq (pe_callB (call_reprD hq hr.units) (by rfl) T.n_repr (by decide +kernel) (pa_cons (pv 0) pa_nil)) (pe_callB (call_reprD hq hr.units) (by rfl) T.n_repr (by decide +kernel) (pa_cons (pv 1) pa_nil)) (nomark _)))))), ?_⟩
    refine ⟨_, rfl, _, rfl, d, d, hx, hy, hs, hs, true, congrArg V.bl (SeqAt.eqv_refl d hl), ?_⟩
    refine iteT ⟨_, rfl, x, d, rfl, hx, ht, _, rfl, y, d, rfl, hy, ht, rfl, ?_⟩
    have e : V.bl (decide (V.str d.shown = V.str d.shown)) = V.bl true := by rw [decide_eq_true rfl]
    show Q (V.bl (decide (V.str d.shown = V.str d.shown))) H
    rw [e]
    exact k
/-! ### kinds -/
structure TxK (mg : Str → Option Value) : Prop where
  n_range : mg "range" = none
  n_sorted : mg "sorted" = none
structure KindS (k : Str) : Prop where
  lo : 1 ≤ k.cps.size
  hi : k.cps.size ≤ 8
  let' : ∀ c ∈ k.cps.toList, 97 ≤ c ∧ c ≤ 122
def spKinds : Sp := fun vs H Q _ => ∃ (b : Addr) (n : Int), vs = [.ref b, .int n] ∧ Bag b H ∧ 1 ≤ n ∧ n ≤ 8 ∧ ∀ (ks : List Str) p H', (ks.length : Int) = n → (∀ k ∈ ks, KindS k) → H p = none → H' p = some (.lst (ks.map V.str)) → Bag b H' → Keep b H H' → Q (.ref p) H'
def menu : List Str := ["a", "aa", "b", "ab", "ba", "z", "zz", "hook", "end", "zzzzzzzz", "true", "mm"]
def abc8 : List Str := ["a", "b", "c", "d", "e", "f", "g", "h"]
def isKindS (k : Str) : Bool := decide (1 ≤ k.cps.size) && decide (k.cps.size ≤ 8) && k.cps.toList.all fun c => decide (97 ≤ c) && decide (c ≤ 122)
theorem kind_by {k : Str} (h : isKindS k = true) : KindS k := by
  unfold isKindS at h
  simp only [Bool.and_eq_true, decide_eq_true_eq, List.all_eq_true] at h
  exact ⟨h.1.1, h.1.2, h.2⟩
theorem kinds_by {l : List Str} (h : l.all isKindS = true) : ∀ k ∈ l, KindS k := fun k hk => kind_by (List.all_eq_true.mp h k hk)
theorem menu_kinds : ∀ k ∈ menu ++ menu, KindS k := kinds_by (by decide +kernel)
theorem abc8_kinds : ∀ k ∈ abc8, KindS k := kinds_by (by decide +kernel)
def cutG {α : Type} (l : List α) (lo hi : Option Int) : List α := (l.drop (HT.sIx l.length 0 lo)).take (HT.sIx l.length l.length hi - HT.sIx l.length 0 lo)
theorem cut_str (l : List Str) (lo hi : Option Int) : cutV (l.map V.str) lo hi = (cutG l lo hi).map V.str := by
  unfold cutV cutG
  rw [List.map_take, List.map_drop, List.length_map]
theorem cutG_mem {α : Type} {l : List α} {lo hi : Option Int} : ∀ x ∈ cutG l lo hi, x ∈ l := fun x hx => List.mem_of_mem_drop (List.mem_of_mem_take hx)
theorem cutG_len {α : Type} {l : List α} {lo hi : Int} (h0 : 0 ≤ lo) (h1 : lo ≤ hi) (h2 : hi ≤ (l.length : Int)) : ((cutG l (some lo) (some hi)).length : Int) = hi - lo ∧ ∀ x ∈ cutG l (some lo) (some hi), x ∈ l := by
  refine ⟨?_, cutG_mem⟩
  obtain ⟨a, rfl⟩ := Int.eq_ofNat_of_zero_le h0
  obtain ⟨c, rfl⟩ := Int.eq_ofNat_of_zero_le (Int.le_trans h0 h1)
  unfold cutG
  rw [HT.sIx_nat, HT.sIx_nat, List.length_take, List.length_drop]
  omega
theorem cutG_len0 {α : Type} {l : List α} {hi : Int} (h0 : 0 ≤ hi) (h2 : hi ≤ (l.length : Int)) : ((cutG l none (some hi)).length : Int) = hi ∧ ∀ x ∈ cutG l none (some hi), x ∈ l := by
  refine ⟨?_, cutG_mem⟩
  obtain ⟨c, rfl⟩ := Int.eq_ofNat_of_zero_le h0
  unfold cutG
  rw [HT.sIx_nat, HT.sIx_none, List.length_take, List.length_drop]
  omega
theorem stem_ok {r : Int} (h0 : 0 ≤ r) (h1 : r < 3) : (cutS (Str.ofString "xq") none (some r)).cps.size ≤ 2 ∧ ∀ c ∈ (cutS (Str.ofString "xq") none (some r)).cps.toList, 97 ≤ c ∧ c ≤ 122 := by
  have e : r = 0 ∨ r = 1 ∨ r = 2 := by omega
  rcases e with rfl | rfl | rfl
  · exact ⟨by decide +kernel, by decide +kernel⟩
  · exact ⟨by decide +kernel, by decide +kernel⟩
  · exact ⟨by decide +kernel, by decide +kernel⟩
theorem letters_all : ("abcdefghijklmnopqrstuvwxyz" : Str).cps.toList.length = 26 ∧ ∀ c ∈ ("abcdefghijklmnopqrstuvwxyz" : Str).cps.toList, 97 ≤ c ∧ c ≤ 122 := ⟨by decide +kernel, by decide +kernel⟩
theorem letter_at {i : Int} (h0 : 0 ≤ i) (h1 : i < 26) : ∃ c, atI ("abcdefghijklmnopqrstuvwxyz" : Str).cps.toList i = some c ∧ 97 ≤ c ∧ c ≤ 122 := by
  have hi : i.toNat < ("abcdefghijklmnopqrstuvwxyz" : Str).cps.toList.length := by rw [letters_all.1]; omega
  have hz := atI_nat (List.getElem?_eq_getElem hi)
  rw [Int.toNat_of_nonneg h0] at hz
  exact ⟨_, hz, letters_all.2 _ (List.getElem_mem hi)⟩
theorem scKinds : FnScope ["_law_bag_here", "_law_many", "_law_way", "_law_turn", "_law_menu", "_law_stem", "_law_k"] ["_law_bag_here", "_law_many"] (defScope sKinds) := ⟨rfl, rfl, rfl, by decide +kernel, rfl, by decide +kernel, by decide +kernel⟩
theorem ok_kinds {f fT : Addr} {fd fdT : FuncData} (F : Fun K "_law_kinds" "_law_kinds" sKinds f fd) (T : TxB mg) (TK : TxK mg) (gT : mg "_law_take" = some (.ref fT)) (FT : Fun K "_law_take" "_law_take" sTake fT fdT) (bT : Binds K fdT ["_law_bag_here", "_law_many"] []) :
    FnOk P w K mg base CX0 2 f fd ["_law_bag_here", "_law_many"] spKinds := by
  have GT : FnOk P w K mg base CX0 1 fT fdT _ spTake := ok_take FT T
  refine F.ok scKinds (fun vs H Q E h => ?_) (fun cdv A outer s H vs Q E hr h => ?_)
  · obtain ⟨b, n, rfl, _⟩ := h
    rfl
  · obtain ⟨b, n, rfl, g, n1, n8, k⟩ := h
    have nd := scKinds.nd
    refine ⟨_, (pss_cons (ps_asg (pe_tup (pa_cons (pe_call GT hr rfl gT FT.kp bT .nil pass0 (pa_cons (pv 0) (pa_cons pe_int pa_nil))) (pa_cons (pe_call GT hr rfl gT FT.kp bT .nil pass0 (pa_cons (pv 0) (pa_cons pe_int pa_nil))) pa_nil))) (pg_tup (by rfl) (pgs_cons (pg_name (i := 2) nd rfl (Or.inl rfl)) (pgs_cons (pg_name (i := 3) nd rfl (Or.inr rfl)) pgs_nil))))
    (C8.pss_cut (ps_set (i := 4) nd rfl (Or.inl rfl) (pe_lst (pa_cons pe_str (pa_cons pe_str (pa_cons pe_str (pa_cons pe_str (pa_cons pe_str (pa_cons pe_str (pa_cons pe_str (pa_cons pe_str (pa_cons pe_str (pa_cons pe_str (pa_cons pe_str (pa_cons pe_str pa_nil))))))))))))))
    (pss_cons (ps_if (pt_cmpR op_eq (pv 2) pe_int (nomark _))
      (pss_one (ps_ret (pe_callB cr_sortedS (by rfl) TK.n_sorted (by decide +kernel) (pa_cons (pe_slice sl_list (pe_op op_cat (pv 4) (pv 4)) (po_some (pv 3)) (po_some (pe_op op_add (pv 3) (pv 1)))) pa_nil))))
       pss_nil)
    (pss_cons (ps_if (pt_cmpR op_eq (pv 2) pe_int (nomark _))
      (pss_one (ps_ret (pe_slice sl_list (pe_lst (pa_cons pe_str (pa_cons pe_str (pa_cons pe_str (pa_cons pe_str (pa_cons pe_str (pa_cons pe_str (pa_cons pe_str (pa_cons pe_str pa_nil))))))))) po_none (po_some (pv 1)))))
       pss_nil)
    (pss_cons (ps_set (i := 5) nd rfl (Or.inr rfl) (pe_slice sl_str pe_str po_none (po_some (pe_call GT hr rfl gT FT.kp bT .nil pass0 (pa_cons (pv 0) (pa_cons pe_int pa_nil))))))
    (pss_one (ps_ret (pe_callB cr_sortedS (by rfl) TK.n_sorted (by decide +kernel) (pa_cons (pe_lc (own := [("_law_k", 6)]) (g := (gName 6)) (tt := tYes) rfl nd (pi_range1 (by rfl) TK.n_range (pa_cons (pv 1) pa_nil)) (blkOk_by (N := ["_law_bag_here", "_law_many", "_law_way", "_law_turn", "_law_menu", "_law_stem", "_law_k"]) (sc := defScope sKinds) (by decide +kernel)) (fun _ _ _ _ _ => (pg_name (i := 6) nd rfl (Or.inl rfl))) (fun _ _ _ _ _ => pts_nil) (fun _ _ _ _ _ => (pe_op op_add_str (pv 5) (pe_ix ix_str pe_str (pe_op op_modN (pe_callTy call_int1 (by rfl) T.n_int (by decide +kernel) (pa_cons (pe_op op_add (pe_op op_mul pe_int (pv 3)) (pe_op op_mul pe_int (pv 6))) pa_nil)) pe_int) (fun _ _ => rfl))))) pa_nil))))))))), ?_⟩
    refine ⟨_, rfl, b, 4, rfl, g, by decide, by decide, fun way H1 w0 w1 g1 k1 => ?_⟩
    refine ⟨_, rfl, b, 12, rfl, g1, by decide, by decide, fun turn H2 t0 t1 g2 k2 => ?_⟩
    refine ⟨by show 2 ≤ sizeLine; decide, fun t nt => ⟨t, _, rfl, SqT.of upd_same, rfl, _, _, rfl, _, _, rfl, rfl, ?_⟩⟩
    refine ⟨fun σ H3 => ∃ me, H3 me = some (.lst (menu.map V.str)) ∧ Bag b H3 ∧ Keep b H H3 ∧ σ = [some (.ref b), some (.int n), some (.int way), some (.int turn), some (.ref me), none, none], ?_, ?_⟩
    · refine ⟨by show 12 ≤ sizeLine; decide, fun me nme => ⟨me, upd_same, ?_, ?_, rfl⟩⟩
      · exact g2.same (Same.newer (Same.new nt) ((Same.new nt).free nme))
      · exact (k1.trans k2).trans (Keep.of (Same.newer (Same.new nt) ((Same.new nt).free nme)))
    rintro σ H3 ⟨me, hme, g3, k3, rfl⟩
    have room : (24 : Nat) ≤ sizeLine := by decide
    refine ⟨_, rfl, rfl, _, rfl, ?_⟩
    refine ite2 (fun _ => ?_) (fun _ => ?_)
    · refine ⟨_, rfl, _, rfl, me, me, _, _, rfl, rfl, hme, hme, (by show 12 + 12 ≤ sizeLine; decide), fun p np => ?_⟩
      refine ⟨_, rfl, turn, rfl, _, rfl, _, rfl, _, _, rfl, rfl, _, rfl, p, _, rfl, SqL.of upd_same, fun q nq => ?_⟩
      rw [← List.map_append, cut_str]
      obtain ⟨cl, cm⟩ := cutG_len (l := menu ++ menu) (lo := turn) (hi := turn + n) t0 (by omega) (by show turn + n ≤ (24 : Int); omega)
      refine ⟨q, _, rfl, SqL.of upd_same, (by omega), fun ys z perm srt nz => ?_⟩
      have s1 : Same H3 (upd (upd H3 p (HO.lst (List.map V.str (menu ++ menu)))) q (HO.lst (List.map V.str (cutG (menu ++ menu) (some turn) (some (turn + n)))))) := Same.newer (Same.new np) ((Same.new np).free nq)
      have s2 := Same.newer (o := HO.lst (ys.map V.str)) s1 (s1.free nz)
      exact k ys z _ (by have e := perm.length_eq; omega) (fun y hy => menu_kinds y (cm y (perm.mem_iff.mp hy))) (k3.free (g3.ne (s1.free nz)) (s1.free nz)) upd_same (g3.same s2) (k3.trans (Keep.of s2))
    · refine ⟨_, rfl, rfl, _, rfl, ?_⟩
      refine ite2 (fun _ => ?_) (fun _ => ?_)
      · refine ⟨by show 8 ≤ sizeLine; decide, fun p np => ?_⟩
        refine ⟨_, rfl, n, rfl, p, abc8.map V.str, rfl, SqL.of upd_same, fun q nq => ?_⟩
        rw [cut_str]
        obtain ⟨cl, cm⟩ := cutG_len0 (l := abc8) (hi := n) (by omega) (by show n ≤ (8 : Int); omega)
        have s1 : Same H3 (upd (upd H3 p (HO.lst (List.map V.str abc8))) q (HO.lst (List.map V.str (cutG abc8 none (some n))))) := Same.newer (Same.new np) ((Same.new np).free nq)
        have fq := (Same.new np).free nq
        exact k _ q _ cl (fun y hy => abc8_kinds y (cm y hy)) (k3.free (g3.ne fq) fq) upd_same (g3.same s1) (k3.trans (Keep.of s1))
      · refine ⟨_, rfl, b, 3, rfl, g3, by decide, by decide, fun r H4 r0 r1 g4 k4 => ⟨r, rfl, _, rfl, by decide, ?_⟩⟩
        have k5 := k3.trans k4
        obtain ⟨z1, z2⟩ := stem_ok r0 r1
        generalize cutS (Str.ofString "xq") none (some r) = stem at z1 z2 ⊢
        refine ⟨_, rfl, n, rfl, (by omega), (by omega), fun D nD => ?_⟩
        refine lc_range (lo := 0) (n := n.toNat) (fun i H' => Same H4 H' ∧ ∃ acc : List Str, acc.length = i ∧ (∀ y ∈ acc, KindS y) ∧ H' D = some (.lst (acc.map V.str))) ⟨Same.new nD, [], rfl, fun _ h => (List.not_mem_nil h).elim, upd_same⟩ ?_ ?_
        · rintro i H' hi ⟨sm, acc, la, ka, hD⟩
          refine ⟨rfl, yes_ok ?_⟩
          obtain ⟨c, hc, c1, c2⟩ := letter_at (fm (x := 2 * turn + 3 * (0 + (i : Int))) (m := 26) (by decide)).1 (fm (by decide)).2
          refine ⟨_, rfl, _, rfl, _, _, rfl, rfl, .inl ⟨by decide, by decide⟩, _, rfl, _, _, rfl, rfl, .inl ⟨by decide, by decide⟩, _, _, rfl, rfl, .inl ⟨_, rfl, _, _, rfl, rfl, nz (by decide), ?_⟩⟩
          refine ⟨_, _, c, rfl, rfl, (by show 26 ≤ sizeLine; decide), hc, _, _, rfl, rfl, ?_, acc.map V.str, hD, small1000 (by rw [List.length_map]; omega), ?_⟩
          · show stem.cps.size + 1 ≤ sizeLine
            have : (3 : Nat) ≤ sizeLine := by decide
            omega
          · refine ⟨Same.newer sm nD, acc ++ [stem ++ ⟨#[c]⟩], by rw [List.length_append, la]; rfl, fun y hy => ?_, by rw [upd_same, List.map_append]; rfl⟩
            rcases List.mem_append.mp hy with hy | hy
            · exact ka y hy
            · rw [List.mem_singleton.mp hy]
              have e : (stem ++ (⟨#[c]⟩ : Str)).cps = stem.cps ++ #[c] := rfl
              refine ⟨?_, ?_, fun d hd => ?_⟩
              · rw [e, Array.size_append]; show 1 ≤ _ + 1; omega
              · rw [e, Array.size_append]; show _ + 1 ≤ 8; omega
              · rw [e, Array.toList_append] at hd
                rcases List.mem_append.mp hd with hd | hd
                · exact z2 d hd
                · rw [List.mem_singleton.mp hd]
                  exact ⟨c1, c2⟩
        · rintro H' ⟨sm, acc, la, ka, hD⟩
          refine ⟨D, acc, rfl, SqL.of hD, by omega, fun ys z perm srt nz => ?_⟩
          have s2 := Same.newer (o := HO.lst (ys.map V.str)) sm (sm.free nz)
          have fz := sm.free nz
          exact k ys z _ (by have e := perm.length_eq; omega) (fun y hy => ka y (perm.mem_iff.mp hy)) (k5.free (g4.ne fz) fz) upd_same (g4.same s2) (k5.trans (Keep.of s2))
end
end K11

namespace HK
open PySem PySem.Spec PyProof.Rows L2
/-- a comprehension over the signs of a text -/
theorem lc_text {x : Str} {g : TG} {tt : TT} {te : TE} {vs : List Nat} {σ : L2.St} {H1 : Hp} {D : Addr} {Qd : Hp → Prop} (Pv : Nat → Hp → Prop) (h0 : Pv 0 (upd H1 D (.lst [])))
    (hs : ∀ i c H, x.cps[i]? = some c → Pv i H → g (.str ⟨#[c]⟩) (wipe σ vs) H fun σ2 H2 => wipe σ2 vs = wipe σ vs ∧ tt σ2 H2 fun b H3 =>
      if b = true then te σ2 H3 fun y H4 => ∃ acc, H4 D = some (.lst acc) ∧ acc.length < sizeLine ∧ Pv (i + 1) (upd H4 D (.lst (acc ++ [y]))) else Pv (i + 1) H3) (hd : ∀ H, Pv x.cps.size H → Qd H) :
    ∃ W : Nat → Nat → Hp → Prop, (∃ m, W 0 m (upd H1 D (.lst []))) ∧ ∀ i m H, W i m H →
      ((Its x).stop i H ∧ Qd H) ∨ ((Its x).go i H ∧ ∃ Nx : Hp → Prop, (∀ H', Nx H' → ∃ m', m' < m ∧ W (i + 1) m' H') ∧ ∀ v H', (Its x).yld i H v H' → g v (wipe σ vs) H' fun σ2 H2 => wipe σ2 vs = wipe σ vs ∧ tt σ2 H2 fun b H3 =>
        if b = true then te σ2 H3 fun y H4 => ∃ acc, H4 D = some (.lst acc) ∧ acc.length < sizeLine ∧ Nx (upd H4 D (.lst (acc ++ [y]))) else Nx H3) := by
  refine ⟨fun i m H => m = x.cps.size - i ∧ i ≤ x.cps.size ∧ Pv i H, ⟨x.cps.size, by simp, Nat.zero_le _, h0⟩, ?_⟩
  rintro i m H ⟨rfl, hi, p⟩
  by_cases lt : i < x.cps.size
  · refine .inr ⟨lt, Pv (i + 1), fun H' p' => ⟨x.cps.size - (i + 1), by omega, rfl, lt, p'⟩, ?_⟩
    rintro v H' ⟨rfl, c, hc, rfl⟩
    exact hs i c _ hc p
  · have e : i = x.cps.size := by omega
    subst e
    exact .inl ⟨Nat.le_refl _, hd _ p⟩
/-! ### isinstance -/
def tyN : PyData → String
  | .none => "NoneType" | .bool _ => "bool" | .int _ => "int" | .str _ => "str" | .list _ => "list" | .tuple _ => "tuple" | .dict _ => "dict"
theorem DX.ty {K : PySem.W.Frag} {b : Addr} {H : Hp} {v : V} {d : PyData} (h : DX b H v d) : TyX K H v (.type (tyN d)) := by
  cases h with
  | non => exact .base .non
  | bl x => exact .base (.bl x)
  | int i => exact .base (.int i)
  | str x => exact .base (.str x)
  | lst n e r => exact .base (.lst e)
  | tup n e r => exact .base (.tup e)
  | dct n e => exact .base (.dK e)
theorem isi {K : PySem.W.Frag} {b : Addr} {H : Hp} {v : V} {d : PyData} {T : String} {r : Bool} {Q : VK} (h : DX b H v d) (e : kitB (tyN d) T = some r) (q : Q (.bl r) H) : rIsi K [v, .ty T] H Q := ⟨v, .ty T, _, _, r, rfl, .ty T, h.ty, kit_ty e, q⟩
def isStr : PyData → Bool | .str _ => true | _ => false
def isInt : PyData → Bool | .int _ => true | .bool _ => true | _ => false
def isBool : PyData → Bool | .bool _ => true | _ => false
def isTup : PyData → Bool | .tuple _ => true | _ => false
def isLst : PyData → Bool | .list _ => true | _ => false
theorem kit_str : ∀ d : PyData, kitB (tyN d) "str" = some (isStr d)
  | .none => (show kitB "NoneType" "str" = some false by decide +kernel)
  | .bool _ => (show kitB "bool" "str" = some false by decide +kernel)
  | .int _ => (show kitB "int" "str" = some false by decide +kernel)
  | .str _ => (show kitB "str" "str" = some true by decide +kernel)
  | .list _ => (show kitB "list" "str" = some false by decide +kernel)
  | .tuple _ => (show kitB "tuple" "str" = some false by decide +kernel)
  | .dict _ => (show kitB "dict" "str" = some false by decide +kernel)
theorem kit_int : ∀ d : PyData, kitB (tyN d) "int" = some (isInt d)
  | .none => (show kitB "NoneType" "int" = some false by decide +kernel)
  | .bool _ => (show kitB "bool" "int" = some true by decide +kernel)
  | .int _ => (show kitB "int" "int" = some true by decide +kernel)
  | .str _ => (show kitB "str" "int" = some false by decide +kernel)
  | .list _ => (show kitB "list" "int" = some false by decide +kernel)
  | .tuple _ => (show kitB "tuple" "int" = some false by decide +kernel)
  | .dict _ => (show kitB "dict" "int" = some false by decide +kernel)
theorem kit_bool : ∀ d : PyData, kitB (tyN d) "bool" = some (isBool d)
  | .none => (show kitB "NoneType" "bool" = some false by decide +kernel)
  | .bool _ => (show kitB "bool" "bool" = some true by decide +kernel)
  | .int _ => (show kitB "int" "bool" = some false by decide +kernel)
  | .str _ => (show kitB "str" "bool" = some false by decide +kernel)
  | .list _ => (show kitB "list" "bool" = some false by decide +kernel)
  | .tuple _ => (show kitB "tuple" "bool" = some false by decide +kernel)
  | .dict _ => (show kitB "dict" "bool" = some false by decide +kernel)
theorem kit_tup : ∀ d : PyData, kitB (tyN d) "tuple" = some (isTup d)
  | .none => (show kitB "NoneType" "tuple" = some false by decide +kernel)
  | .bool _ => (show kitB "bool" "tuple" = some false by decide +kernel)
  | .int _ => (show kitB "int" "tuple" = some false by decide +kernel)
  | .str _ => (show kitB "str" "tuple" = some false by decide +kernel)
  | .list _ => (show kitB "list" "tuple" = some false by decide +kernel)
  | .tuple _ => (show kitB "tuple" "tuple" = some true by decide +kernel)
  | .dict _ => (show kitB "dict" "tuple" = some false by decide +kernel)
theorem kit_lst : ∀ d : PyData, kitB (tyN d) "list" = some (isLst d)
  | .none => (show kitB "NoneType" "list" = some false by decide +kernel)
  | .bool _ => (show kitB "bool" "list" = some false by decide +kernel)
  | .int _ => (show kitB "int" "list" = some false by decide +kernel)
  | .str _ => (show kitB "str" "list" = some false by decide +kernel)
  | .list _ => (show kitB "list" "list" = some true by decide +kernel)
  | .tuple _ => (show kitB "tuple" "list" = some false by decide +kernel)
  | .dict _ => (show kitB "dict" "list" = some false by decide +kernel)
/-! ### order of texts -/
theorem op_leS {X : Cx} : OpR X (compareOp .LtE) (fun x y H Q => ∃ i j, x = .str i ∧ y = .str j ∧ Q (.bl (!decide (j.cps.toList < i.cps.toList))) H) := by
  intro pins s σ H x y v u Q I rx ry h
  obtain ⟨i, j, rfl, rfl, q⟩ := h
  obtain ⟨t, rfl⟩ := rx
  obtain ⟨t', rfl⟩ := ry
  exact compareOp_gives (op := .LtE) (typeIs_str s i t) (typeIs_str s j t') F.slot_str_le F.entry_str_le (F.args_str_le_2 _ _) (gives_str_le i j t t') (fun e => nomatch e) ⟨.bl _, H, I, rfl, q⟩
end HK
namespace K11
open PySem PySem.Spec PyProof.Rows L2 HK
abbrev sInt : Stmt := top 2
abbrev sNum : Stmt := top 3
abbrev sKind : Stmt := top 4
abbrev sCart : Stmt := top 5
abbrev sTwo : Stmt := top 6
abbrev sStep : Stmt := top 7
abbrev sLNum : Stmt := top 14
abbrev sStepOn : Stmt := top 15
abbrev sLInt : Stmt := top 16
abbrev sLKind : Stmt := top 17
abbrev sLCart : Stmt := top 18
abbrev sLStep : Stmt := top 19
abbrev sOdd : Stmt := top 20
abbrev sBent : Stmt := top 21
abbrev sText : Stmt := top 22
abbrev sLaw : Stmt := top 23
/-! ### what is what -/
def abc : Str := "abcdefghijklmnopqrstuvwxyz"
def mInt : PyData → Bool | .int _ => true | _ => false
def mNum (l : Int) : PyData → Bool | .int i => decide (l ≤ i) | _ => false
def lets (s : Str) : Bool := s.cps.toList.all fun c => decide (c ∈ abc.cps.toList)
def mKind : PyData → Bool | .str s => decide (1 ≤ s.cps.size) && decide (s.cps.size ≤ 8) && lets s | _ => false
structure TxJ (mg : Str → Option Value) : Prop where
  n_isi : mg "isinstance" = none
  n_ty : ∀ x ∈ (["int", "bool", "str", "tuple", "list", "len", "all"] : List Str), mg x = none
  gL : ∃ t, mg "_LETTERS" = some (.str abc t)
section
variable {P : Program} {w : World} {K : PySem.W.Frag} {mg : Str → Option Value} {base : Heap}
/-- a judgement of any data -/
def spJ (m : PyData → Bool) : Sp := fun vs H Q _ => ∃ (b : Addr) (x : V) (d : PyData) (n : Nat), vs = [x] ∧ DX b H x d ∧ SX d n 50 ∧ n ≤ 300000 ∧ ∀ H', Same H H' → Q (.bl (m d)) H'
theorem scInt : FnScope ["thing"] ["thing"] (defScope sInt) := ⟨rfl, rfl, rfl, by decide +kernel, rfl, by decide +kernel, by decide +kernel⟩
theorem ok_int {f : Addr} {fd : FuncData} (F : Fun K "is_integer" "is_integer" sInt f fd) (T : TxJ mg) : FnOk P w K mg base CX0 1 f fd ["thing"] (spJ mInt) := by
  refine F.ok scInt (fun vs H Q E h => ?_) (fun cdv A outer s H vs Q E hr h => ?_)
  · obtain ⟨b, x, d, n, rfl, _⟩ := h
    rfl
  · obtain ⟨b, x, d, n, rfl, hx, hs, hn, k⟩ := h
    refine ⟨_, (pss_one (ps_ret (pe_and (pe_callB call_isi (by rfl) T.n_isi (by decide +kernel) (pa_cons (pv 0) (pa_cons (pe_bltn (v := .ty "int") (by rfl) (T.n_ty "int" (by simp)) (by decide +kernel) rfl) pa_nil))) (pe_one (pe_not (pe_callB call_isi (by rfl) T.n_isi (by decide +kernel) (pa_cons (pv 0) (pa_cons (pe_bltn (v := .ty "bool") (by rfl) (T.n_ty "bool" (by simp)) (by decide +kernel) rfl) pa_nil)))))))), ?_⟩
    refine ⟨_, rfl, x, .ty "int", _, _, _, rfl, .ty _, hx.ty, kit_ty (kit_int d), isInt d, rfl, ?_⟩
    cases h1 : isInt d with
    | false =>
      have e : mInt d = false := by cases d <;> first | rfl | cases h1
      rw [e] at k
      exact iteF (k H (Same.refl H))
    | true =>
      refine iteT ⟨_, rfl, x, .ty "bool", _, _, _, rfl, .ty _, hx.ty, kit_ty (kit_bool d), _, rfl, ?_⟩
      have e : mInt d = !isBool d := by cases d <;> first | rfl | cases h1
      rw [e] at k
      exact k H (Same.refl H)
end
end K11

namespace HK
open PySem PySem.Spec PyProof.Rows L2
theorem DX.tupI {b : Addr} {H : Hp} {v : V} {ds : List PyData} (h : DX b H v (.tuple ds)) : ∃ a xs, v = .ref a ∧ a ≠ b ∧ H a = some (.tup xs) ∧ DXs b H xs ds := by
  cases h with
  | tup n e r => exact ⟨_, _, rfl, n, e, r⟩
theorem DX.lstI {b : Addr} {H : Hp} {v : V} {ds : List PyData} (h : DX b H v (.list ds)) : ∃ a xs, v = .ref a ∧ a ≠ b ∧ H a = some (.lst xs) ∧ DXs b H xs ds := by
  cases h with
  | lst n e r => exact ⟨_, _, rfl, n, e, r⟩
theorem DX.strI {b : Addr} {H : Hp} {v : V} {x : Str} (h : DX b H v (.str x)) : v = .str x := by cases h; rfl
theorem DX.intI {b : Addr} {H : Hp} {v : V} {x : Int} (h : DX b H v (.int x)) : v = .int x := by cases h; rfl
theorem DX.blI {b : Addr} {H : Hp} {v : V} {x : Bool} (h : DX b H v (.bool x)) : v = .bl x := by cases h; rfl
theorem DXs.two {b : Addr} {H : Hp} {xs : List V} {d e : PyData} (h : DXs b H xs [d, e]) : ∃ x y, xs = [x, y] ∧ DX b H x d ∧ DX b H y e := by
  cases h with
  | cons h1 r =>
    cases r with
    | cons h2 r =>
      cases r
      exact ⟨_, _, rfl, h1, h2⟩
theorem DXs.three {b : Addr} {H : Hp} {xs : List V} {d e f : PyData} (h : DXs b H xs [d, e, f]) : ∃ x y z, xs = [x, y, z] ∧ DX b H x d ∧ DX b H y e ∧ DX b H z f := by
  cases h with
  | cons h1 r =>
    obtain ⟨_, _, rfl, h2, h3⟩ := r.two
    exact ⟨_, _, _, rfl, h1, h2, h3⟩
end HK
namespace K11
open PySem PySem.Spec PyProof.Rows L2 HK
def truth : PyData → Bool | .bool b => b | _ => false
def leS : PyData → PyData → Bool | .str a, .str b => !decide (b.cps.toList < a.cps.toList) | _, _ => false
def neS : PyData → PyData → Bool | .str a, .str b => !decide (a = b) | _, _ => false
def mCart : PyData → Bool
  | .tuple [f, k, t] => mKind f && (mKind k && (isBool t && (!truth t || leS f k)))
  | _ => false
def twoD : PyData → Bool
  | .tuple [f, k, t] => truth t && neS f k
  | _ => false
def mStep : PyData → Bool
  | .tuple [c, u] => mCart c && (isBool u && (!truth u || twoD c))
  | _ => false
theorem mCart_len : ∀ {ds : List PyData}, ds.length ≠ 3 → mCart (.tuple ds) = false
  | [], _ => rfl
  | [_], _ => rfl
  | [_, _], _ => rfl
  | [_, _, _], h => absurd rfl h
  | _ :: _ :: _ :: _ :: _, _ => rfl
theorem mStep_len : ∀ {ds : List PyData}, ds.length ≠ 2 → mStep (.tuple ds) = false
  | [], _ => rfl
  | [_], _ => rfl
  | [_, _], h => absurd rfl h
  | _ :: _ :: _ :: _, _ => rfl
theorem mCart_tup {d : PyData} (h : isTup d = false) : mCart d = false := by cases d <;> first | rfl | cases h
theorem mStep_tup {d : PyData} (h : isTup d = false) : mStep d = false := by cases d <;> first | rfl | cases h
theorem mKind_str {d : PyData} (h : isStr d = false) : mKind d = false := by cases d <;> first | rfl | cases h
theorem three_of {ds : List PyData} (h : ds.length = 3) : ∃ f k t, ds = [f, k, t] := by
  match ds, h with
  | [f, k, t], _ => exact ⟨f, k, t, rfl⟩
theorem two_of {ds : List PyData} (h : ds.length = 2) : ∃ c u, ds = [c, u] := by
  match ds, h with
  | [c, u], _ => exact ⟨c, u, rfl⟩
theorem SX.in3 {f k t : PyData} {n : Nat} (h : SX (.tuple [f, k, t]) n 50) : SX f n 50 ∧ SX k n 50 ∧ SX t n 50 := by
  obtain ⟨h1, h2⟩ := SX.items (.inr h)
  exact ⟨(h2.get (by simp)).mono (by omega) (by omega), (h2.get (by simp)).mono (by omega) (by omega), (h2.get (by simp)).mono (by omega) (by omega)⟩
theorem SX.in2 {c u : PyData} {n : Nat} (h : SX (.tuple [c, u]) n 50) : SX c n 50 ∧ SX u n 50 := by
  obtain ⟨h1, h2⟩ := SX.items (.inr h)
  exact ⟨(h2.get (by simp)).mono (by omega) (by omega), (h2.get (by simp)).mono (by omega) (by omega)⟩
section
variable {P : Program} {w : World} {K : PySem.W.Frag} {mg : Str → Option Value} {base : Heap}
/-- the n first judgements' room -/
def spNum : Sp := fun vs H Q _ => ∃ (b : Addr) (l : Int) (x : V) (d : PyData) (n : Nat), vs = [.int l, x] ∧ DX b H x d ∧ SX d n 50 ∧ n ≤ 300000 ∧ ∀ H', Same H H' → Q (.bl (mNum l d)) H'
theorem scNum : FnScope ["least", "thing"] ["least", "thing"] (defScope sNum) := ⟨rfl, rfl, rfl, by decide +kernel, rfl, by decide +kernel, by decide +kernel⟩
theorem ok_num {f fI : Addr} {fd fdI : FuncData} (F : Fun K "is_number" "is_number" sNum f fd) (T : TxJ mg) (gI : mg "is_integer" = some (.ref fI)) (FI : Fun K "is_integer" "is_integer" sInt fI fdI) (bI : Binds K fdI ["thing"] []) : FnOk P w K mg base CX0 2 f fd ["least", "thing"] spNum := by
  have GI : FnOk P w K mg base CX0 1 fI fdI _ (spJ mInt) := ok_int FI T
  refine F.ok scNum (fun vs H Q E h => ?_) (fun cdv A outer s H vs Q E hr h => ?_)
  · obtain ⟨b, l, x, d, n, rfl, _⟩ := h
    rfl
  · obtain ⟨b, l, x, d, n, rfl, hx, hs, hn, k⟩ := h
    refine ⟨_, (pss_one (ps_ret (pe_and (pe_call GI hr rfl gI FI.kp bI .nil pass0 (pa_cons (pv 1) pa_nil)) (pe_one (pe_cmpR op_ge (pv 1) (pv 0) (nomark _)))))), ?_⟩
    refine ⟨_, rfl, b, x, d, n, rfl, hx, hs, hn, fun H' sm => ⟨mInt d, rfl, ?_⟩⟩
    cases h1 : mInt d with
    | false =>
      have e : mNum l d = false := by cases d <;> first | rfl | cases h1
      rw [e] at k
      exact iteF (k H' sm)
    | true =>
      obtain ⟨i, rfl⟩ : ∃ i, d = .int i := by cases d <;> first | exact ⟨_, rfl⟩ | cases h1
      cases hx
      exact iteT ⟨_, rfl, _, rfl, _, _, rfl, rfl, k H' sm⟩
/-! is_kind -/
theorem lets_app {p : List Nat} {c : Nat} : (p ++ [c]).all (fun c => decide (c ∈ abc.cps.toList)) = (p.all (fun c => decide (c ∈ abc.cps.toList)) && decide (c ∈ abc.cps.toList)) := by
  rw [List.all_append]
  simp
theorem take_more {α : Type} {l : List α} {i : Nat} {x : α} (h : l[i]? = some x) : l.take (i + 1) = l.take i ++ [x] := by
  rw [List.take_add_one, h]
  rfl
theorem scKindP : FnScope ["thing", "letter"] ["thing"] (defScope sKind) := ⟨rfl, rfl, rfl, by decide +kernel, rfl, by decide +kernel, by decide +kernel⟩
theorem ok_kind {f : Addr} {fd : FuncData} (F : Fun K "is_kind" "is_kind" sKind f fd) (T : TxJ mg) : FnOk P w K mg base CX0 1 f fd ["thing"] (spJ mKind) := by
  refine F.ok scKindP (fun vs H Q E h => ?_) (fun cdv A outer s H vs Q E hr h => ?_)
  · obtain ⟨b, x, d, n, rfl, _⟩ := h
    rfl
  · obtain ⟨b, x, d, n, rfl, hx, hs, hn, k⟩ := h
    have nd := scKindP.nd
    obtain ⟨tk, gL⟩ := T.gL
    refine ⟨_, (pss_cons (ps_if (PW.pt (pw_or (pt_not (pt_val (pe_callB call_isi (by rfl) T.n_isi (by decide +kernel) (pa_cons (pv 0) (pa_cons (pe_bltn (v := .ty "str") (by rfl) (T.n_ty "str" (by simp)) (by decide +kernel) rfl) pa_nil)))))
        (pw_or1 (pt_not (pt_chain op_le op_le pe_int (pe_callB call_len_str (by rfl) (T.n_ty "len" (by simp)) (by decide +kernel) (pa_cons (pv 0) pa_nil)) pe_int)))))
      (pss_one (ps_ret pe_bl))
       pss_nil)
    (pss_one (ps_ret (pe_callB (cr_all rfl) (by rfl) (T.n_ty "all" (by simp)) (by decide +kernel) (pa_cons (pe_lc (own := [("letter", 1)]) (g := (gName 1)) (tt := tYes) rfl nd (pi_str (pv 0)) (blkOk_by (N := ["thing", "letter"]) (sc := defScope sKind) (by decide +kernel)) (fun _ _ _ _ _ => (pg_name (i := 1) nd rfl (Or.inl rfl))) (fun _ _ _ _ _ => pts_nil) (fun _ _ _ _ _ => (pe_cmpR op_in_sign (pv 1) (pe_glob (v := .str abc) rfl gL ⟨_, rfl⟩) (by rfl)))) pa_nil))))), ?_⟩
    refine ⟨_, rfl, x, .ty "str", _, _, _, rfl, .ty _, hx.ty, kit_ty (kit_str d), isStr d, rfl, ?_⟩
    cases h1 : isStr d with
    | false =>
      rw [mKind_str h1] at k
      exact iteT (iteT (k H (Same.refl H)))
    | true =>
      obtain ⟨x0, rfl⟩ : ∃ x0, d = .str x0 := by cases d <;> first | exact ⟨_, rfl⟩ | cases h1
      cases hx
      have room : x0.cps.size ≤ 300000 := by
        have := hs.w
        simp only [PyData.weight] at this
        omega
      have line : (300000 : Nat) ≤ sizeLine := by decide
      refine iteF ⟨_, rfl, _, rfl, Nat.le_trans room line, _, _, rfl, rfl, _, rfl, ?_⟩
      have eK : mKind (.str x0) = (decide (1 ≤ x0.cps.size) && decide (x0.cps.size ≤ 8) && lets x0) := rfl
      have lz : (x0.length : Int) = (x0.cps.size : Int) := rfl
      refine ite2 (fun z1 => ?_) (fun z1 => ?_)
      · have z1' := of_decide_eq_true z1
        refine ⟨_, _, rfl, rfl, _, rfl, ?_⟩
        refine ite2 (fun z2 => ?_) (fun z2 => ?_)
        · rw [Bool.not_eq_true', decide_eq_false_iff_not] at z2
          rw [eK, decide_eq_false (show ¬ x0.cps.size ≤ 8 by omega), Bool.and_false, Bool.false_and] at k
          exact k H (Same.refl H)
        · rw [Bool.not_eq_true, Bool.not_eq_false', decide_eq_true_iff] at z2
          rw [eK, decide_eq_true (show 1 ≤ x0.cps.size by omega), decide_eq_true (show x0.cps.size ≤ 8 by omega), Bool.true_and, Bool.true_and] at k
          refine ⟨_, rfl, x0, rfl, fun D nD => ?_⟩
          refine lc_text (x := x0) (fun i H' => Same H H' ∧ ∃ acc : List Bool, acc.length = i ∧ acc.all id = (x0.cps.toList.take i).all (fun c => decide (c ∈ abc.cps.toList)) ∧ H' D = some (.lst (acc.map V.bl)))
            ⟨Same.new nD, [], rfl, rfl, upd_same⟩ ?_ ?_
          · rintro i c H' hc ⟨sm, acc, la, ea, hD⟩
            have li : i < x0.cps.size := (Array.getElem?_eq_some_iff.mp hc).1
            refine ⟨rfl, yes_ok ?_⟩
            refine ⟨_, rfl, c, abc, rfl, rfl, acc.map V.bl, hD, small1000 (by rw [List.length_map]; omega), Same.newer sm nD, acc ++ [decide (c ∈ abc.cps.toList)], by rw [List.length_append, la]; rfl, ?_, by rw [upd_same, List.map_append]; rfl⟩
            rw [take_more (x := c) (by rw [Array.getElem?_toList]; exact hc), lets_app, List.all_append, ea]
            simp
          · rintro H' ⟨sm, acc, la, ea, hD⟩
            have et : x0.cps.toList.take x0.cps.size = x0.cps.toList := List.take_of_length_le (by simp)
            rw [et] at ea
            have e : lets x0 = acc.all id := ea.symm
            rw [e] at k
            exact ⟨D, acc, rfl, SqL.of hD, k H' sm⟩
      · rw [decide_eq_true_iff] at z1
        rw [eK, decide_eq_false (show ¬ 1 ≤ x0.cps.size by omega), Bool.false_and, Bool.false_and] at k
        exact ⟨_, rfl, iteT (k H (Same.refl H))⟩
end
end K11

namespace K11
open PySem PySem.Spec PyProof.Rows L2 HK
theorem mKind_is {d : PyData} (h : mKind d = true) : ∃ s, d = .str s := by cases d <;> first | exact ⟨_, rfl⟩ | cases h
theorem isBool_is {d : PyData} (h : isBool d = true) : ∃ s, d = .bool s := by cases d <;> first | exact ⟨_, rfl⟩ | cases h
section
variable {P : Program} {w : World} {K : PySem.W.Frag} {mg : Str → Option Value} {base : Heap}
theorem scCartP : FnScope ["thing", "front", "back", "turns"] ["thing"] (defScope sCart) := ⟨rfl, rfl, rfl, by decide +kernel, rfl, by decide +kernel, by decide +kernel⟩
theorem ok_cart {f fK : Addr} {fd fdK : FuncData} (F : Fun K "is_cart" "is_cart" sCart f fd) (T : TxJ mg) (gK : mg "is_kind" = some (.ref fK)) (FK : Fun K "is_kind" "is_kind" sKind fK fdK) (bK : Binds K fdK ["thing"] []) : FnOk P w K mg base CX0 2 f fd ["thing"] (spJ mCart) := by
  have GK : FnOk P w K mg base CX0 1 fK fdK _ (spJ mKind) := ok_kind FK T
  refine F.ok scCartP (fun vs H Q E h => ?_) (fun cdv A outer s H vs Q E hr h => ?_)
  · obtain ⟨b, x, d, n, rfl, _⟩ := h
    rfl
  · obtain ⟨b, x, d, n, rfl, hx, hs, hn, k⟩ := h
    have nd := scCartP.nd
    refine ⟨_, (pss_cons (ps_if (PW.pt (pw_or (pt_not (pt_val (pe_callB call_isi (by rfl) T.n_isi (by decide +kernel) (pa_cons (pv 0) (pa_cons (pe_bltn (v := .ty "tuple") (by rfl) (T.n_ty "tuple" (by simp)) (by decide +kernel) rfl) pa_nil))))) (pw_or1 (pt_cmpR op_ne (pe_callB call_len_seq (by rfl) (T.n_ty "len" (by simp)) (by decide +kernel) (pa_cons (pv 0) pa_nil)) pe_int (nomark _)))))
      (pss_one (ps_ret pe_bl))
       pss_nil)
    (pss_cons (ps_asg (pv 0) (pg_tup (by rfl) (pgs_cons (pg_name (i := 1) nd rfl (Or.inl rfl)) (pgs_cons (pg_name (i := 2) nd rfl (Or.inl rfl)) (pgs_cons (pg_name (i := 3) nd rfl (Or.inl rfl)) pgs_nil)))))
    (pss_cons (ps_if (PW.pt (pw_or (pt_not (pt_val (pe_call GK hr rfl gK FK.kp bK .nil pass0 (pa_cons (pv 1) pa_nil)))) (pw_or (pt_not (pt_val (pe_call GK hr rfl gK FK.kp bK .nil pass0 (pa_cons (pv 2) pa_nil)))) (pw_or1 (pt_not (pt_val (pe_callB call_isi (by rfl) T.n_isi (by decide +kernel) (pa_cons (pv 3) (pa_cons (pe_bltn (v := .ty "bool") (by rfl) (T.n_ty "bool" (by simp)) (by decide +kernel) rfl) pa_nil)))))))))
      (pss_one (ps_ret pe_bl))
       pss_nil)
    (pss_one (ps_ret (pe_or (pe_not (pv 3)) (pe_one (pe_cmpR op_leS (pv 1) (pv 2) (nomark _))))))))), ?_⟩
    refine ⟨_, rfl, x, .ty "tuple", _, _, _, rfl, .ty _, hx.ty, kit_ty (kit_tup d), isTup d, rfl, ?_⟩
    cases h1 : isTup d with
    | false =>
      rw [mCart_tup h1] at k
      exact iteT (iteT (k H (Same.refl H)))
    | true =>
      obtain ⟨ds, rfl⟩ : ∃ ds, d = .tuple ds := by cases d <;> first | exact ⟨_, rfl⟩ | cases h1
      obtain ⟨a, xs, rfl, na, ha, hxs⟩ := hx.tupI
      refine iteF ⟨_, rfl, a, xs, rfl, .inr (SqT.of ha), rfl, _, rfl, ?_⟩
      have lx := hxs.len
      refine ite2 (fun z => ?_) (fun z => ?_)
      · rw [Bool.not_eq_true', decide_eq_false_iff_not] at z
        have l3 : ds.length ≠ 3 := fun q => z (by rw [lx, q]; rfl)
        rw [mCart_len l3] at k
        exact k H (Same.refl H)
      · rw [Bool.not_eq_true, Bool.not_eq_false', decide_eq_true_iff] at z
        have z' : (xs.length : Int) = 3 := V.int.inj z
        obtain ⟨fD, kD, tD, rfl⟩ := three_of (ds := ds) (by omega)
        obtain ⟨vf, vk, vt, rfl, hf, hk, ht⟩ := hxs.three
        obtain ⟨sf, sk, st⟩ := K11.SX.in3 hs
        have eC : mCart (.tuple [fD, kD, tD]) = (mKind fD && (mKind kD && (isBool tD && (!truth tD || leS fD kD)))) := rfl
        rw [eC] at k
        refine ⟨_, rfl, a, _, rfl, SqT.of ha, rfl, _, _, rfl, _, _, rfl, _, _, rfl, rfl, ?_⟩
        refine ⟨_, rfl, b, vf, fD, n, rfl, hf, sf, hn, fun H1 s1 => ⟨mKind fD, rfl, ?_⟩⟩
        cases e1 : mKind fD with
        | false =>
          rw [e1] at k
          exact iteT (iteT (k H1 s1))
        | true =>
          rw [e1] at k
          refine iteF ⟨_, rfl, b, vk, kD, n, rfl, hk.same s1, sk, hn, fun H2 s2 => ⟨mKind kD, rfl, ?_⟩⟩
          cases e2 : mKind kD with
          | false =>
            rw [e2] at k
            exact iteT (iteT (k H2 (s1.trans s2)))
          | true =>
            rw [e2] at k
            refine iteF ⟨_, rfl, vt, .ty "bool", _, _, _, rfl, .ty _, (ht.same (s1.trans s2)).ty, kit_ty (kit_bool tD), isBool tD, rfl, ?_⟩
            cases e3 : isBool tD with
            | false =>
              rw [e3] at k
              exact iteT (k H2 (s1.trans s2))
            | true =>
              rw [e3] at k
              obtain ⟨f0, rfl⟩ := mKind_is e1
              obtain ⟨k0, rfl⟩ := mKind_is e2
              obtain ⟨t0, rfl⟩ := isBool_is e3
              cases hf.strI
              cases hk.strI
              cases ht.blI
              refine iteF ⟨_, rfl, t0, rfl, !t0, rfl, ?_⟩
              cases t0 with
              | false => exact iteT (k H2 (s1.trans s2))
              | true => exact iteF ⟨_, rfl, _, rfl, f0, k0, rfl, rfl, k H2 (s1.trans s2)⟩
/-! has_two_steps, of carts alone -/
def spTwo : Sp := fun vs H Q _ => ∃ (b : Addr) (x : V) (d : PyData), vs = [x] ∧ DX b H x d ∧ mCart d = true ∧ Q (.bl (twoD d)) H
theorem cart_is {d : PyData} (h : mCart d = true) : ∃ f k t, d = .tuple [.str f, .str k, .bool t] := by
  cases d with
  | tuple ds =>
    by_cases l : ds.length = 3
    · obtain ⟨fD, kD, tD, rfl⟩ := three_of l
      have eC : mCart (.tuple [fD, kD, tD]) = (mKind fD && (mKind kD && (isBool tD && (!truth tD || leS fD kD)))) := rfl
      rw [eC] at h
      simp only [Bool.and_eq_true] at h
      obtain ⟨f0, rfl⟩ := mKind_is h.1
      obtain ⟨k0, rfl⟩ := mKind_is h.2.1
      obtain ⟨t0, rfl⟩ := isBool_is h.2.2.1
      exact ⟨f0, k0, t0, rfl⟩
    · rw [mCart_len l] at h
      cases h
  | _ => cases h
theorem cartX {b : Addr} {H : Hp} {v : V} {f k : Str} {t : Bool} (h : DX b H v (.tuple [.str f, .str k, .bool t])) : ∃ a, v = .ref a ∧ a ≠ b ∧ H a = some (.tup [.str f, .str k, .bl t]) := by
  obtain ⟨a, xs, rfl, n, e, r⟩ := h.tupI
  obtain ⟨_, _, _, rfl, h1, h2, h3⟩ := r.three
  cases h1
  cases h2
  cases h3
  exact ⟨a, rfl, n, e⟩
theorem ne_str {f k : Str} : decide (V.str f = V.str k) = decide (f = k) := by
  by_cases z : f = k
  · rw [decide_eq_true z, decide_eq_true (congrArg V.str z)]
  · rw [decide_eq_false z, decide_eq_false (fun q => z (V.str.inj q))]
theorem scTwo : FnScope ["cart", "front", "back", "turns"] ["cart"] (defScope sTwo) := ⟨rfl, rfl, rfl, by decide +kernel, rfl, by decide +kernel, by decide +kernel⟩
theorem ok_two {f : Addr} {fd : FuncData} (F : Fun K "has_two_steps" "has_two_steps" sTwo f fd) : FnOk P w K mg base CX0 1 f fd ["cart"] spTwo := by
  refine F.ok scTwo (fun vs H Q E h => ?_) (fun cdv A outer s H vs Q E hr h => ?_)
  · obtain ⟨b, x, c, rfl, _⟩ := h
    rfl
  · obtain ⟨b, x, d, rfl, hx, hc, k⟩ := h
    obtain ⟨f0, k0, t0, rfl⟩ := cart_is hc
    obtain ⟨a, rfl, n, e⟩ := cartX hx
    have nd := scTwo.nd
    refine ⟨_, (pss_cons (ps_asg (pv 0) (pg_tup (by rfl) (pgs_cons (pg_name (i := 1) nd rfl (Or.inl rfl)) (pgs_cons (pg_name (i := 2) nd rfl (Or.inl rfl)) (pgs_cons (pg_name (i := 3) nd rfl (Or.inl rfl)) pgs_nil)))))
      (pss_one (ps_ret (pe_and (pv 3) (pe_one (pe_cmpR op_ne (pv 1) (pv 2) (nomark _))))))), ?_⟩
    refine ⟨_, rfl, a, _, rfl, SqT.of e, rfl, _, _, rfl, _, _, rfl, _, _, rfl, rfl, ?_⟩
    refine ⟨_, rfl, t0, rfl, ?_⟩
    cases t0 with
    | false => exact iteF k
    | true =>
      refine iteT ⟨_, rfl, _, rfl, rfl, ?_⟩
      have e3 : twoD (.tuple [.str f0, .str k0, .bool true]) = !decide (V.str f0 = V.str k0) := by
        rw [ne_str]
        rfl
      rw [e3] at k
      exact k
/-! is_step -/
theorem scStepP : FnScope ["thing", "cart", "turned"] ["thing"] (defScope sStep) := ⟨rfl, rfl, rfl, by decide +kernel, rfl, by decide +kernel, by decide +kernel⟩
theorem ok_step {f fK fC fT : Addr} {fd fdK fdC fdT : FuncData} (F : Fun K "is_step" "is_step" sStep f fd) (T : TxJ mg) (gK : mg "is_kind" = some (.ref fK)) (FK : Fun K "is_kind" "is_kind" sKind fK fdK) (bK : Binds K fdK ["thing"] [])
    (gC : mg "is_cart" = some (.ref fC)) (FC : Fun K "is_cart" "is_cart" sCart fC fdC) (bC : Binds K fdC ["thing"] []) (gT : mg "has_two_steps" = some (.ref fT)) (FT : Fun K "has_two_steps" "has_two_steps" sTwo fT fdT) (bT : Binds K fdT ["cart"] []) :
    FnOk P w K mg base CX0 3 f fd ["thing"] (spJ mStep) := by
  have GC : FnOk P w K mg base CX0 2 fC fdC _ (spJ mCart) := ok_cart FC T gK FK bK
  have GT : FnOk P w K mg base CX0 1 fT fdT _ spTwo := ok_two FT
  refine F.ok scStepP (fun vs H Q E h => ?_) (fun cdv A outer s H vs Q E hr h => ?_)
  · obtain ⟨b, x, d, n, rfl, _⟩ := h
    rfl
  · obtain ⟨b, x, d, n, rfl, hx, hs, hn, k⟩ := h
    have nd := scStepP.nd
    have hr1 : Room 1 _ := hr.mono (by decide)
    refine ⟨_, (pss_cons (ps_if (PW.pt (pw_or (pt_not (pt_val (pe_callB call_isi (by rfl) T.n_isi (by decide +kernel) (pa_cons (pv 0) (pa_cons (pe_bltn (v := .ty "tuple") (by rfl) (T.n_ty "tuple" (by simp)) (by decide +kernel) rfl) pa_nil))))) (pw_or1 (pt_cmpR op_ne (pe_callB call_len_seq (by rfl) (T.n_ty "len" (by simp)) (by decide +kernel) (pa_cons (pv 0) pa_nil)) pe_int (nomark _)))))
      (pss_one (ps_ret pe_bl))
       pss_nil)
    (pss_cons (ps_asg (pv 0) (pg_tup (by rfl) (pgs_cons (pg_name (i := 1) nd rfl (Or.inl rfl)) (pgs_cons (pg_name (i := 2) nd rfl (Or.inl rfl)) pgs_nil))))
    (pss_cons (ps_if (PW.pt (pw_or (pt_not (pt_val (pe_call GC hr rfl gC FC.kp bC .nil pass0 (pa_cons (pv 1) pa_nil)))) (pw_or1 (pt_not (pt_val (pe_callB call_isi (by rfl) T.n_isi (by decide +kernel) (pa_cons (pv 2) (pa_cons (pe_bltn (v := .ty "bool") (by rfl) (T.n_ty "bool" (by simp)) (by decide +kernel) rfl) pa_nil))))))))
      (pss_one (ps_ret pe_bl))
       pss_nil)
    (pss_one (ps_ret (pe_or (pe_not (pv 2)) (pe_one (pe_call GT hr1 rfl gT FT.kp bT .nil pass0 (pa_cons (pv 1) pa_nil))))))))), ?_⟩
    refine ⟨_, rfl, x, .ty "tuple", _, _, _, rfl, .ty _, hx.ty, kit_ty (kit_tup d), isTup d, rfl, ?_⟩
    cases h1 : isTup d with
    | false =>
      rw [mStep_tup h1] at k
      exact iteT (iteT (k H (Same.refl H)))
    | true =>
      obtain ⟨ds, rfl⟩ : ∃ ds, d = .tuple ds := by cases d <;> first | exact ⟨_, rfl⟩ | cases h1
      obtain ⟨a, xs, rfl, na, ha, hxs⟩ := hx.tupI
      refine iteF ⟨_, rfl, a, xs, rfl, .inr (SqT.of ha), rfl, _, rfl, ?_⟩
      have lx := hxs.len
      refine ite2 (fun z => ?_) (fun z => ?_)
      · rw [Bool.not_eq_true', decide_eq_false_iff_not] at z
        have l3 : ds.length ≠ 2 := fun q => z (by rw [lx, q]; rfl)
        rw [mStep_len l3] at k
        exact k H (Same.refl H)
      · rw [Bool.not_eq_true, Bool.not_eq_false', decide_eq_true_iff] at z
        have z' : (xs.length : Int) = 2 := V.int.inj z
        obtain ⟨cD, uD, rfl⟩ := two_of (ds := ds) (by omega)
        obtain ⟨vc, vu, rfl, hc, hu⟩ := hxs.two
        obtain ⟨sc, su⟩ := K11.SX.in2 hs
        have eC : mStep (.tuple [cD, uD]) = (mCart cD && (isBool uD && (!truth uD || twoD cD))) := rfl
        rw [eC] at k
        refine ⟨_, rfl, a, _, rfl, SqT.of ha, rfl, _, _, rfl, _, _, rfl, rfl, ?_⟩
        refine ⟨_, rfl, b, vc, cD, n, rfl, hc, sc, hn, fun H1 s1 => ⟨mCart cD, rfl, ?_⟩⟩
        cases e1 : mCart cD with
        | false =>
          rw [e1] at k
          exact iteT (iteT (k H1 s1))
        | true =>
          rw [e1] at k
          refine iteF ⟨_, rfl, vu, .ty "bool", _, _, _, rfl, .ty _, (hu.same s1).ty, kit_ty (kit_bool uD), isBool uD, rfl, ?_⟩
          cases e3 : isBool uD with
          | false =>
            rw [e3] at k
            exact iteT (k H1 s1)
          | true =>
            rw [e3] at k
            obtain ⟨u0, rfl⟩ := isBool_is e3
            cases hu.blI
            refine iteF ⟨_, rfl, u0, rfl, !u0, rfl, ?_⟩
            cases u0 with
            | false => exact iteT (k H1 s1)
            | true => exact iteF ⟨_, rfl, b, vc, cD, rfl, hc.same s1, e1, k H1 s1⟩
end
end K11

namespace K11
open PySem PySem.Spec PyProof.Rows L2 HK
theorem strs_dp {K : PySem.W.Frag} {H : Hp} : ∀ acc : List Str, DpAll K H (acc.map V.str) (acc.map PyData.str)
  | [] => .nil
  | x :: r => .cons (.str x) (strs_dp r)
theorem strs_lay : ∀ acc : List Str, (∀ y ∈ acc, Asc y) → PyData.canLayAll0 (acc.map PyData.str) = true
  | [], _ => rfl
  | x :: r, h => by
    have h1 : (PyData.str x).canLay0 = true := by simpa only [PyData.canLay0] using (h x List.mem_cons_self).ok
    simp only [List.map_cons, PyData.canLayAll0, h1, strs_lay r fun y hy => h y (List.mem_cons_of_mem _ hy), Bool.and_self]
theorem strs_depth : ∀ acc : List Str, PyData.depthAll (acc.map PyData.str) = 0
  | [] => by simp [PyData.depthAll]
  | x :: r => by
    simp only [List.map_cons, PyData.depthAll, PyData.depth, strs_depth r]
    rfl
theorem strs_shaped {acc : List Str} (h : ∀ y ∈ acc, Asc y) : SeqAt.shaped (.list (acc.map PyData.str)) = true := by
  unfold SeqAt.shaped
  simp only [PyData.canLay0, strs_lay acc h, PyData.depth, strs_depth acc]
  rfl
theorem strs_nil {acc : List Str} : PyData.eqv (.list (acc.map PyData.str)) (.list []) = acc.isEmpty := by
  cases acc <;> simp [PyData.eqv, PyData.eqvAll]
section
variable {P : Program} {w : World} {K : PySem.W.Frag} {mg : Str → Option Value} {base : Heap}
theorem scLInt : FnScope ["_law_thing"] ["_law_thing"] (defScope sLInt) := ⟨rfl, rfl, rfl, by decide +kernel, rfl, by decide +kernel, by decide +kernel⟩
theorem ok_lint {f : Addr} {fd : FuncData} (F : Fun K "_law_is_int" "_law_is_int" sLInt f fd) (T : TxJ mg) : FnOk P w K mg base CX0 1 f fd ["_law_thing"] (spJ mInt) := by
  refine F.ok scLInt (fun vs H Q E h => ?_) (fun cdv A outer s H vs Q E hr h => ?_)
  · obtain ⟨b, x, d, n, rfl, _⟩ := h
    rfl
  · obtain ⟨b, x, d, n, rfl, hx, hs, hn, k⟩ := h
    refine ⟨_, (pss_one (ps_ret (pe_and (pe_callB call_isi (by rfl) T.n_isi (by decide +kernel) (pa_cons (pv 0) (pa_cons (pe_bltn (v := .ty "int") (by rfl) (T.n_ty "int" (by simp)) (by decide +kernel) rfl) pa_nil))) (pe_one (pe_not (pe_callB call_isi (by rfl) T.n_isi (by decide +kernel) (pa_cons (pv 0) (pa_cons (pe_bltn (v := .ty "bool") (by rfl) (T.n_ty "bool" (by simp)) (by decide +kernel) rfl) pa_nil)))))))), ?_⟩
    refine ⟨_, rfl, x, .ty "int", _, _, _, rfl, .ty _, hx.ty, kit_ty (kit_int d), isInt d, rfl, ?_⟩
    cases h1 : isInt d with
    | false =>
      have e : mInt d = false := by cases d <;> first | rfl | cases h1
      rw [e] at k
      exact iteF (k H (Same.refl H))
    | true =>
      refine iteT ⟨_, rfl, x, .ty "bool", _, _, _, rfl, .ty _, hx.ty, kit_ty (kit_bool d), _, rfl, ?_⟩
      have e : mInt d = !isBool d := by cases d <;> first | rfl | cases h1
      rw [e] at k
      exact k H (Same.refl H)
theorem scLKind : FnScope ["_law_thing", "_law_letter"] ["_law_thing"] (defScope sLKind) := ⟨rfl, rfl, rfl, by decide +kernel, rfl, by decide +kernel, by decide +kernel⟩
theorem ok_lkind {f : Addr} {fd : FuncData} (F : Fun K "_law_is_kind" "_law_is_kind" sLKind f fd) (T : TxJ mg) : FnOk P w K mg base CX0 1 f fd ["_law_thing"] (spJ mKind) := by
  refine F.ok scLKind (fun vs H Q E h => ?_) (fun cdv A outer s H vs Q E hr h => ?_)
  · obtain ⟨b, x, d, n, rfl, _⟩ := h
    rfl
  · obtain ⟨b, x, d, n, rfl, hx, hs, hn, k⟩ := h
    have nd := scLKind.nd
    refine ⟨_, (pss_cons (ps_if (PW.pt (pw_or (pt_not (pt_val (pe_callB call_isi (by rfl) T.n_isi (by decide +kernel) (pa_cons (pv 0) (pa_cons (pe_bltn (v := .ty "str") (by rfl) (T.n_ty "str" (by simp)) (by decide +kernel) rfl) pa_nil)))))
        (pw_or1 (pt_not (pt_chain op_lt op_lt pe_int (pe_callB call_len_str (by rfl) (T.n_ty "len" (by simp)) (by decide +kernel) (pa_cons (pv 0) pa_nil)) pe_int)))))
      (pss_one (ps_ret pe_bl))
       pss_nil)
    (pss_one (ps_ret (pe_cmpR (op_eqD hr.units) (pe_lc (own := [("_law_letter", 1)]) (g := (gName 1)) (tt := _) rfl nd (pi_str (pv 0)) (blkOk_by (N := ["_law_thing", "_law_letter"]) (sc := defScope sLKind) (by decide +kernel)) (fun _ _ _ _ _ => (pg_name (i := 1) nd rfl (Or.inl rfl))) (fun _ _ _ _ _ => (pts_one (pt_cmpR op_notIn_sign (pv 1) pe_str (by rfl)))) (fun _ _ _ _ _ => (pv 1))) (pe_lst pa_nil) (nomark _))))), ?_⟩
    refine ⟨_, rfl, x, .ty "str", _, _, _, rfl, .ty _, hx.ty, kit_ty (kit_str d), isStr d, rfl, ?_⟩
    cases h1 : isStr d with
    | false =>
      rw [mKind_str h1] at k
      exact iteT (iteT (k H (Same.refl H)))
    | true =>
      obtain ⟨x0, rfl⟩ : ∃ x0, d = .str x0 := by cases d <;> first | exact ⟨_, rfl⟩ | cases h1
      cases hx
      have room : x0.cps.size ≤ 300000 := by
        have := hs.w
        simp only [PyData.weight] at this
        omega
      have line : (300000 : Nat) ≤ sizeLine := by decide
      have asc : ∀ c ∈ x0.cps.toList, c < 128 := Asc.by (by simpa only [ascD] using hs.asc)
      refine iteF ⟨_, rfl, _, rfl, Nat.le_trans room line, _, _, rfl, rfl, _, rfl, ?_⟩
      have eK : mKind (.str x0) = (decide (1 ≤ x0.cps.size) && decide (x0.cps.size ≤ 8) && lets x0) := rfl
      have lz : (x0.length : Int) = (x0.cps.size : Int) := rfl
      refine ite2 (fun z1 => ?_) (fun z1 => ?_)
      · have z1' := of_decide_eq_true z1
        refine ⟨_, _, rfl, rfl, _, rfl, ?_⟩
        refine ite2 (fun z2 => ?_) (fun z2 => ?_)
        · rw [Bool.not_eq_true', decide_eq_false_iff_not] at z2
          rw [eK, decide_eq_false (show ¬ x0.cps.size ≤ 8 by omega), Bool.and_false, Bool.false_and] at k
          exact k H (Same.refl H)
        · rw [Bool.not_eq_true, Bool.not_eq_false', decide_eq_true_iff] at z2
          rw [eK, decide_eq_true (show 1 ≤ x0.cps.size by omega), decide_eq_true (show x0.cps.size ≤ 8 by omega), Bool.true_and, Bool.true_and] at k
          refine ⟨_, rfl, x0, rfl, fun D nD => ?_⟩
          refine lc_text (x := x0) (fun i H' => Same H H' ∧ ∃ acc : List Str, acc.length ≤ i ∧ (∀ y ∈ acc, Asc y) ∧ acc.isEmpty = (x0.cps.toList.take i).all (fun c => decide (c ∈ abc.cps.toList)) ∧ H' D = some (.lst (acc.map V.str)))
            ⟨Same.new nD, [], Nat.le_refl _, fun _ h => (List.not_mem_nil h).elim, rfl, upd_same⟩ ?_ ?_
          · rintro i c H' hc ⟨sm, acc, la, aa, ea, hD⟩
            have li : i < x0.cps.size := (Array.getElem?_eq_some_iff.mp hc).1
            have et : (x0.cps.toList.take (i + 1)).all (fun c => decide (c ∈ abc.cps.toList)) = (acc.isEmpty && decide (c ∈ abc.cps.toList)) := by
              rw [take_more (x := c) (by rw [Array.getElem?_toList]; exact hc), lets_app, ea]
            refine ⟨rfl, ?_⟩
            refine ⟨_, rfl, c, abc, rfl, rfl, _, rfl, ?_⟩
            cases hm : decide (c ∈ abc.cps.toList) with
            | true =>
              refine iteF ⟨sm, acc, by omega, aa, ?_, hD⟩
              rw [et, hm, Bool.and_true]
            | false =>
              refine iteT ⟨_, rfl, acc.map V.str, hD, small1000 (by rw [List.length_map]; omega), Same.newer sm nD, acc ++ [⟨#[c]⟩], by rw [List.length_append]; show acc.length + 1 ≤ _; omega, fun y hy => ?_, ?_, by rw [upd_same, List.map_append]; rfl⟩
              · rcases List.mem_append.mp hy with hy | hy
                · exact aa y hy
                · rw [List.mem_singleton.mp hy]
                  intro c' hc'
                  have e : c' = c := by simpa using hc'
                  rw [e]
                  exact asc c (by rw [Array.mem_toList_iff]; exact Array.mem_of_getElem? hc)
              · rw [et, hm, Bool.and_false]
                cases acc <;> rfl
          · rintro H' ⟨sm, acc, la, aa, ea, hD⟩
            have et : x0.cps.toList.take x0.cps.size = x0.cps.toList := List.take_of_length_le (by simp)
            rw [et] at ea
            refine ⟨by show 0 ≤ sizeLine; decide, fun p np => ⟨.list (acc.map PyData.str), .list [], .lst (SqL.of (by rw [upd_ne (ne_of_none hD np)]; exact hD)) (strs_dp acc), .lst (SqL.of upd_same) .nil, strs_shaped aa, by decide +kernel, ?_⟩⟩
            rw [strs_nil, ea]
            exact k _ (sm.trans (Same.new np))
      · rw [decide_eq_true_iff] at z1
        rw [eK, decide_eq_false (show ¬ 1 ≤ x0.cps.size by omega), Bool.false_and, Bool.false_and] at k
        exact ⟨_, rfl, iteT (k H (Same.refl H))⟩
end
end K11

namespace K11
open PySem PySem.Spec PyProof.Rows L2 HK
section
variable {P : Program} {w : World} {K : PySem.W.Frag} {mg : Str → Option Value} {base : Heap}
theorem scLCart : FnScope ["_law_thing"] ["_law_thing"] (defScope sLCart) := ⟨rfl, rfl, rfl, by decide +kernel, rfl, by decide +kernel, by decide +kernel⟩
theorem ok_lcart {f fK : Addr} {fd fdK : FuncData} (F : Fun K "_law_is_cart" "_law_is_cart" sLCart f fd) (T : TxJ mg) (gK : mg "_law_is_kind" = some (.ref fK)) (FK : Fun K "_law_is_kind" "_law_is_kind" sLKind fK fdK) (bK : Binds K fdK ["_law_thing"] []) :
    FnOk P w K mg base CX0 2 f fd ["_law_thing"] (spJ mCart) := by
  have GK : FnOk P w K mg base CX0 1 fK fdK _ (spJ mKind) := ok_lkind FK T
  refine F.ok scLCart (fun vs H Q E h => ?_) (fun cdv A outer s H vs Q E hr h => ?_)
  · obtain ⟨b, x, d, n, rfl, _⟩ := h
    rfl
  · obtain ⟨b, x, d, n, rfl, hx, hs, hn, k⟩ := h
    have nd := scLCart.nd
    refine ⟨_, (pss_cons (ps_if (PW.pt (pw_or (pt_not (pt_val (pe_callB call_isi (by rfl) T.n_isi (by decide +kernel) (pa_cons (pv 0) (pa_cons (pe_bltn (v := .ty "tuple") (by rfl) (T.n_ty "tuple" (by simp)) (by decide +kernel) rfl) pa_nil)))))
        (pw_or (pt_cmpR op_ne (pe_callB call_len_seq (by rfl) (T.n_ty "len" (by simp)) (by decide +kernel) (pa_cons (pv 0) pa_nil)) pe_int (nomark _))
        (pw_or1 (pt_not (pt_val (pe_callB call_isi (by rfl) T.n_isi (by decide +kernel) (pa_cons (pe_ix ix_tup (pv 0) pe_int (fun _ _ => rfl)) (pa_cons (pe_bltn (v := .ty "bool") (by rfl) (T.n_ty "bool" (by simp)) (by decide +kernel) rfl) pa_nil)))))))))
      (pss_one (ps_ret pe_bl))
       pss_nil)
    (pss_one (ps_ret (pe_and (pe_call GK hr rfl gK FK.kp bK .nil pass0 (pa_cons (pe_ix ix_tup (pv 0) pe_int (fun _ _ => rfl)) pa_nil)) (pe_and (pe_call GK hr rfl gK FK.kp bK .nil pass0 (pa_cons (pe_ix ix_tup (pv 0) pe_int (fun _ _ => rfl)) pa_nil)) (pe_one (pe_or (pe_not (pe_ix ix_tup (pv 0) pe_int (fun _ _ => rfl))) (pe_one (pe_cmpR op_leS (pe_ix ix_tup (pv 0) pe_int (fun _ _ => rfl)) (pe_ix ix_tup (pv 0) pe_int (fun _ _ => rfl)) (nomark _)))))))))), ?_⟩
    refine ⟨_, rfl, x, .ty "tuple", _, _, _, rfl, .ty _, hx.ty, kit_ty (kit_tup d), isTup d, rfl, ?_⟩
    cases h1 : isTup d with
    | false =>
      rw [mCart_tup h1] at k
      exact iteT (iteT (k H (Same.refl H)))
    | true =>
      obtain ⟨ds, rfl⟩ : ∃ ds, d = .tuple ds := by cases d <;> first | exact ⟨_, rfl⟩ | cases h1
      obtain ⟨a, xs, rfl, na, ha, hxs⟩ := hx.tupI
      refine iteF ⟨_, rfl, a, xs, rfl, .inr (SqT.of ha), rfl, _, rfl, ?_⟩
      have lx := hxs.len
      refine ite2 (fun z => ?_) (fun z => ?_)
      · rw [Bool.not_eq_true', decide_eq_false_iff_not] at z
        have l3 : ds.length ≠ 3 := fun q => z (by rw [lx, q]; rfl)
        rw [mCart_len l3] at k
        exact iteT (k H (Same.refl H))
      · rw [Bool.not_eq_true, Bool.not_eq_false', decide_eq_true_iff] at z
        have z' : (xs.length : Int) = 3 := V.int.inj z
        obtain ⟨fD, kD, tD, rfl⟩ := three_of (ds := ds) (by omega)
        obtain ⟨vf, vk, vt, rfl, hf, hk, ht⟩ := hxs.three
        obtain ⟨sf, sk, st⟩ := K11.SX.in3 hs
        have eC : mCart (.tuple [fD, kD, tD]) = (mKind fD && (mKind kD && (isBool tD && (!truth tD || leS fD kD)))) := rfl
        rw [eC] at k
        refine ⟨_, rfl, a, _, _, _, rfl, rfl, SqT.of ha, rfl, vt, .ty "bool", _, _, _, rfl, .ty _, ht.ty, kit_ty (kit_bool tD), isBool tD, rfl, ?_⟩
        cases e3 : isBool tD with
        | false =>
          rw [e3, Bool.false_and, Bool.and_false, Bool.and_false] at k
          exact iteT (k H (Same.refl H))
        | true =>
          rw [e3, Bool.true_and] at k
          obtain ⟨t0, rfl⟩ := isBool_is e3
          cases ht.blI
          refine iteF ⟨_, rfl, a, _, _, _, rfl, rfl, SqT.of ha, rfl, b, vf, fD, n, rfl, hf, sf, hn, fun H1 s1 => ⟨mKind fD, rfl, ?_⟩⟩
          cases e1 : mKind fD with
          | false =>
            rw [e1] at k
            exact iteF (k H1 s1)
          | true =>
            rw [e1] at k
            refine iteT ⟨_, rfl, a, _, _, _, rfl, rfl, SqT.of (s1 _ _ ha), rfl, b, vk, kD, n, rfl, hk.same s1, sk, hn, fun H2 s2 => ⟨mKind kD, rfl, ?_⟩⟩
            cases e2 : mKind kD with
            | false =>
              rw [e2] at k
              exact iteF (k H2 (s1.trans s2))
            | true =>
              rw [e2] at k
              obtain ⟨f0, rfl⟩ := mKind_is e1
              obtain ⟨k0, rfl⟩ := mKind_is e2
              cases hf.strI
              cases hk.strI
              have ha2 := SqT.of (K := K) ((s1.trans s2) _ _ ha)
              refine iteT ⟨_, rfl, a, _, _, _, rfl, rfl, ha2, rfl, t0, rfl, !t0, rfl, ?_⟩
              cases t0 with
              | false => exact iteT (k H2 (s1.trans s2))
              | true => exact iteF ⟨_, rfl, a, _, _, _, rfl, rfl, ha2, rfl, _, rfl, a, _, _, _, rfl, rfl, ha2, rfl, f0, k0, rfl, rfl, k H2 (s1.trans s2)⟩
theorem scLStep : FnScope ["_law_thing"] ["_law_thing"] (defScope sLStep) := ⟨rfl, rfl, rfl, by decide +kernel, rfl, by decide +kernel, by decide +kernel⟩
theorem ok_lstep {f fK fC : Addr} {fd fdK fdC : FuncData} (F : Fun K "_law_is_step" "_law_is_step" sLStep f fd) (T : TxJ mg) (gK : mg "_law_is_kind" = some (.ref fK)) (FK : Fun K "_law_is_kind" "_law_is_kind" sLKind fK fdK) (bK : Binds K fdK ["_law_thing"] [])
    (gC : mg "_law_is_cart" = some (.ref fC)) (FC : Fun K "_law_is_cart" "_law_is_cart" sLCart fC fdC) (bC : Binds K fdC ["_law_thing"] []) : FnOk P w K mg base CX0 3 f fd ["_law_thing"] (spJ mStep) := by
  have GC : FnOk P w K mg base CX0 2 fC fdC _ (spJ mCart) := ok_lcart FC T gK FK bK
  refine F.ok scLStep (fun vs H Q E h => ?_) (fun cdv A outer s H vs Q E hr h => ?_)
  · obtain ⟨b, x, d, n, rfl, _⟩ := h
    rfl
  · obtain ⟨b, x, d, n, rfl, hx, hs, hn, k⟩ := h
    have nd := scLStep.nd
    refine ⟨_, (pss_cons (ps_if (PW.pt (pw_or (pt_not (pt_val (pe_callB call_isi (by rfl) T.n_isi (by decide +kernel) (pa_cons (pv 0) (pa_cons (pe_bltn (v := .ty "tuple") (by rfl) (T.n_ty "tuple" (by simp)) (by decide +kernel) rfl) pa_nil)))))
        (pw_or (pt_cmpR op_ne (pe_callB call_len_seq (by rfl) (T.n_ty "len" (by simp)) (by decide +kernel) (pa_cons (pv 0) pa_nil)) pe_int (nomark _))
        (pw_or1 (pt_not (pt_val (pe_call GC hr rfl gC FC.kp bC .nil pass0 (pa_cons (pe_ix ix_tup (pv 0) pe_int (fun _ _ => rfl)) pa_nil))))))))
      (pss_one (ps_ret pe_bl))
       pss_nil)
    (pss_one (ps_ret (pe_and (pe_callB call_isi (by rfl) T.n_isi (by decide +kernel) (pa_cons (pe_ix ix_tup (pv 0) pe_int (fun _ _ => rfl)) (pa_cons (pe_bltn (v := .ty "bool") (by rfl) (T.n_ty "bool" (by simp)) (by decide +kernel) rfl) pa_nil))) (pe_one (pe_or (pe_not (pe_ix ix_tup (pv 0) pe_int (fun _ _ => rfl))) (pe_one (pe_and (pe_ix ix_tup (pe_ix ix_tup (pv 0) pe_int (fun _ _ => rfl)) pe_int (fun _ _ => rfl)) (pe_one (pe_cmpR op_ne (pe_ix ix_tup (pe_ix ix_tup (pv 0) pe_int (fun _ _ => rfl)) pe_int (fun _ _ => rfl)) (pe_ix ix_tup (pe_ix ix_tup (pv 0) pe_int (fun _ _ => rfl)) pe_int (fun _ _ => rfl)) (nomark _))))))))))), ?_⟩
    refine ⟨_, rfl, x, .ty "tuple", _, _, _, rfl, .ty _, hx.ty, kit_ty (kit_tup d), isTup d, rfl, ?_⟩
    cases h1 : isTup d with
    | false =>
      rw [mStep_tup h1] at k
      exact iteT (iteT (k H (Same.refl H)))
    | true =>
      obtain ⟨ds, rfl⟩ : ∃ ds, d = .tuple ds := by cases d <;> first | exact ⟨_, rfl⟩ | cases h1
      obtain ⟨a, xs, rfl, na, ha, hxs⟩ := hx.tupI
      refine iteF ⟨_, rfl, a, xs, rfl, .inr (SqT.of ha), rfl, _, rfl, ?_⟩
      have lx := hxs.len
      refine ite2 (fun z => ?_) (fun z => ?_)
      · rw [Bool.not_eq_true', decide_eq_false_iff_not] at z
        have l3 : ds.length ≠ 2 := fun q => z (by rw [lx, q]; rfl)
        rw [mStep_len l3] at k
        exact iteT (k H (Same.refl H))
      · rw [Bool.not_eq_true, Bool.not_eq_false', decide_eq_true_iff] at z
        have z' : (xs.length : Int) = 2 := V.int.inj z
        obtain ⟨cD, uD, rfl⟩ := two_of (ds := ds) (by omega)
        obtain ⟨vc, vu, rfl, hc, hu⟩ := hxs.two
        obtain ⟨sc, su⟩ := K11.SX.in2 hs
        have eC : mStep (.tuple [cD, uD]) = (mCart cD && (isBool uD && (!truth uD || twoD cD))) := rfl
        rw [eC] at k
        refine ⟨_, rfl, a, _, _, _, rfl, rfl, SqT.of ha, rfl, b, vc, cD, n, rfl, hc, sc, hn, fun H1 s1 => ⟨mCart cD, rfl, ?_⟩⟩
        have ha1 := SqT.of (K := K) (s1 _ _ ha)
        cases e1 : mCart cD with
        | false =>
          rw [e1] at k
          exact iteT (k H1 s1)
        | true =>
          rw [e1, Bool.true_and] at k
          obtain ⟨f0, k0, t0, rfl⟩ := cart_is e1
          obtain ⟨c, rfl, nc, ec⟩ := cartX hc
          have ec1 := SqT.of (K := K) (s1 _ _ ec)
          refine iteF ⟨_, rfl, a, _, _, _, rfl, rfl, ha1, rfl, vu, .ty "bool", _, _, _, rfl, .ty _, (hu.same s1).ty, kit_ty (kit_bool uD), isBool uD, rfl, ?_⟩
          cases e3 : isBool uD with
          | false =>
            rw [e3] at k
            exact iteF (k H1 s1)
          | true =>
            rw [e3, Bool.true_and] at k
            obtain ⟨u0, rfl⟩ := isBool_is e3
            cases hu.blI
            refine iteT ⟨_, rfl, a, _, _, _, rfl, rfl, ha1, rfl, u0, rfl, !u0, rfl, ?_⟩
            cases u0 with
            | false => exact iteT (k H1 s1)
            | true =>
              refine iteF ⟨_, rfl, a, _, _, _, rfl, rfl, ha1, rfl, c, _, _, _, rfl, rfl, ec1, rfl, t0, rfl, ?_⟩
              cases t0 with
              | false => exact iteF (k H1 s1)
              | true =>
                have e3 : (!truth (.bool true) || twoD (.tuple [.str f0, .str k0, .bool true])) = !decide (V.str f0 = V.str k0) := by
                  rw [ne_str]
                  rfl
                rw [e3] at k
                exact iteT ⟨_, rfl, a, _, _, _, rfl, rfl, ha1, rfl, c, _, _, _, rfl, rfl, ec1, rfl, _, rfl, a, _, _, _, rfl, rfl, ha1, rfl, c, _, _, _, rfl, rfl, ec1, rfl, rfl, k H1 s1⟩
end
end K11

namespace HK
open PySem PySem.Spec PyProof.Rows L2
theorem op_ltS {X : Cx} : OpR X (compareOp .Lt) (fun x y H Q => ∃ i j, x = .str i ∧ y = .str j ∧ Q (.bl (decide (i.cps.toList < j.cps.toList))) H) := by
  intro pins s σ H x y v u Q I rx ry h
  obtain ⟨i, j, rfl, rfl, q⟩ := h
  obtain ⟨t, rfl⟩ := rx
  obtain ⟨t', rfl⟩ := ry
  exact compareOp_gives (op := .Lt) (typeIs_str s i t) (typeIs_str s j t') F.slot_str_lt F.entry_str_lt (F.args_str_lt_2 _ _) (gives_str_lt i j t t') (fun e => nomatch e) ⟨.bl _, H, I, rfl, q⟩
end HK
namespace K11
open PySem PySem.Spec PyProof.Rows L2 HK
theorem of6 {i : Int} (h0 : 0 ≤ i) (h1 : i < 6) : ∃ m, atI [V.int 1, .int 2, .int 3, .int 4, .int 6, .int 12] i = some (.int m) ∧ 1 ≤ m ∧ m ≤ 12 := by
  have e : i = 0 ∨ i = 1 ∨ i = 2 ∨ i = 3 ∨ i = 4 ∨ i = 5 := by omega
  rcases e with rfl | rfl | rfl | rfl | rfl | rfl <;> exact ⟨_, rfl, by decide, by decide⟩
theorem of4 {i : Int} (h0 : 0 ≤ i) (h1 : i < 4) : ∃ m, atI [V.int (10 ^ (3 : Int).toNat), .int (10 ^ (9 : Int).toNat), .int (10 ^ (17 : Int).toNat), .int (10 ^ (29 : Int).toNat)] i = some (.int m) ∧ 0 ≤ m ∧ m ≤ 10 ^ 29 := by
  have e : i = 0 ∨ i = 1 ∨ i = 2 ∨ i = 3 := by omega
  rcases e with rfl | rfl | rfl | rfl <;> exact ⟨_, rfl, by decide +kernel, by decide +kernel⟩
theorem KindS.min {x y : Str} (h : KindS x) (k : KindS y) : KindS (minS x y) := by
  unfold minS
  split
  · exact k
  · exact h
theorem KindS.max {x y : Str} (h : KindS x) (k : KindS y) : KindS (maxS x y) := by
  unfold maxS
  split
  · exact k
  · exact h
theorem KindS.asc {x : Str} (h : KindS x) : Asc x := fun c hc => by
  have := h.let' c hc
  omega
structure TxM (mg : Str → Option Value) : Prop where
  n_min : mg "min" = none
  n_max : mg "max" = none
def dSt (f k : Str) (t u : Bool) : PyData := .tuple [.tuple [.str f, .str k, .bool t], .bool u]
section
variable {P : Program} {w : World} {K : PySem.W.Frag} {mg : Str → Option Value} {base : Heap}
def spLNum : Sp := fun vs H Q _ => ∃ (b : Addr), vs = [.ref b] ∧ Bag b H ∧ ∀ r H', 0 ≤ r → r < 10 ^ 39 → Bag b H' → Keep b H H' → Q (.int r) H'
theorem scLNum : FnScope ["_law_bag_here", "_law_way"] ["_law_bag_here"] (defScope sLNum) := ⟨rfl, rfl, rfl, by decide +kernel, rfl, by decide +kernel, by decide +kernel⟩
theorem ok_lnum {f fT : Addr} {fd fdT : FuncData} (F : Fun K "_law_number" "_law_number" sLNum f fd) (T : TxB mg) (gT : mg "_law_take" = some (.ref fT)) (FT : Fun K "_law_take" "_law_take" sTake fT fdT) (bT : Binds K fdT ["_law_bag_here", "_law_many"] []) :
    FnOk P w K mg base CX0 2 f fd ["_law_bag_here"] spLNum := by
  have GT : FnOk P w K mg base CX0 1 fT fdT _ spTake := ok_take FT T
  refine F.ok scLNum (fun vs H Q E h => ?_) (fun cdv A outer s H vs Q E hr h => ?_)
  · obtain ⟨b, rfl, _⟩ := h
    rfl
  · obtain ⟨b, rfl, g, k⟩ := h
    have nd := scLNum.nd
    refine ⟨_, (pss_cons (ps_set (i := 1) nd rfl (Or.inl rfl) (pe_call GT hr rfl gT FT.kp bT .nil pass0 (pa_cons (pv 0) (pa_cons pe_int pa_nil))))
    (pss_cons (ps_if (pt_cmpR op_lt (pv 1) pe_int (nomark _))
      (pss_one (ps_ret (pe_op op_add pe_int (pe_call GT hr rfl gT FT.kp bT .nil pass0 (pa_cons (pv 0) (pa_cons (pe_ix ix_list (pe_lst (pa_cons pe_int (pa_cons pe_int (pa_cons pe_int (pa_cons pe_int (pa_cons pe_int (pa_cons pe_int pa_nil))))))) (pv 1) (fun _ _ => rfl)) pa_nil))))))
       pss_nil)
    (pss_one (ps_ret (pe_op op_add (pe_ix ix_list (pe_lst (pa_cons (pe_op op_pow pe_int pe_int) (pa_cons (pe_op op_pow pe_int pe_int) (pa_cons (pe_op op_pow pe_int pe_int) (pa_cons (pe_op op_pow pe_int pe_int) pa_nil))))) (pe_call GT hr rfl gT FT.kp bT .nil pass0 (pa_cons (pv 0) (pa_cons pe_int pa_nil))) (fun _ _ => rfl)) (pe_call GT hr rfl gT FT.kp bT .nil pass0 (pa_cons (pv 0) (pa_cons pe_int pa_nil)))))))), ?_⟩
    refine ⟨_, rfl, b, 8, rfl, g, by decide, by decide, fun way H1 w0 w1 g1 k1 => ?_⟩
    refine ⟨_, rfl, _, _, rfl, rfl, _, rfl, ?_⟩
    refine ite2 (fun z => ?_) (fun z => ?_)
    · have z' := of_decide_eq_true z
      obtain ⟨m, em, m1, m2⟩ := of6 w0 z'
      refine ⟨_, rfl, by show 6 ≤ sizeLine; decide, fun p np => ⟨_, rfl, p, _, _, _, rfl, rfl, SqL.of upd_same, em, b, m, rfl, g1.same (Same.new np), m1, by omega, fun r H2 r0 r1 g2 k2 => ⟨_, _, rfl, rfl, k _ _ (by omega) ?_ g2 ((k1.trans (Keep.of (Same.new np))).trans k2)⟩⟩⟩
      omega
    · refine ⟨_, _, rfl, rfl, ⟨by decide, by decide, by decide⟩, _, _, rfl, rfl, ⟨by decide, by decide, by decide⟩, _, _, rfl, rfl, ⟨by decide, by decide, by decide⟩, _, _, rfl, rfl, ⟨by decide, by decide, by decide⟩, by show 4 ≤ sizeLine; decide, fun p np => ?_⟩
      refine ⟨_, rfl, b, 4, rfl, g1.same (Same.new np), by decide, by decide, fun r H2 r0 r1 g2 k2 => ?_⟩
      obtain ⟨m, em, m1, m2⟩ := of4 r0 r1
      have np' : p ≠ b := g1.ne np
      refine ⟨p, _, _, _, rfl, rfl, SqL.of (k2 _ _ np' upd_same), em, _, rfl, b, 7, rfl, g2, by decide, by decide, fun q H3 q0 q1 g3 k3 => ⟨_, _, rfl, rfl, k _ _ (by omega) ?_ g3 (((k1.trans (Keep.of (Same.new np))).trans k2).trans k3)⟩⟩
      have : (10 : Int) ^ 29 + 7 ≤ 10 ^ 39 := by decide
      omega
def spStepOn : Sp := fun vs H Q _ => ∃ (b : Addr) (x y : Str), vs = [.ref b, .str x, .str y] ∧ Bag b H ∧ KindS x ∧ KindS y ∧ ∀ f k t u v H', KindS f → KindS k → Bag b H' → Keep b H H' → DX b H' v (dSt f k t u) → Q v H'
theorem scStepOn : FnScope ["_law_bag_here", "_law_here", "_law_there"] ["_law_bag_here", "_law_here", "_law_there"] (defScope sStepOn) := ⟨rfl, rfl, rfl, by decide +kernel, rfl, by decide +kernel, by decide +kernel⟩
theorem newStep {b c t : Addr} {H : Hp} {f k : Str} {x u : Bool} (g : Bag b H) (nc : H c = none) (nt : (upd H c (.tup [.str f, .str k, .bl x])) t = none) :
    DX b (upd (upd H c (.tup [.str f, .str k, .bl x])) t (.tup [.ref c, .bl u])) (.ref t) (dSt f k x u) := by
  have z := DX.newT (b := b) (p := c) (xs := [.str f, .str k, .bl x]) (ds := [.str f, .str k, .bool x]) (g.ne nc) nc (.cons (.str f) (.cons (.str k) (.cons (.bl x) .nil)))
  exact DX.newT (g.ne ((Same.new nc).free nt)) nt (.cons z (.cons (.bl u) .nil))
theorem ok_stepon {f fT : Addr} {fd fdT : FuncData} (F : Fun K "_law_step_on" "_law_step_on" sStepOn f fd) (T : TxB mg) (M : TxM mg) (gT : mg "_law_take" = some (.ref fT)) (FT : Fun K "_law_take" "_law_take" sTake fT fdT) (bT : Binds K fdT ["_law_bag_here", "_law_many"] []) :
    FnOk P w K mg base CX0 2 f fd ["_law_bag_here", "_law_here", "_law_there"] spStepOn := by
  have GT : FnOk P w K mg base CX0 1 fT fdT _ spTake := ok_take FT T
  refine F.ok scStepOn (fun vs H Q E h => ?_) (fun cdv A outer s H vs Q E hr h => ?_)
  · obtain ⟨b, x, y, rfl, _⟩ := h
    rfl
  · obtain ⟨b, x, y, rfl, g, kx, ky, k⟩ := h
    have nd := scStepOn.nd
    refine ⟨_, (pss_cons (ps_if (pt_cmpR op_eq (pe_call GT hr rfl gT FT.kp bT .nil pass0 (pa_cons (pv 0) (pa_cons pe_int pa_nil))) pe_int (nomark _))
      (pss_one (ps_ret (pe_tup (pa_cons (pe_tup (pa_cons (pv 1) (pa_cons (pv 2) (pa_cons pe_bl pa_nil)))) (pa_cons pe_bl pa_nil)))))
       pss_nil)
    (pss_one (ps_ret (pe_tup (pa_cons (pe_tup (pa_cons (pe_callB (call_minS rfl) (by rfl) M.n_min (by decide +kernel) (pa_cons (pv 1) (pa_cons (pv 2) pa_nil))) (pa_cons (pe_callB (call_maxS rfl) (by rfl) M.n_max (by decide +kernel) (pa_cons (pv 1) (pa_cons (pv 2) pa_nil))) (pa_cons pe_bl pa_nil)))) (pa_cons (pe_cmpR op_ltS (pv 2) (pv 1) (nomark _)) pa_nil)))))), ?_⟩
    refine ⟨_, rfl, b, 2, rfl, g, by decide, by decide, fun way H1 w0 w1 g1 k1 => ⟨rfl, _, rfl, ?_⟩⟩
    refine ite2 (fun z => ?_) (fun z => ?_)
    · refine ⟨_, rfl, _, rfl, by show 3 ≤ sizeLine; decide, fun c nc => ⟨by show 2 ≤ sizeLine; decide, fun t nt => k x y false false _ _ kx ky ?_ ?_ (newStep g1 nc nt)⟩⟩
      · exact g1.same (Same.newer (Same.new nc) ((Same.new nc).free nt))
      · exact k1.trans (Keep.of (Same.newer (Same.new nc) ((Same.new nc).free nt)))
    · refine ⟨_, rfl, _, rfl, x, y, rfl, _, rfl, _, rfl, x, y, rfl, by show 3 ≤ sizeLine; decide, fun c nc => ⟨_, rfl, _, rfl, y, x, rfl, rfl, by show 2 ≤ sizeLine; decide, fun t nt => k (minS x y) (maxS x y) true _ _ _ (kx.min ky) (kx.max ky) ?_ ?_ (newStep g1 nc nt)⟩⟩
      · exact g1.same (Same.newer (Same.new nc) ((Same.new nc).free nt))
      · exact k1.trans (Keep.of (Same.newer (Same.new nc) ((Same.new nc).free nt)))
end
end K11

namespace HK
open PySem PySem.Spec PyProof.Rows L2
theorem DXs.snoc {b : Addr} {H H' : Hp} {vs : List V} {ds : List PyData} {v : V} {d : PyData} (h : DXs b H vs ds) (s : Same H H') (x : DX b H' v d) : DXs b H' (vs ++ [v]) (ds ++ [d]) := (h.same s).append (.cons x .nil)
def okX (n m : Nat) (d : PyData) : Bool := ascD d && (d.leavesShort 40 && (d.showable && (decide (d.weight ≤ n) && decide (d.depth ≤ m))))
theorem SX.by {n m : Nat} {d : PyData} (h : okX n m d = true) : SX d n m := by
  unfold okX at h
  simp only [Bool.and_eq_true, decide_eq_true_eq] at h
  exact ⟨h.1, h.2.1, h.2.2.1, h.2.2.2.1, h.2.2.2.2⟩
theorem SXs.rep : ∀ n : Nat, SXs (List.replicate n .none) n 0
  | 0 => SXs.nil
  | n + 1 => by
    have := (SX.none).mono (Nat.le_refl 0) (Nat.le_refl 0)
    exact (SXs.cons this (SXs.rep n)).mono (by omega) (Nat.le_refl _)
theorem DXs.rep {b : Addr} {H : Hp} : ∀ n : Nat, DXs b H (List.replicate n .non) (List.replicate n .none)
  | 0 => .nil
  | n + 1 => .cons .non (DXs.rep n)
section
variable {b p : Addr} {H H' : Hp}
mutual
/-- what is not told yet is not in it -/
theorem DX.un (n : H p = none) : ∀ {v : V} (d : PyData), DX b H v d → DX p H v d
  | _, .none, .non => .non
  | _, .bool _, .bl x => .bl x
  | _, .int _, .int i => .int i
  | _, .str _, .str x => .str x
  | _, .list ds, .lst _ h r => .lst (ne_of_none h n) h (DXs.un n ds r)
  | _, .tuple ds, .tup _ h r => .tup (ne_of_none h n) h (DXs.un n ds r)
  | _, .dict _, .dct _ h => .dct (ne_of_none h n) h
theorem DXs.un (n : H p = none) : ∀ {vs : List V} (ds : List PyData), DXs b H vs ds → DXs p H vs ds
  | _, [], .nil => .nil
  | _, d :: ds, .cons x r => .cons (DX.un n d x) (DXs.un n ds r)
end
mutual
/-- p is changed, and is not in it -/
theorem DX.both (k : HK.Keep p H H') : ∀ {v : V} (d : PyData), DX b H v d → DX p H v d → DX b H' v d
  | _, .none, .non, _ => .non
  | _, .bool _, .bl x, _ => .bl x
  | _, .int _, .int i, _ => .int i
  | _, .str _, .str x, _ => .str x
  | _, .list ds, .lst n h r, .lst n' h' r' => .lst n (k _ _ n' h) (DXs.both k ds r (by rw [h] at h'; cases h'; exact r'))
  | _, .tuple ds, .tup n h r, .tup n' h' r' => .tup n (k _ _ n' h) (DXs.both k ds r (by rw [h] at h'; cases h'; exact r'))
  | _, .dict _, .dct n h, .dct n' _ => .dct n (k _ _ n' h)
theorem DXs.both (k : HK.Keep p H H') : ∀ {vs : List V} (ds : List PyData), DXs b H vs ds → DXs p H vs ds → DXs b H' vs ds
  | _, [], .nil, _ => .nil
  | _, d :: ds, .cons x r, .cons x' r' => .cons (DX.both k d x x') (DXs.both k ds r r')
end
end
/-- apart from all of S -/
def DA (S : Addr → Prop) (H : Hp) (v : V) (d : PyData) : Prop := ∀ q, S q → DX q H v d
def DAs (S : Addr → Prop) (H : Hp) (vs : List V) (ds : List PyData) : Prop := ∀ q, S q → DXs q H vs ds
section
variable {S : Addr → Prop} {H H' : Hp} {v : V} {vs ws : List V} {d : PyData} {ds es : List PyData} {p : Addr}
theorem DA.same (h : DA S H v d) (s : Same H H') : DA S H' v d := fun q hq => (h q hq).same s
theorem DAs.same (h : DAs S H vs ds) (s : Same H H') : DAs S H' vs ds := fun q hq => (h q hq).same s
theorem DAs.append (h : DAs S H vs ds) (k : DAs S H ws es) : DAs S H (vs ++ ws) (ds ++ es) := fun q hq => (h q hq).append (k q hq)
theorem DAs.snoc (h : DAs S H vs ds) (s : Same H H') (x : DA S H' v d) : DAs S H' (vs ++ [v]) (ds ++ [d]) := fun q hq => (h q hq).snoc s (x q hq)
theorem DAs.one (x : DA S H v d) : DAs S H [v] [d] := fun q hq => .cons (x q hq) .nil
theorem DA.newT (hS : ∀ q, S q → H q ≠ none) (n : H p = none) (h : DAs S H vs ds) : DA S (upd H p (.tup vs)) (.ref p) (.tuple ds) := fun q hq => DX.newT (fun e => hS q hq (e ▸ n)) n (h q hq)
theorem DA.newL (hS : ∀ q, S q → H q ≠ none) (n : H p = none) (h : DAs S H vs ds) : DA S (upd H p (.lst vs)) (.ref p) (.list ds) := fun q hq => DX.newL (fun e => hS q hq (e ▸ n)) n (h q hq)
theorem DA.newD (hS : ∀ q, S q → H q ≠ none) (n : H p = none) : DA S (upd H p (.dK [])) (.ref p) (.dict []) := fun q hq => DX.dct (fun e => hS q hq (e ▸ n)) upd_same
theorem told_same (hS : ∀ q, S q → H q ≠ none) (s : Same H H') : ∀ q, S q → H' q ≠ none := fun q hq => by
  cases e : H q with
  | none => exact absurd e (hS q hq)
  | some o => rw [s _ _ e]; exact fun z => nomatch z
end
theorem flat1 {α : Type} (x : α) : ∀ n : Nat, (List.replicate n [x]).flatten = List.replicate n x
  | 0 => rfl
  | n + 1 => by rw [List.replicate_succ, List.flatten_cons, flat1 x n]; rfl
end HK
namespace K11
open PySem PySem.Spec PyProof.Rows L2 HK
def deepD : Nat → PyData | 0 => .list [] | n + 1 => .list [deepD n]
def dT (f k : Str) (t : Bool) : PyData := .tuple [.str f, .str k, .bool t]
def dsA : List PyData := [.none, .bool true, .bool false, .int 0, .int 1, .int (-1), .int 2, .int (10 ^ (31 : Int).toNat), .str "", .str "a", .str "A", .str "ab", .str "abcdefghi", .str "a b", .str "aaaaaaaa", .tuple [], .list [], .dict []]
def dsB : List PyData := [dT "a" "b" true, dT "b" "a" true, .tuple [.str "a", .str "b", .int 1], dT "a" "a" true, dSt "a" "b" true true]
def dsC : List PyData := [dSt "a" "b" false true, dSt "a" "a" true true, .list [.str "a", .str "b", .bool false], .list (List.replicate 900 .none), deepD 9]
theorem okA : ∀ d ∈ dsA, SX d 1000 12 := by
  intro d hd
  simp only [dsA, List.mem_cons, List.not_mem_nil, or_false] at hd
  rcases hd with rfl | rfl | rfl | rfl | rfl | rfl | rfl | rfl | rfl | rfl | rfl | rfl | rfl | rfl | rfl | rfl | rfl | rfl
  all_goals first | exact (SX.int (by decide +kernel)).mono (by decide) (by decide) | exact SX.by (by decide +kernel)
theorem tri_int : SX (.tuple [.str "a", .str "b", .int 1]) 1000 12 :=
  ((SXs.cons (SX.str (n := 1) (Asc.by (by decide +kernel)) (by decide)) (SXs.cons (SX.str (n := 1) (Asc.by (by decide +kernel)) (by decide)) (SXs.cons ((SX.int (i := 1) (by decide +kernel)).mono (Nat.le_refl _) (Nat.zero_le 0)) SXs.nil))).tuple).mono (by decide) (by decide)
theorem okB : ∀ d ∈ dsB, SX d 1000 12 := by
  intro d hd
  simp only [dsB, List.mem_cons, List.not_mem_nil, or_false] at hd
  rcases hd with rfl | rfl | rfl | rfl | rfl
  all_goals first | exact tri_int | exact SX.by (by decide +kernel)
theorem okC : ∀ d ∈ dsC, SX d 1000 12 := by
  intro d hd
  simp only [dsC, List.mem_cons, List.not_mem_nil, or_false] at hd
  rcases hd with rfl | rfl | rfl | rfl | rfl
  · exact SX.by (by decide +kernel)
  · exact SX.by (by decide +kernel)
  · exact SX.by (by decide +kernel)
  · exact ((SXs.rep 900).list).mono (by decide) (by decide)
  · exact SX.by (by decide +kernel)
structure TxR (mg : Str → Option Value) : Prop where
  n_range : mg "range" = none
section
variable {P : Program} {w : World} {K : PySem.W.Frag} {mg : Str → Option Value} {base : Heap}
def Told (H : Hp) (q : Addr) : Prop := H q ≠ none
def spOdd : Sp := fun vs H Q _ => ∃ (b : Addr), vs = [.ref b] ∧ Bag b H ∧ ∀ v d H', DA (Told H) H' v d → SX d 1000 12 → Bag b H' → Keep b H H' → Q v H'
theorem scOdd : FnScope ["_law_bag_here", "_law_deep", "_law_k", "_law_some"] ["_law_bag_here"] (defScope sOdd) := ⟨rfl, rfl, rfl, by decide +kernel, rfl, by decide +kernel, by decide +kernel⟩
theorem ok_odd {f fT fO : Addr} {fd fdT fdO : FuncData} (F : Fun K "_law_odd_value" "_law_odd_value" sOdd f fd) (T : TxB mg) (R : TxR mg) (gT : mg "_law_take" = some (.ref fT)) (FT : Fun K "_law_take" "_law_take" sTake fT fdT) (bT : Binds K fdT ["_law_bag_here", "_law_many"] [])
    (gO : mg "_law_one" = some (.ref fO)) (FO : Fun K "_law_one" "_law_one" sOne fO fdO) (bO : Binds K fdO ["_law_bag_here", "_law_things"] []) :
    FnOk P w K mg base CX0 3 f fd ["_law_bag_here"] spOdd := by
  have GO : FnOk P w K mg base CX0 2 fO fdO _ spOne := ok_one FO T gT FT bT
  refine F.ok scOdd (fun vs H Q E h => ?_) (fun cdv A outer s H vs Q E hr h => ?_)
  · obtain ⟨b, rfl, _⟩ := h
    rfl
  · obtain ⟨b, rfl, g, k⟩ := h
    have nd := scOdd.nd
    refine ⟨_, (pss_cons (ps_set (i := 1) nd rfl (Or.inl rfl) (pe_lst pa_nil))
    (C8.pss_cut (ps_for PassesOwn.never rfl (pi_range1 (by rfl) R.n_range (pa_cons pe_int pa_nil)) (pg_name (i := 2) nd rfl (Or.inl rfl))
      (pss_one (ps_set (i := 1) nd rfl (Or.inl rfl) (pe_lst (pa_cons (pv 1) pa_nil)))))
    (C8.pss_cut (ps_set (i := 3) nd rfl (Or.inl rfl) (pe_lst (pa_cons pe_non (pa_cons pe_bl (pa_cons pe_bl (pa_cons pe_int (pa_cons pe_int (pa_cons (pe_un un_neg pe_int) (pa_cons pe_int (pa_cons (pe_op op_pow pe_int pe_int) (pa_cons pe_str (pa_cons pe_str (pa_cons pe_str (pa_cons pe_str (pa_cons pe_str (pa_cons pe_str (pa_cons pe_str (pa_cons (pe_tup pa_nil) (pa_cons (pe_lst pa_nil) (pa_cons pe_dnewK pa_nil))))))))))))))))))))
    (C8.pss_cut (ps_set (i := 3) nd rfl (Or.inl rfl) (pe_op op_cat (pv 3) (pe_lst (pa_cons (pe_tup (pa_cons pe_str (pa_cons pe_str (pa_cons pe_bl pa_nil)))) (pa_cons (pe_tup (pa_cons pe_str (pa_cons pe_str (pa_cons pe_bl pa_nil)))) (pa_cons (pe_tup (pa_cons pe_str (pa_cons pe_str (pa_cons pe_int pa_nil)))) (pa_cons (pe_tup (pa_cons pe_str (pa_cons pe_str (pa_cons pe_bl pa_nil)))) (pa_cons (pe_tup (pa_cons (pe_tup (pa_cons pe_str (pa_cons pe_str (pa_cons pe_bl pa_nil)))) (pa_cons pe_bl pa_nil))) pa_nil))))))))
    (C8.pss_cut (ps_set (i := 3) nd rfl (Or.inl rfl) (pe_op op_cat (pv 3) (pe_lst (pa_cons (pe_tup (pa_cons (pe_tup (pa_cons pe_str (pa_cons pe_str (pa_cons pe_bl pa_nil)))) (pa_cons pe_bl pa_nil))) (pa_cons (pe_tup (pa_cons (pe_tup (pa_cons pe_str (pa_cons pe_str (pa_cons pe_bl pa_nil)))) (pa_cons pe_bl pa_nil))) (pa_cons (pe_lst (pa_cons pe_str (pa_cons pe_str (pa_cons pe_bl pa_nil)))) (pa_cons (pe_op op_rep (pe_lst (pa_cons pe_non pa_nil)) pe_int) (pa_cons (pv 1) pa_nil))))))))
    (pss_one (ps_ret (pe_call GO hr rfl gO FO.kp bO .nil pass0 (pa_cons (pv 0) (pa_cons (pv 3) pa_nil)))))))))), ?_⟩
    refine ⟨by show 0 ≤ sizeLine; decide, fun p0 n0 => ?_⟩
    have s0 := Same.new (o := HO.lst []) n0
    have t : ∀ q, Told H q → H q ≠ none := fun q h => h
    refine ⟨fun σ H1 => Bag b H1 ∧ Keep b H H1 ∧ ∃ v vk, DA (Told H) H1 v (deepD 9) ∧ σ = [some (.ref b), some v, vk, none], ?_, ?_⟩
    · refine ⟨9, rfl, by decide, by decide, for_range (n := 9) (fun i σ H1 => Bag b H1 ∧ Keep b H H1 ∧ ∃ v vk, DA (Told H) H1 v (deepD i) ∧ σ = [some (.ref b), some v, vk, none])
        ⟨g.same s0, Keep.of s0, _, _, DA.newL t n0 (fun q _ => .nil), rfl⟩ ?_ (fun σ H1 z => z)⟩
      rintro i σ H1 hi ⟨g1, k1, v, vk, dv, rfl⟩
      refine ⟨_, rfl, by show 1 ≤ sizeLine; decide, fun p n => ?_⟩
      have s1 := Same.new (o := HO.lst [v]) n
      exact ⟨g1.same s1, k1.trans (Keep.of s1), _, _, DA.newL k1.on n (DAs.one dv), rfl⟩
    rintro σ H1 ⟨g1, k1, v, vk, dv, rfl⟩
    refine ⟨fun σ H2 => Bag b H2 ∧ Keep b H H2 ∧ DA (Told H) H2 v (deepD 9) ∧ ∃ p xs, p ≠ b ∧ H2 p = some (.lst xs) ∧ DAs (Told H) H2 xs dsA ∧ σ = [some (.ref b), some v, vk, some (.ref p)], ?_, ?_⟩
    · refine ⟨_, rfl, _, _, rfl, rfl, ⟨by decide, by decide, by decide⟩, by show 0 ≤ sizeLine; decide, fun c1 n1 => ⟨by show 0 ≤ sizeLine; decide, fun c2 n2 => fun c3 n3 => ⟨by show 18 ≤ sizeLine; decide, fun p np => ?_⟩⟩⟩
      have t1 := k1.on
      have s1 := Same.new (o := HO.tup []) n1
      have g2 := g1.same s1
      have t2 := told_same t1 s1
      have s2 := Same.new (o := HO.lst []) n2
      have g3 := g2.same s2
      have t3 := told_same t2 s2
      have s3 := Same.new (o := HO.dK []) n3
      have g4 := g3.same s3
      refine ⟨g4.same (Same.new np), k1.trans (Keep.of (s1.trans (s2.trans (s3.trans (Same.new np))))), dv.same (s1.trans (s2.trans (s3.trans (Same.new np)))), p, _, g4.ne np, upd_same, ?_, rfl⟩
      intro q hq
      refine .cons .non (.cons (.bl _) (.cons (.bl _) (.cons (.int _) (.cons (.int _) (.cons (.int _) (.cons (.int _) (.cons (.int _) (.cons (.str _) (.cons (.str _) (.cons (.str _) (.cons (.str _) (.cons (.str _) (.cons (.str _) (.cons (.str _) (.cons ?_ (.cons ?_ (.cons ?_ .nil)))))))))))))))))
      · exact ((DA.newT (S := Told H) (ds := []) t1 n1 (fun q _ => .nil)).same (s2.trans (s3.trans (Same.new np)))) q hq
      · exact ((DA.newL (S := Told H) (ds := []) t2 n2 (fun q _ => .nil)).same (s3.trans (Same.new np))) q hq
      · exact ((DA.newD (S := Told H) t3 n3).same (Same.new np)) q hq
    rintro σ H2 ⟨g2, k2, dv2, p, xs, npb, hp, hxs, rfl⟩
    have l3 : (3 : Nat) ≤ sizeLine := by decide
    have l2 : (2 : Nat) ≤ sizeLine := by decide
    have l5 : (5 : Nat) ≤ sizeLine := by decide
    have l28 : (28 : Nat) ≤ sizeLine := by decide
    refine ⟨fun σ H3 => Bag b H3 ∧ Keep b H H3 ∧ DA (Told H) H3 v (deepD 9) ∧ ∃ p xs, p ≠ b ∧ H3 p = some (.lst xs) ∧ DAs (Told H) H3 xs (dsA ++ dsB) ∧ σ = [some (.ref b), some v, vk, some (.ref p)], ?_, ?_⟩
    · refine ⟨_, rfl, l3, fun c1 n1 => ⟨l3, fun c2 n2 => ⟨l3, fun c3 n3 => ⟨l3, fun c4 n4 => ⟨l3, fun c5 n5 => ⟨l2, fun c6 n6 => ⟨l5, fun q nq => ?_⟩⟩⟩⟩⟩⟩⟩
      have t2 := k2.on
      have s1 := Same.new (o := HO.tup [.str "a", .str "b", .bl true]) n1
      have t3 := told_same t2 s1
      have s2 := Same.new (o := HO.tup [.str "b", .str "a", .bl true]) n2
      have t4 := told_same t3 s2
      have s3 := Same.new (o := HO.tup [.str "a", .str "b", .int 1]) n3
      have t5 := told_same t4 s3
      have s4 := Same.new (o := HO.tup [.str "a", .str "a", .bl true]) n4
      have t6 := told_same t5 s4
      have s5 := Same.new (o := HO.tup [.str "a", .str "b", .bl true]) n5
      have t7 := told_same t6 s5
      have s6 := Same.new (o := HO.tup [.ref c5, .bl true]) n6
      have s7 := Same.new (o := HO.lst [.ref c1, .ref c2, .ref c3, .ref c4, .ref c6]) nq
      have h1 := DAs.one (DA.newT (S := Told H) (ds := [.str "a", .str "b", .bool true]) t2 n1 (fun _ _ => .cons (.str _) (.cons (.str _) (.cons (.bl _) .nil))))
      have h2 := h1.snoc s2 (DA.newT (ds := [.str "b", .str "a", .bool true]) t3 n2 (fun _ _ => .cons (.str _) (.cons (.str _) (.cons (.bl _) .nil))))
      have h3 := h2.snoc s3 (DA.newT (ds := [.str "a", .str "b", .int 1]) t4 n3 (fun _ _ => .cons (.str _) (.cons (.str _) (.cons (.int _) .nil))))
      have h4 := h3.snoc s4 (DA.newT (ds := [.str "a", .str "a", .bool true]) t5 n4 (fun _ _ => .cons (.str _) (.cons (.str _) (.cons (.bl _) .nil))))
      have i5 := DA.newT (S := Told H) (ds := [.str "a", .str "b", .bool true]) t6 n5 (fun _ _ => .cons (.str _) (.cons (.str _) (.cons (.bl _) .nil)))
      have h5 := h4.snoc (s5.trans s6) (DA.newT (ds := [.tuple [.str "a", .str "b", .bool true], .bool true]) t7 n6 (fun q hq => .cons (i5 q hq) (.cons (.bl true) .nil)))
      have sA := s1.trans (s2.trans (s3.trans (s4.trans (s5.trans (s6.trans s7)))))
      refine ⟨p, q, xs, _, rfl, rfl, sA _ _ hp, upd_same, ?_, fun r nr => ?_⟩
      · have := (hxs b (fun z => (g.ne z) rfl)).len
        have e : dsA.length = 18 := rfl
        show xs.length + 5 ≤ _
        omega
      · have s8 := Same.new (o := HO.lst (xs ++ [.ref c1, .ref c2, .ref c3, .ref c4, .ref c6])) nr
        have sB := sA.trans s8
        exact ⟨g2.same sB, k2.trans (Keep.of sB), dv2.same sB, r, _, (g2.same sA).ne nr, upd_same, (hxs.same sB).append (h5.same (s7.trans s8)), rfl⟩
    rintro σ H3 ⟨g3, k3, dv3, p3, xs3, npb3, hp3, hxs3, rfl⟩
    refine ⟨fun σ H4 => Bag b H4 ∧ Keep b H H4 ∧ ∃ p xs, p ≠ b ∧ H4 p = some (.lst xs) ∧ DAs (Told H) H4 xs ((dsA ++ dsB) ++ dsC) ∧ σ = [some (.ref b), some v, vk, some (.ref p)], ?_, ?_⟩
    · refine ⟨_, rfl, l3, fun c1 n1 => ⟨l2, fun c2 n2 => ⟨l3, fun c3 n3 => ⟨l2, fun c4 n4 => ⟨l3, fun c5 n5 => ⟨by show 1 ≤ sizeLine; decide, fun c6 n6 => ?_⟩⟩⟩⟩⟩⟩
      have t3 := k3.on
      have s1 := Same.new (o := HO.tup [.str "a", .str "b", .bl false]) n1
      have t4 := told_same t3 s1
      have s2 := Same.new (o := HO.tup [.ref c1, .bl true]) n2
      have t5 := told_same t4 s2
      have s3 := Same.new (o := HO.tup [.str "a", .str "a", .bl true]) n3
      have t6 := told_same t5 s3
      have s4 := Same.new (o := HO.tup [.ref c3, .bl true]) n4
      have t7 := told_same t6 s4
      have s5 := Same.new (o := HO.lst [.str "a", .str "b", .bl false]) n5
      have t8 := told_same t7 s5
      have s6 := Same.new (o := HO.lst [.non]) n6
      have t9 := told_same t8 s6
      refine ⟨c6, 900, [.non], rfl, rfl, upd_same, by decide, by decide, by show 1 * 900 ≤ sizeLine; decide, fun c7 n7 => ⟨_, rfl, l5, fun q nq => ?_⟩⟩
      have s7 := Same.new (o := HO.lst (List.replicate (900 : Int).toNat [V.non]).flatten) n7
      have s8 := Same.new (o := HO.lst [.ref c2, .ref c4, .ref c5, .ref c7, v]) nq
      have i1 := DA.newT (S := Told H) (ds := [.str "a", .str "b", .bool false]) t3 n1 (fun _ _ => .cons (.str _) (.cons (.str _) (.cons (.bl _) .nil)))
      have h1 := DAs.one (DA.newT (S := Told H) (ds := [.tuple [.str "a", .str "b", .bool false], .bool true]) t4 n2 (fun q hq => .cons (i1 q hq) (.cons (.bl true) .nil)))
      have i3 := DA.newT (S := Told H) (ds := [.str "a", .str "a", .bool true]) t5 n3 (fun _ _ => .cons (.str _) (.cons (.str _) (.cons (.bl _) .nil)))
      have h2 := h1.snoc (s3.trans s4) (DA.newT (ds := [.tuple [.str "a", .str "a", .bool true], .bool true]) t6 n4 (fun q hq => .cons (i3 q hq) (.cons (.bl true) .nil)))
      have h3 := h2.snoc s5 (DA.newL (ds := [.str "a", .str "b", .bool false]) t7 n5 (fun _ _ => .cons (.str _) (.cons (.str _) (.cons (.bl _) .nil))))
      have r9 : ∀ H9 : Hp, DAs (Told H) H9 (List.replicate (900 : Int).toNat [V.non]).flatten (List.replicate 900 .none) := fun H9 q _ => by
        rw [flat1]
        exact DXs.rep 900
      have h4 := h3.snoc (s6.trans s7) (DA.newL (ds := List.replicate 900 .none) t9 n7 (r9 _))
      have sA := s1.trans (s2.trans (s3.trans (s4.trans (s5.trans (s6.trans s7)))))
      have h5 := h4.append (DAs.one (dv3.same sA))
      have sB := sA.trans s8
      refine ⟨p3, q, xs3, _, rfl, rfl, sB _ _ hp3, upd_same, ?_, fun r nr => ?_⟩
      · have := (hxs3 b (fun z => (g.ne z) rfl)).len
        have e : (dsA ++ dsB).length = 23 := rfl
        show xs3.length + 5 ≤ _
        omega
      · have s9 := Same.new (o := HO.lst (xs3 ++ [.ref c2, .ref c4, .ref c5, .ref c7, v])) nr
        have sC := sB.trans s9
        exact ⟨g3.same sC, k3.trans (Keep.of sC), r, _, (g3.same sB).ne nr, upd_same, (hxs3.same sC).append (h5.same (s8.trans s9)), rfl⟩
    rintro σ H4 ⟨g4, k4, p4, xs4, npb4, hp4, hxs4, rfl⟩
    have hb : Told H b := fun z => (g.ne z) rfl
    have len : xs4.length = 28 := (hxs4 b hb).len
    refine ⟨_, rfl, _, rfl, b, p4, xs4, rfl, g4, npb4, hp4, by omega, by omega, fun i x H5 hi g5 k5 => ?_⟩
    obtain ⟨d, hd, _⟩ := (hxs4 b hb).get hi
    refine k x d H5 (fun q hq => ?_) ?_ g5 (k4.trans k5)
    · obtain ⟨d', hd', dx⟩ := (hxs4 q hq).get hi
      rw [hd] at hd'
      cases hd'
      obtain ⟨db, hdb, dxb⟩ := (hxs4 b hb).get hi
      rw [hd] at hdb
      cases hdb
      exact DX.both k5.k d dx dxb
    rcases List.mem_append.mp (List.mem_of_getElem? hd) with z | z
    · rcases List.mem_append.mp z with z | z
      · exact okA d z
      · exact okB d z
    · exact okC d z
end
end K11

namespace K11
open PySem PySem.Spec PyProof.Rows L2 HK
theorem size_app (x y : Str) : (x ++ y).cps.size = x.cps.size + y.cps.size := by
  have e : (x ++ y).cps = x.cps ++ y.cps := rfl
  rw [e, Array.size_append]
theorem join_len {sep : Str} (hs : sep.cps.size = 0) : ∀ l : List Str, (∀ a ∈ l, a.cps.size ≤ 1) → (Str.join sep l).cps.size ≤ l.length
  | [], _ => by simp [Str.join, Str.empty]
  | [x], h => h x List.mem_cons_self
  | x :: y :: r, h => by
    show (x ++ sep ++ Str.join sep (y :: r)).cps.size ≤ _
    have h1 := h x List.mem_cons_self
    have h2 := join_len hs (y :: r) fun a ha => h a (List.mem_cons_of_mem _ ha)
    rw [size_app, size_app]
    simp only [List.length_cons] at *
    omega
theorem txt_join {sep : Str} (hs : Asc sep) (h0 : sep.cps.size = 0) {l : List Str} (h : ∀ a ∈ l, Asc a ∧ a.cps.size ≤ 1) : Asc (Txt.join sep l) ∧ (Txt.join sep l).cps.size ≤ l.length := by
  have e : Txt.join sep l = Str.join sep l := by
    show Builtin.Str.glued sep l = _
    rw [StrLaws.glued_eq_join]
  rw [e]
  exact ⟨join_asc hs l fun a ha => (h a ha).1, join_len h0 l fun a ha => (h a ha).2⟩
theorem sum_ones : ∀ l : List Str, (∀ a ∈ l, a.length ≤ 1) → (l.map (·.length)).sum ≤ l.length
  | [], _ => Nat.le_refl _
  | x :: r, h => by
    have h1 := h x List.mem_cons_self
    have h2 := sum_ones r fun a ha => h a (List.mem_cons_of_mem _ ha)
    simp only [List.map_cons, List.sum_cons, List.length_cons]
    omega
theorem cutS_in {z : Str} {lo hi : Option Int} : (cutS z lo hi).cps.size ≤ z.cps.size ∧ (Asc z → Asc (cutS z lo hi)) := by
  unfold cutS
  refine ⟨?_, fun h c hc => h c ?_⟩
  · simp only [List.size_toArray, List.length_take, List.length_drop, Array.length_toList]
    omega
  · have hc' : c ∈ (List.drop (HT.sIx z.length 0 lo) z.cps.toList).take (HT.sIx z.length z.length hi - HT.sIx z.length 0 lo) := by simpa using hc
    exact List.mem_of_mem_drop (List.mem_of_mem_take hc')
def signs10 : List Str := ["", "", "A", "z", "_", "0", " ", "\n", "{", "-"]
theorem signs_ok : ∀ y ∈ signs10, Asc y ∧ y.cps.size ≤ 1 := by
  intro y hy
  simp only [signs10, List.mem_cons, List.not_mem_nil, or_false] at hy
  rcases hy with rfl | rfl | rfl | rfl | rfl | rfl | rfl | rfl | rfl | rfl
  all_goals exact ⟨Asc.by (by decide +kernel), by decide +kernel⟩
section
variable {P : Program} {w : World} {K : PySem.W.Frag} {mg : Str → Option Value} {base : Heap}
def spText : Sp := fun vs H Q _ => ∃ (b : Addr), vs = [.ref b] ∧ Bag b H ∧ ∀ (y : Str) H', Asc y → y.cps.size ≤ 100 → Bag b H' → Keep b H H' → Q (.str y) H'
theorem scText : FnScope ["_law_bag_here", "_law_word", "_law_k", "_law_at", "_law_sign"] ["_law_bag_here"] (defScope sText) := ⟨rfl, rfl, rfl, by decide +kernel, rfl, by decide +kernel, by decide +kernel⟩
theorem ok_text {f fT fO : Addr} {fd fdT fdO : FuncData} (F : Fun K "_law_text" "_law_text" sText f fd) (T : TxB mg) (R : TxR mg) (gT : mg "_law_take" = some (.ref fT)) (FT : Fun K "_law_take" "_law_take" sTake fT fdT) (bT : Binds K fdT ["_law_bag_here", "_law_many"] [])
    (gO : mg "_law_one" = some (.ref fO)) (FO : Fun K "_law_one" "_law_one" sOne fO fdO) (bO : Binds K fdO ["_law_bag_here", "_law_things"] []) :
    FnOk P w K mg base CX0 3 f fd ["_law_bag_here"] spText := by
  have GT : FnOk P w K mg base CX0 1 fT fdT _ spTake := ok_take FT T
  have GO : FnOk P w K mg base CX0 2 fO fdO _ spOne := ok_one FO T gT FT bT
  refine F.ok scText (fun vs H Q E h => ?_) (fun cdv A outer s H vs Q E hr h => ?_)
  · obtain ⟨b, rfl, _⟩ := h
    rfl
  · obtain ⟨b, rfl, g, k⟩ := h
    have nd := scText.nd
    have hr1 : Room 1 _ := hr.mono (by decide)
    refine ⟨_, (C8.pss_cut (ps_set (i := 1) nd rfl (Or.inl rfl) (pe_join pe_str (pe_lc (own := [("_law_k", 2)]) (g := (gName 2)) (tt := tYes) rfl nd (pi_range1 (by rfl) R.n_range (pa_cons (pe_call GT hr1 rfl gT FT.kp bT .nil pass0 (pa_cons (pv 0) (pa_cons pe_int pa_nil))) pa_nil)) (blkOk_by (N := ["_law_bag_here", "_law_word", "_law_k", "_law_at", "_law_sign"]) (sc := defScope sText) (by decide +kernel)) (fun _ _ _ _ _ => (pg_name (i := 2) nd rfl (Or.inl rfl))) (fun _ _ _ _ _ => pts_nil)
        (fun _ _ _ _ _ => (pe_ix ix_str pe_str (pe_call GT hr1 rfl gT FT.kp bT .nil pass0 (pa_cons (pv 0) (pa_cons pe_int pa_nil))) (fun _ _ => rfl))))))
    (pss_cons (ps_set (i := 3) nd rfl (Or.inl rfl) (pe_call GT hr1 rfl gT FT.kp bT .nil pass0 (pa_cons (pv 0) (pa_cons (pe_op op_add (pe_callB call_len_str (by rfl) T.n_len (by decide +kernel) (pa_cons (pv 1) pa_nil)) pe_int) pa_nil))))
    (pss_cons (ps_set (i := 4) nd rfl (Or.inl rfl) (pe_call GO hr rfl gO FO.kp bO .nil pass0 (pa_cons (pv 0) (pa_cons (pe_lst (pa_cons pe_str (pa_cons pe_str (pa_cons pe_str (pa_cons pe_str (pa_cons pe_str (pa_cons pe_str (pa_cons pe_str (pa_cons pe_str (pa_cons pe_str (pa_cons pe_str pa_nil))))))))))) pa_nil))))
    (pss_one (ps_ret (pe_op op_add_str (pe_op op_add_str (pe_slice sl_str (pv 1) po_none (po_some (pv 3))) (pv 4)) (pe_slice sl_str (pv 1) (po_some (pv 3)) po_none))))))), ?_⟩
    have line : (1000 : Nat) ≤ sizeLine := by decide
    refine ⟨fun σ H1 => Bag b H1 ∧ Keep b H H1 ∧ ∃ (y : Str) (u : Option V), Asc y ∧ y.cps.size ≤ 11 ∧ σ = [some (.ref b), some (.str y), u, none, none], ?_, ?_⟩
    · refine ⟨⟨_, rfl⟩, _, rfl, b, 11, rfl, g, by decide, by decide, fun r H1 r0 r1 g1 k1 => ⟨r, rfl, by omega, by omega, fun D nD => ?_⟩⟩
      have nDb : D ≠ b := g1.ne nD
      refine lc_range (lo := 0) (n := r.toNat) (fun i H' => Bag b H' ∧ Keep b H1 H' ∧ ∃ acc : List Str, acc.length = i ∧ (∀ y ∈ acc, Asc y ∧ y.cps.size ≤ 1) ∧ H' D = some (.lst (acc.map V.str)))
        ⟨g1.same (Same.new nD), Keep.of (Same.new nD), [], rfl, fun _ h => (List.not_mem_nil h).elim, upd_same⟩ ?_ ?_
      · rintro i H' hi ⟨g', k', acc, la, ka, hD⟩
        refine ⟨rfl, yes_ok ?_⟩
        refine ⟨_, rfl, b, 26, rfl, g', by decide, by decide, fun q H2 q0 q1 g2 k2 => ?_⟩
        obtain ⟨c, hc, c1, c2⟩ := letter_at q0 q1
        have hD2 := k2 _ _ nDb hD
        refine ⟨_, _, c, rfl, rfl, (by show 26 ≤ sizeLine; decide), hc, acc.map V.str, hD2, small1000 (by rw [List.length_map]; omega), (k'.trans k2).bag g1 nD, (k'.trans k2).newer nD, acc ++ [⟨#[c]⟩], by rw [List.length_append, la]; rfl, fun y hy => ?_, by rw [upd_same, List.map_append]; rfl⟩
        rcases List.mem_append.mp hy with hy | hy
        · exact ka y hy
        · rw [List.mem_singleton.mp hy]
          refine ⟨fun c' hc' => ?_, Nat.le_refl _⟩
          have e : c' = c := by simpa using hc'
          omega
      · rintro H' ⟨g', k', acc, la, ka, hD⟩
        have z0 : (Str.ofString "").cps.size = 0 := by decide +kernel
        obtain ⟨j1, j2⟩ := txt_join (sep := Str.ofString "") (Asc.by (by decide +kernel)) z0 ka
        refine ⟨_, D, acc, rfl, rfl, .inl (SqL.of hD), ?_, g', k1.trans k', _, _, j1, by omega, rfl⟩
        have s1 := sum_ones acc fun a ha => (ka a ha).2
        have z1 : (Str.ofString "").length = 0 := z0
        rw [z1]
        omega
    rintro σ H1 ⟨g1, k1, y, u, ya, ys, rfl⟩
    have yl : (y.length : Int) = (y.cps.size : Int) := rfl
    have ylN : y.length = y.cps.size := rfl
    refine ⟨_, rfl, _, rfl, _, rfl, by show y.cps.size ≤ _; omega, _, _, rfl, rfl, b, _, rfl, g1, by omega, by omega, fun a H2 a0 a1 g2 k2 => ?_⟩
    refine ⟨_, rfl, by show 10 ≤ sizeLine; decide, fun p np => ?_⟩
    have s1 := Same.new (o := HO.lst (signs10.map V.str)) np
    refine ⟨b, p, signs10.map V.str, rfl, g2.same s1, g2.ne np, upd_same, by decide, by decide, fun i x H3 hi g3 k3 => ?_⟩
    obtain ⟨z, hz, rfl⟩ : ∃ z, signs10[i]? = some z ∧ V.str z = x := by simpa [List.getElem?_map] using hi
    obtain ⟨za, zs⟩ := signs_ok z (List.mem_of_getElem? hz)
    obtain ⟨c1, c2⟩ := cutS_in (z := y) (lo := none) (hi := some a)
    obtain ⟨d1, d2⟩ := cutS_in (z := y) (lo := some a) (hi := none)
    have e1 : ∀ x : Str, x.length = x.cps.size := fun _ => rfl
    refine ⟨_, rfl, _, rfl, a, rfl, y, rfl, by show y.cps.size ≤ _; omega, ?_⟩
    refine ⟨_, rfl, _, _, rfl, rfl, by rw [e1, e1]; omega, _, rfl, _, rfl, a, rfl, y, rfl, by show y.cps.size ≤ _; omega, ?_⟩
    refine ⟨_, _, rfl, rfl, by rw [e1, e1, size_app]; omega, k _ _ (((c2 ya).app za).app (d2 ya)) (by rw [size_app, size_app]; omega) g3 ((k1.trans k2).trans ((Keep.of s1).trans k3))⟩
end
end K11

namespace HK
open PySem PySem.Spec PyProof.Rows L2
def isSeq : PyData → Bool | .list _ => true | .tuple _ => true | _ => false
theorem kit_seq {K : PySem.W.Frag} (d : PyData) : PySem.W.kitAny K (.type (tyN d)) [.type "list", .type "tuple"] = some (isSeq d) := by
  refine kitAny_cons (kit_ty (kit_lst d)) (fun h => kitAny_cons (kit_ty (kit_tup d)) (fun h2 => ?_) (fun h2 => ?_)) (fun h => ?_)
  · cases d <;> first | rfl | (cases h; done) | (cases h2; done)
  · cases d <;> first | rfl | (cases h2; done)
  · cases d <;> first | rfl | (cases h; done)
theorem DX.seqI {b : Addr} {H : Hp} {v : V} {d : PyData} (h : DX b H v d) (e : isSeq d = true) : ∃ a xs ds, v = .ref a ∧ a ≠ b ∧ (H a = some (.lst xs) ∧ d = .list ds ∨ H a = some (.tup xs) ∧ d = .tuple ds) ∧ DXs b H xs ds := by
  cases d with
  | list ds =>
    obtain ⟨a, xs, rfl, n, e, r⟩ := h.lstI
    exact ⟨a, xs, ds, rfl, n, .inl ⟨e, rfl⟩, r⟩
  | tuple ds =>
    obtain ⟨a, xs, rfl, n, e, r⟩ := h.tupI
    exact ⟨a, xs, ds, rfl, n, .inr ⟨e, rfl⟩, r⟩
  | _ => cases e
section
variable {S : Addr → Prop} {b : Addr} {H H' : Hp} {v : V} {vs : List V} {d : PyData} {ds : List PyData}
theorem DXs.erase : ∀ {vs : List V} {ds : List PyData} (n : Nat), DXs b H vs ds → DXs b H (vs.eraseIdx n) (ds.eraseIdx n)
  | _, _, _, .nil => .nil
  | _, _, 0, .cons _ t => t
  | _, _, n + 1, .cons r t => .cons r (DXs.erase n t)
theorem DA.kept (h : DA S H v d) (hb : S b) (k : HK.Keep b H H') : DA S H' v d := fun q hq => DX.both k d (h q hq) (h b hb)
theorem DAs.kept (h : DAs S H vs ds) (hb : S b) (k : HK.Keep b H H') : DAs S H' vs ds := fun q hq => DXs.both k ds (h q hq) (h b hb)
theorem keep_at {o : HO} : HK.Keep b H (upd H b o) := fun c u n e => by rw [upd_ne n]; exact e
end
theorem ixN_at {n i : Nat} (h : i < n) : ixN n (i : Int) = some i := by
  unfold ixN
  rw [if_pos (by omega), if_pos (by omega)]
  simp
theorem SXs.len {ds : List PyData} {n m : Nat} (h : SXs ds n m) : ds.length ≤ n := by
  have : ∀ l : List PyData, l.length ≤ (l.map fun d => d.weight + 1).sum := fun l => by
    induction l with
    | nil => exact Nat.le_refl _
    | cons d l ih =>
      simp only [List.length_cons, List.map_cons, List.sum_cons]
      omega
  exact Nat.le_trans (this ds) h.w
theorem SXs.setOf {ds : List PyData} {W j M i : Nat} {e d' : PyData} (h : SXs ds W j) (hi : ds[i]? = some e) (h' : SX d' (2 * e.weight + 1100) M) (jm : j ≤ M) : SXs (ds.set i d') (2 * W + 1100) M := by
  refine ⟨fun d hd => ?_, ?_⟩
  · rcases List.mem_or_eq_of_mem_set hd with z | rfl
    · obtain ⟨a, b, c, q⟩ := h.each d z
      exact ⟨a, b, c, Nat.le_trans q jm⟩
    · exact ⟨h'.asc, h'.sh, h'.ok, h'.dp⟩
  · have a := sum_set_of (d := d') hi
    have b := sum_le_mem (List.mem_of_getElem? hi)
    have c := h.w
    have e := h'.w
    omega
theorem DX.elems {q a : Addr} {H : Hp} {d : PyData} {xs : List V} {ds : List PyData} (h : DX q H (.ref a) d) (z : H a = some (.lst xs) ∧ d = .list ds ∨ H a = some (.tup xs) ∧ d = .tuple ds) : DXs q H xs ds := by
  rcases z with ⟨e, rfl⟩ | ⟨e, rfl⟩
  · obtain ⟨a', xs', ea, n, e', r⟩ := h.lstI
    cases ea
    rw [e] at e'
    cases e'
    exact r
  · obtain ⟨a', xs', ea, n, e', r⟩ := h.tupI
    cases ea
    rw [e] at e'
    cases e'
    exact r
end HK
namespace K11
open PySem PySem.Spec PyProof.Rows L2 HK
theorem DXs.cut {b : Addr} {H : Hp} {xs : List V} {ds : List PyData} {lo hi : Option Int} (h : DXs b H xs ds) : DXs b H (cutV xs lo hi) (cutG ds lo hi) := by
  unfold cutV cutG
  rw [h.len]
  exact (h.drop _).take _
theorem cutG_sub {ds : List PyData} {lo hi : Option Int} : (cutG ds lo hi).Sublist ds := (List.take_sublist _ _).trans (List.drop_sublist _ _)
section
variable {P : Program} {w : World} {K : PySem.W.Frag} {mg : Str → Option Value} {base : Heap}
theorem cut_le {α : Type} {xs : List α} {lo hi : Option Int} : (cutG xs lo hi).length ≤ xs.length := by
  unfold cutG
  rw [List.length_take, List.length_drop]
  omega
def spB : Nat → Sp
  | 0 => fun _ _ _ _ => False
  | n + 1 => fun vs H Q _ => ∃ (b : Addr) (x : V) (d : PyData) (W : Nat), vs = [.ref b, x] ∧ Bag b H ∧ DX b H x d ∧ SX d W n ∧ W ≤ 100000 ∧
    ∀ v d' H', SX d' (2 * W + 1100) (n + 13) → Bag b H' → Keep b H H' → (∀ q, Told H q → DX q H x d → DX q H' v d') → Q v H'
theorem scBent : FnScope ["_law_bag_here", "_law_thing", "_law_way", "_law_found", "_law_at"] ["_law_bag_here", "_law_thing"] (defScope sBent) := ⟨rfl, rfl, rfl, by decide +kernel, rfl, by decide +kernel, by decide +kernel⟩
structure TxN (K : PySem.W.Frag) (mg : Str → Option Value) : Prop where
  b : TxB mg
  j : TxJ mg
  r : TxR mg
theorem bent_step {n : Nat} {f fT fO : Addr} {fd fdT fdO : FuncData} (F : Fun K "_law_bent" "_law_bent" sBent f fd) (T : TxN K mg) (gT : mg "_law_take" = some (.ref fT)) (FT : Fun K "_law_take" "_law_take" sTake fT fdT) (bT : Binds K fdT ["_law_bag_here", "_law_many"] [])
    (gO : mg "_law_odd_value" = some (.ref fO)) (FO : Fun K "_law_odd_value" "_law_odd_value" sOdd fO fdO) (bO : Binds K fdO ["_law_bag_here"] []) (GO : FnOk P w K mg base CX0 3 fO fdO ["_law_bag_here"] spOdd)
    (gB : mg "_law_bent" = some (.ref f)) (bB : Binds K fd ["_law_bag_here", "_law_thing"] []) (GB : FnOk P w K mg base CX0 (3 + n) f fd ["_law_bag_here", "_law_thing"] (spB n)) :
    FnOk P w K mg base CX0 (3 + n + 1) f fd ["_law_bag_here", "_law_thing"] (spB (n + 1)) := by
  have GT : FnOk P w K mg base CX0 1 fT fdT _ spTake := ok_take FT T.b
  refine F.ok scBent (fun vs H Q E h => ?_) (fun cdv A outer s H vs Q E hr h => ?_)
  · obtain ⟨b, x, d, W, rfl, _⟩ := h
    rfl
  · obtain ⟨b, x, d, W, rfl, g, hx, hs, hW, k⟩ := h
    have nd := scBent.nd
    have hr1 : Room 1 _ := hr.mono (by omega)
    have hr3 : Room 3 _ := hr.mono (by omega)
    refine ⟨_, (pss_cons (ps_set (i := 2) nd rfl (Or.inl rfl) (pe_call GT hr1 rfl gT FT.kp bT .nil pass0 (pa_cons (pv 0) (pa_cons pe_int pa_nil))))
    (pss_cons (ps_if (PW.pt (pw_or (pt_cmpR op_eq (pv 2) pe_int (nomark _)) (pw_or (pt_not (pt_val (pe_callB call_isiT (by rfl) T.j.n_isi (by decide +kernel) (pa_cons (pv 1) (pa_cons (pe_tup (pa_cons (pe_bltn (v := .ty "list") (by rfl) (T.j.n_ty "list" (by simp)) (by decide +kernel) rfl) (pa_cons (pe_bltn (v := .ty "tuple") (by rfl) (T.j.n_ty "tuple" (by simp)) (by decide +kernel) rfl) pa_nil))) pa_nil)))))
        (pw_or1 (pt_cmpR op_eq (pe_callB call_len_seq (by rfl) T.b.n_len (by decide +kernel) (pa_cons (pv 1) pa_nil)) pe_int (nomark _))))))
      (pss_one (ps_ret (pe_call GO hr3 rfl gO FO.kp bO .nil pass0 (pa_cons (pv 0) pa_nil))))
       pss_nil)
    (pss_cons (ps_par (i := 3) (j := 4) (by rfl) nd rfl rfl (by decide) rfl rfl (pa_cons (pe_callTy call_list_of (by rfl) (T.j.n_ty "list" (by simp)) (by decide +kernel) (pa_cons (pv 1) pa_nil)) (pa_cons (pe_call GT hr1 rfl gT FT.kp bT .nil pass0 (pa_cons (pv 0) (pa_cons (pe_callB call_len_seq (by rfl) T.b.n_len (by decide +kernel) (pa_cons (pv 1) pa_nil)) pa_nil))) pa_nil)) (by rfl))
    (C8.pss_cut (ps_if (pt_cmpR op_lt (pv 2) pe_int (nomark _))
      (pss_one (ps_asg (pe_call GB hr rfl gB F.kp bB .nil pass0 (pa_cons (pv 0) (pa_cons (pe_ix ix_list (pv 3) (pv 4) (fun _ _ => rfl)) pa_nil))) (pg_sub (pv 3) (pv 4) set_list)))
       pss_nil)
    (C8.pss_cut (ps_if (pt_cmpR op_eq (pv 2) pe_int (nomark _))
      (pss_one (ps_expr (pe_bm PySem.F.plainAttrs_list PySem.F.slot_list_insert PySem.F.type_list_insert mt_insert (pv 3) (pa_cons (pe_op op_add (pv 4) (pe_call GT hr1 rfl gT FT.kp bT .nil pass0 (pa_cons (pv 0) (pa_cons pe_int pa_nil)))) (pa_cons (pe_call GO hr3 rfl gO FO.kp bO .nil pass0 (pa_cons (pv 0) pa_nil)) pa_nil)))))
       pss_nil)
    (C8.pss_cut (ps_if (pt_cmpR op_eq (pv 2) pe_int (nomark _))
      (pss_one (ps_expr (pe_bm PySem.F.plainAttrs_list PySem.F.slot_list_pop PySem.F.type_list_pop mt_popAt (pv 3) (pa_cons (pv 4) pa_nil))))
       pss_nil)
    (C8.pss_cut (ps_if (pt_cmpR op_eq (pv 2) pe_int (nomark _))
      (pss_one (ps_set (i := 3) nd rfl (Or.inl rfl) (pe_op op_cat (pv 3) (pe_slice sl_list (pv 3) (po_some (pv 4)) (po_some (pe_op op_add (pv 4) pe_int))))))
       pss_nil)
    (pss_cons (ps_if (pt_cmpR op_eq (pe_call GT hr1 rfl gT FT.kp bT .nil pass0 (pa_cons (pv 0) (pa_cons pe_int pa_nil))) pe_int (nomark _))
      (pss_one (ps_ret (pe_ifExp (pt_val (pe_callB call_isi (by rfl) T.j.n_isi (by decide +kernel) (pa_cons (pv 1) (pa_cons (pe_bltn (v := .ty "list") (by rfl) (T.j.n_ty "list" (by simp)) (by decide +kernel) rfl) pa_nil)))) (pe_callTy call_tuple_of (by rfl) (T.j.n_ty "tuple" (by simp)) (by decide +kernel) (pa_cons (pv 3) pa_nil)) (pv 3))))
       pss_nil)
    (pss_one (ps_ret (pe_ifExp (pt_val (pe_callB call_isi (by rfl) T.j.n_isi (by decide +kernel) (pa_cons (pv 1) (pa_cons (pe_bltn (v := .ty "list") (by rfl) (T.j.n_ty "list" (by simp)) (by decide +kernel) rfl) pa_nil)))) (pv 3) (pe_callTy call_tuple_of (by rfl) (T.j.n_ty "tuple" (by simp)) (by decide +kernel) (pa_cons (pv 3) pa_nil))))))))))))), ?_⟩
    have hb : Told H b := fun z => (g.ne z) rfl
    have odd : ∀ (H1 : Hp), Keep b H H1 → ∀ v d' H2, DA (Told H1) H2 v d' → SX d' 1000 12 → Bag b H2 → Keep b H1 H2 → Q v H2 :=
      fun H1 k1 v d' H2 da s1 g2 k2 => k v d' H2 (s1.mono (by omega) (by omega)) g2 (k1.trans k2) fun q hq _ => da q (k1.on q hq)
    refine ⟨_, rfl, b, 8, rfl, g, by decide, by decide, fun way H1 w0 w1 g1 k1 => ?_⟩
    refine ⟨_, rfl, rfl, _, rfl, ?_⟩
    refine ite2 (fun z => ?_) (fun z => ?_)
    · exact iteT ⟨_, rfl, b, rfl, g1, odd H1 k1⟩
    refine ⟨_, rfl, by show 2 ≤ sizeLine; decide, fun tp ntp => ?_⟩
    have s1 := Same.new (o := HO.tup [.ty "list", .ty "tuple"]) ntp
    have k1' := k1.trans (Keep.of s1)
    have g1' := g1.same s1
    refine ⟨x, tp, [.ty "list", .ty "tuple"], _, _, _, rfl, upd_same, .cons (.ty _) (.cons (.ty _) .nil), (hx.kept k1'.k).ty, kit_seq d, isSeq d, rfl, ?_⟩
    cases h1 : isSeq d with
    | false => exact iteT (iteT ⟨_, rfl, b, rfl, g1', odd _ k1'⟩)
    | true =>
      obtain ⟨a, xs, ds, rfl, na, hsq, hxs⟩ := hx.seqI h1
      have sq : ∀ H', Keep b H H' → (SqL K H' a xs ∨ SqT K H' a xs) := fun H' kk => hsq.imp (fun e => SqL.of (kk _ _ na e.1)) (fun e => SqT.of (kk _ _ na e.1))
      have lx := hxs.len
      have hit : 1 ≤ n ∧ SXs ds W (n - 1) := SX.items (hsq.imp (fun e => by rw [e.2] at hs; exact hs) (fun e => by rw [e.2] at hs; exact hs))
      obtain ⟨n1, sds⟩ := hit
      have ld := sds.len
      have line : (1000000 : Nat) ≤ sizeLine := by decide
      refine iteF ⟨_, rfl, a, xs, rfl, sq _ k1', rfl, _, rfl, ?_⟩
      refine ite2 (fun z2 => ?_) (fun z2 => ?_)
      · exact ⟨_, rfl, b, rfl, g1', odd _ k1'⟩
      have l1 : 1 ≤ xs.length := by
        rcases Nat.eq_zero_or_pos xs.length with e | e
        · rw [e] at z2
          exact absurd (decide_eq_true rfl) z2
        · exact e
      refine ⟨_, rfl, a, xs, rfl, sq _ k1', fun l nl => ?_⟩
      have s2 := Same.new (o := HO.lst xs) nl
      have k2 := k1'.trans (Keep.of s2)
      have nlb : l ≠ b := g1'.ne nl
      have hHl : H l = none := k1'.free nlb nl
      refine ⟨_, rfl, _, rfl, a, xs, rfl, sq _ k2, b, _, rfl, g1'.same s2, by omega, by omega, fun at_ H3 a0 a1 g3 k23 => ⟨_, _, rfl, ?_⟩⟩
      obtain ⟨i, rfl⟩ := Int.eq_ofNat_of_zero_le a0
      have hi : i < xs.length := by omega
      have k3 := k2.trans k23
      have hl3 : H3 l = some (.lst xs) := k23 _ _ nlb upd_same
      let S : Addr → Prop := fun q => (Told H q ∧ DX q H (.ref a) d) ∨ q = l
      have Sb : S b := .inl ⟨hb, hx⟩
      have Sl : S l := .inr rfl
      have e0 : DAs S H xs ds := fun q hq => by
        rcases hq with hq | rfl
        · exact DX.elems hq.2 hsq
        · exact DXs.un hHl ds hxs
      have e3 : DAs S H3 xs ds := e0.kept Sb k3.k
      have told3 : ∀ q, S q → H3 q ≠ none := fun q hq => by
        rcases hq with hq | rfl
        · exact k3.on q hq.1
        · rw [hl3]; exact fun z => nomatch z
      let J : Int → L2.St → Hp → Prop := fun t σ H' => ∃ l' ys es, σ = [some (.ref b), some (.ref a), some (.int way), some (.ref l'), some (.int (i : Int))] ∧ Bag b H' ∧ Keep b H H' ∧ H l' = none ∧ H' l' = some (.lst ys) ∧ DAs S H' ys es ∧ SXs es (2 * W + 1100) (n + 12) ∧
        (t ≤ way → l' = l ∧ ys.length = xs.length ∧ SXs es W (n - 1) ∧ ∀ q, S q → H' q ≠ none)
      refine ⟨J 5, ?_, ?_⟩
      · refine ⟨_, rfl, _, _, rfl, rfl, _, rfl, ?_⟩
        refine ite2 (fun z3 => ?_) (fun z3 => ?_)
        · have z3' := of_decide_eq_true z3
          obtain ⟨di, hdi, dxi⟩ := (e3 b Sb).get (List.getElem?_eq_getElem hi)
          have ei : DA S H3 xs[i] di := fun q hq => by
            obtain ⟨d', h', x'⟩ := (e3 q hq).get (List.getElem?_eq_getElem hi)
            rw [hdi] at h'
            cases h'
            exact x'
          have si := sds.get (List.mem_of_getElem? hdi)
          obtain ⟨m, rfl⟩ : ∃ m, n = m + 1 := ⟨n - 1, by omega⟩
          refine ⟨_, rfl, _, rfl, _, rfl, l, _, _, _, rfl, rfl, SqL.of hl3, atI_nat (List.getElem?_eq_getElem hi), ?_⟩
          refine ⟨b, _, di, di.weight, rfl, g3, dxi, ⟨si.asc, si.sh, si.ok, Nat.le_refl _, si.dp⟩, by have := si.w; omega, fun v d' H4 s4 g4 k4 dq => ?_⟩
          refine ⟨_, rfl, _, rfl, l, xs, i, i, rfl, rfl, k4 _ _ nlb hl3, ixN_at hi, ?_⟩
          have e4 := e3.kept Sb k4.k
          have ev : DA S H4 v d' := fun q hq => dq q (told3 q hq) (ei q hq)
          have e5 : DAs S H4 (xs.set i v) (ds.set i d') := fun q hq => DXs.set (ev q hq) i (e4 q hq)
          exact ⟨l, _, _, rfl, (k3.trans k4).bag g hHl, (k3.trans k4).newer hHl, hHl, upd_same, e5.kept Sl keep_at, sds.setOf hdi (s4.mono (Nat.le_refl _) (by omega)) (by omega), fun h5 => absurd h5 (by omega)⟩
        · exact ⟨l, xs, ds, rfl, g3, k3, hHl, hl3, e3, sds.mono (by omega) (by omega), fun _ => ⟨rfl, rfl, sds, told3⟩⟩
      rintro σ H4 ⟨l', ys, es, rfl, g4, k4, n4, h4, e4, s4, orig⟩
      refine ⟨J 6, ?_, ?_⟩
      · refine ⟨_, rfl, rfl, _, rfl, ?_⟩
        refine ite2 (fun z3 => ?_) (fun _ => ⟨l', ys, es, rfl, g4, k4, n4, h4, e4, s4, fun h6 => orig (by omega)⟩)
        have zw : way = 5 := V.int.inj (of_decide_eq_true z3)
        obtain ⟨el, ly, sds', told4⟩ := orig (by omega)
        rw [el] at h4
        rw [el]
        refine ⟨_, rfl, .inl ⟨rfl, _, SqL.of h4⟩, _, rfl, _, rfl, b, 2, rfl, g4, by decide, by decide, fun r H5 r0 r1 g5 k5 => ⟨_, _, rfl, rfl, _, rfl, b, rfl, g5, fun v d' H6 da s6 g6 k6 => ?_⟩⟩
        have h6 := (k5.trans k6) _ _ nlb h4
        refine ⟨l, ys, (i : Int) + r, v, rfl, rfl, h6, by omega, by omega, ?_, ?_⟩
        · have : (2 : Int) ^ 63 = 9223372036854775808 := by decide
          omega
        have e6 := (e4.kept Sb k5.k).kept Sb k6.k
        have ev : DA S H6 v d' := fun q hq => da q (k5.on q (told4 q hq))
        have e7 : DAs S H6 (ys.take ((i : Int) + r).toNat ++ [v] ++ ys.drop ((i : Int) + r).toNat) (es.take ((i : Int) + r).toNat ++ [d'] ++ es.drop ((i : Int) + r).toNat) :=
          fun q hq => (((e6 q hq).take _).append (.cons (ev q hq) .nil)).append ((e6 q hq).drop _)
        have k46 := k4.trans (k5.trans k6)
        refine ⟨l, _, _, rfl, k46.bag g hHl, k46.newer hHl, hHl, upd_same, e7.kept Sl keep_at, ?_, fun h6 => absurd h6 (by omega)⟩
        exact ((((sds'.sub (List.take_sublist _ _)).mono (Nat.le_refl _) (by omega)).append (SXs.cons (s6.mono (Nat.le_refl _) (by omega)) (SXs.nil (m := n + 12)))).append ((sds'.sub (List.drop_sublist _ _)).mono (Nat.le_refl _) (by omega))).mono (by omega) (Nat.le_refl _)
      rintro σ H5 ⟨l', ys, es, rfl, g5, k5, n5, h5, e5, s5, orig⟩
      refine ⟨J 7, ?_, ?_⟩
      · refine ⟨_, rfl, rfl, _, rfl, ?_⟩
        refine ite2 (fun z3 => ?_) (fun _ => ⟨l', ys, es, rfl, g5, k5, n5, h5, e5, s5, fun h6 => orig (by omega)⟩)
        have zw : way = 6 := V.int.inj (of_decide_eq_true z3)
        obtain ⟨el, ly, sds', told5⟩ := orig (by omega)
        rw [el] at h5
        rw [el]
        have hiy : i < ys.length := by omega
        refine ⟨_, rfl, .inl ⟨rfl, _, SqL.of h5⟩, _, rfl, l, ys, i, i, _, rfl, rfl, h5, ?_, ?_, seqIndex_of (by omega) (by omega), List.getElem?_eq_getElem hiy, ?_⟩
        · have : (2 : Int) ^ 63 = 9223372036854775808 := by decide
          omega
        · have : (2 : Int) ^ 63 = 9223372036854775808 := by decide
          omega
        have e6 : DAs S H5 (ys.eraseIdx i) (es.eraseIdx i) := fun q hq => (e5 q hq).erase i
        exact ⟨l, _, _, rfl, k5.bag g hHl, k5.newer hHl, hHl, upd_same, e6.kept Sl keep_at, (sds'.sub (List.eraseIdx_sublist _ _)).mono (by omega) (by omega), fun h6 => absurd h6 (by omega)⟩
      rintro σ H6 ⟨l', ys, es, rfl, g6, k6, n6, h6, e6, s6, orig⟩
      refine ⟨J 8, ?_, ?_⟩
      · refine ⟨_, rfl, rfl, _, rfl, ?_⟩
        refine ite2 (fun z3 => ?_) (fun _ => ⟨l', ys, es, rfl, g6, k6, n6, h6, e6, s6, fun h7 => orig (by omega)⟩)
        have zw : way = 7 := V.int.inj (of_decide_eq_true z3)
        obtain ⟨el, ly, sds', told6⟩ := orig (by omega)
        rw [el] at h6
        rw [el]
        refine ⟨_, rfl, _, rfl, _, rfl, (i : Int), rfl, _, rfl, _, _, rfl, rfl, _, rfl, l, ys, rfl, SqL.of h6, fun q nq => ?_⟩
        have t1 := Same.new (o := HO.lst (cutV ys (some (i : Int)) (some ((i : Int) + 1)))) nq
        have lc : (cutV ys (some (i : Int)) (some ((i : Int) + 1))).length ≤ ys.length := cut_le
        refine ⟨l, q, ys, _, rfl, rfl, t1 _ _ h6, upd_same, by omega, fun r nr => ?_⟩
        have t2 := Same.new (o := HO.lst (ys ++ cutV ys (some (i : Int)) (some ((i : Int) + 1)))) nr
        have k68 := k6.trans (Keep.of (t1.trans t2))
        have nrb : r ≠ b := (g6.same t1).ne nr
        have e7 : DAs S H6 (ys ++ cutV ys (some (i : Int)) (some ((i : Int) + 1))) (es ++ cutG es (some (i : Int)) (some ((i : Int) + 1))) := fun q hq => (e6 q hq).append (DXs.cut (e6 q hq))
        exact ⟨r, _, _, rfl, g6.same (t1.trans t2), k68, (k6.trans (Keep.of t1)).free nrb nr, upd_same, e7.same (t1.trans t2), (sds'.append (sds'.sub cutG_sub)).mono (by omega) (by omega), fun h8 => absurd h8 (by omega)⟩
      rintro σ H8 ⟨l', ys, es, rfl, g8, k8, n8, h8, e8, s8, _⟩
      refine ⟨_, rfl, b, 6, rfl, g8, by decide, by decide, fun r H9 r0 r1 g9 k9 => ⟨rfl, _, rfl, ?_⟩⟩
      have nl'b : l' ≠ b := fun e => hb (e ▸ n8)
      have h9 := k9 _ _ nl'b h8
      have k19 := k8.trans k9
      have e9 := e8.kept Sb k9.k
      have retL : Q (.ref l') H9 := k (.ref l') (.list es) H9 s8.list g9 k19 fun q hq hd => .lst (fun e => hq (e ▸ n8)) h9 (e9 q (.inl ⟨hq, hd⟩))
      have retT : ∀ p, H9 p = none → Q (.ref p) (upd H9 p (.tup ys)) := fun p np =>
        k (.ref p) (.tuple es) _ s8.tuple (g9.same (Same.new np)) (k19.trans (Keep.of (Same.new np))) fun q hq hd => DX.newT (fun e => k19.on q hq (e ▸ np)) np (e9 q (.inl ⟨hq, hd⟩))
      refine ite2 (fun _ => ?_) (fun _ => ?_)
      · refine ⟨_, rfl, .ref a, .ty "list", _, _, _, rfl, .ty _, (hx.kept k19.k).ty, kit_ty (kit_lst d), isLst d, rfl, ?_⟩
        cases isLst d with
        | true => exact iteT ⟨_, rfl, l', ys, rfl, .inl ⟨SqL.of h9, retT⟩⟩
        | false => exact iteF ⟨_, rfl, retL⟩
      · refine ⟨_, rfl, .ref a, .ty "list", _, _, _, rfl, .ty _, (hx.kept k19.k).ty, kit_ty (kit_lst d), isLst d, rfl, ?_⟩
        cases isLst d with
        | true => exact iteT ⟨_, rfl, retL⟩
        | false => exact iteF ⟨_, rfl, l', ys, rfl, .inl ⟨SqL.of h9, retT⟩⟩
end
end K11

namespace K11
open PySem PySem.Spec PyProof.Rows L2 HK
theorem Bag.lst {b : Addr} {H : Hp} (g : Bag b H) : ∃ xs, H b = some (.lst xs) := by
  obtain ⟨r, s, i, l, ns, h1, _⟩ := g
  exact ⟨_, h1⟩
/-- all that the law's def calls -/
structure TxL (K : PySem.W.Frag) (mg : Str → Option Value) (f1 f2 f3 f4 f5 f6 f8 f9 f10 f11 f12 f13 f14 f15 f16 f17 f18 f19 f20 f21 : Addr) (d1 d2 d3 d4 d5 d6 d8 d9 d10 d11 d12 d13 d14 d15 d16 d17 d18 d19 d20 d21 : FuncData) : Prop where
  b : TxB mg
  k : TxK mg
  a : TxA mg
  j : TxJ mg
  m : TxM mg
  g1 : mg "is_integer" = some (.ref f1)
  F1 : Fun K "is_integer" "is_integer" sInt f1 d1
  b1 : Binds K d1 ["thing"] []
  g2 : mg "is_number" = some (.ref f2)
  F2 : Fun K "is_number" "is_number" sNum f2 d2
  b2 : Binds K d2 ["least", "thing"] []
  g3 : mg "is_kind" = some (.ref f3)
  F3 : Fun K "is_kind" "is_kind" sKind f3 d3
  b3 : Binds K d3 ["thing"] []
  g4 : mg "is_cart" = some (.ref f4)
  F4 : Fun K "is_cart" "is_cart" sCart f4 d4
  b4 : Binds K d4 ["thing"] []
  g5 : mg "has_two_steps" = some (.ref f5)
  F5 : Fun K "has_two_steps" "has_two_steps" sTwo f5 d5
  b5 : Binds K d5 ["cart"] []
  g6 : mg "is_step" = some (.ref f6)
  F6 : Fun K "is_step" "is_step" sStep f6 d6
  b6 : Binds K d6 ["thing"] []
  g8 : mg "_law_bag" = some (.ref f8)
  F8 : Fun K "_law_bag" "_law_bag" sBag f8 d8
  b8 : Binds K d8 ["_law_script"] []
  g9 : mg "_law_take" = some (.ref f9)
  F9 : Fun K "_law_take" "_law_take" sTake f9 d9
  b9 : Binds K d9 ["_law_bag_here", "_law_many"] []
  g10 : mg "_law_alike" = some (.ref f10)
  F10 : Fun K "_law_alike" "_law_alike" sAlike f10 d10
  b10 : Binds K d10 ["_law_found", "_law_due"] []
  g11 : mg "_law_one" = some (.ref f11)
  F11 : Fun K "_law_one" "_law_one" sOne f11 d11
  b11 : Binds K d11 ["_law_bag_here", "_law_things"] []
  g12 : mg "_law_kinds" = some (.ref f12)
  F12 : Fun K "_law_kinds" "_law_kinds" sKinds f12 d12
  b12 : Binds K d12 ["_law_bag_here", "_law_many"] []
  g13 : mg "_law_number" = some (.ref f13)
  F13 : Fun K "_law_number" "_law_number" sLNum f13 d13
  b13 : Binds K d13 ["_law_bag_here"] []
  g14 : mg "_law_step_on" = some (.ref f14)
  F14 : Fun K "_law_step_on" "_law_step_on" sStepOn f14 d14
  b14 : Binds K d14 ["_law_bag_here", "_law_here", "_law_there"] []
  g15 : mg "_law_is_int" = some (.ref f15)
  F15 : Fun K "_law_is_int" "_law_is_int" sLInt f15 d15
  b15 : Binds K d15 ["_law_thing"] []
  g16 : mg "_law_is_kind" = some (.ref f16)
  F16 : Fun K "_law_is_kind" "_law_is_kind" sLKind f16 d16
  b16 : Binds K d16 ["_law_thing"] []
  g17 : mg "_law_is_cart" = some (.ref f17)
  F17 : Fun K "_law_is_cart" "_law_is_cart" sLCart f17 d17
  b17 : Binds K d17 ["_law_thing"] []
  g18 : mg "_law_is_step" = some (.ref f18)
  F18 : Fun K "_law_is_step" "_law_is_step" sLStep f18 d18
  b18 : Binds K d18 ["_law_thing"] []
  g19 : mg "_law_odd_value" = some (.ref f19)
  F19 : Fun K "_law_odd_value" "_law_odd_value" sOdd f19 d19
  b19 : Binds K d19 ["_law_bag_here"] []
  g20 : mg "_law_bent" = some (.ref f20)
  F20 : Fun K "_law_bent" "_law_bent" sBent f20 d20
  b20 : Binds K d20 ["_law_bag_here", "_law_thing"] []
  g21 : mg "_law_text" = some (.ref f21)
  F21 : Fun K "_law_text" "_law_text" sText f21 d21
  b21 : Binds K d21 ["_law_bag_here"] []
def spLaw (K : PySem.W.Frag) : Sp := fun vs H Q _ => ∃ (a : Addr) (ns : List Int), vs = [.ref a] ∧ Mk H ∧ SqL K H a (ns.map V.int) ∧ ns.length ≤ 63 ∧ ∀ H', Q (.bl true) H'
section
variable {P : Program} {w : World} {K : PySem.W.Frag} {mg : Str → Option Value} {base : Heap}
theorem ok_bent {f fT fO fN : Addr} {fd fdT fdO fdN : FuncData} (F : Fun K "_law_bent" "_law_bent" sBent f fd) (T : TxN K mg) (gT : mg "_law_take" = some (.ref fT)) (FT : Fun K "_law_take" "_law_take" sTake fT fdT) (bT : Binds K fdT ["_law_bag_here", "_law_many"] [])
    (gN : mg "_law_one" = some (.ref fN)) (FN : Fun K "_law_one" "_law_one" sOne fN fdN) (bN : Binds K fdN ["_law_bag_here", "_law_things"] [])
    (gO : mg "_law_odd_value" = some (.ref fO)) (FO : Fun K "_law_odd_value" "_law_odd_value" sOdd fO fdO) (bO : Binds K fdO ["_law_bag_here"] []) (gB : mg "_law_bent" = some (.ref f)) (bB : Binds K fd ["_law_bag_here", "_law_thing"] []) :
    ∀ n, FnOk P w K mg base CX0 (3 + n) f fd ["_law_bag_here", "_law_thing"] (spB n)
  | 0 => ⟨fun vs H Q E h => False.elim h, fun A outer s H args us vs Q E hr e0 hb r h => False.elim h⟩
  | n + 1 => bent_step F T gT FT bT gO FO bO (ok_odd FO T.b T.r gT FT bT gN FN bN) gB bB (ok_bent F T gT FT bT gN FN bN gO FO bO gB bB n)
theorem dSt_ok {f k : Str} {t u : Bool} (hf : KindS f) (hk : KindS k) : SX (dSt f k t u) 30 2 := by
  have c : SX (.tuple [.str f, .str k, .bool t]) 19 1 := ((SXs.cons (SX.str hf.asc hf.hi) (SXs.cons (SX.str hk.asc hk.hi) (SXs.cons (SX.bool t) SXs.nil))).tuple).mono (by decide) (by decide)
  exact ((SXs.cons c (SXs.cons ((SX.bool u).mono (Nat.le_refl _) (Nat.zero_le 1)) SXs.nil)).tuple).mono (by decide) (by decide)
theorem dCt_ok {f k : Str} {t : Bool} (hf : KindS f) (hk : KindS k) : SX (.tuple [.str f, .str k, .bool t]) 30 2 :=
  ((SXs.cons (SX.str hf.asc hf.hi) (SXs.cons (SX.str hk.asc hk.hi) (SXs.cons (SX.bool t) SXs.nil))).tuple).mono (by decide) (by decide)
def lstBools (bs : List Bool) : PyData := .list (bs.map PyData.bool)
theorem bools_fine {bs : List Bool} (h : bs.length = 5) {d : PyData} (hd : SX d 1200 20) : Fine (.list [.list (bs.map PyData.bool), .str d.shown]) := by
  have e : ∀ l : List Bool, SmA (l.map PyData.bool) l.length 0 := fun l => by
    induction l with
    | nil => exact SmA.nil
    | cons x l ih => exact (SmA.cons (Sm.bool x) ih).mono (by simp only [List.length_cons]; omega) (by simp)
  exact ((SmA.cons (Sm.list (e bs)) (SmA.cons hd.said SmA.nil)).mono (m := 60000) (j := 5) (by rw [h]; decide) (by decide) |> Sm.list).fine (by decide) (by decide)
theorem bools_dp {K : PySem.W.Frag} {H : Hp} : ∀ bs : List Bool, DpAll K H (bs.map V.bl) (bs.map PyData.bool)
  | [] => .nil
  | x :: r => .cons (.bl x) (bools_dp r)
def B5 (l : Int) (d : PyData) : List Bool := [mInt d, mNum l d, mKind d, mCart d, mStep d]
theorem stepX {b : Addr} {H : Hp} {v : V} {f k : Str} {t u : Bool} (h : DX b H v (dSt f k t u)) : ∃ s c, v = .ref s ∧ s ≠ b ∧ c ≠ b ∧ H s = some (.tup [.ref c, .bl u]) ∧ H c = some (.tup [.str f, .str k, .bl t]) := by
  obtain ⟨s, xs, rfl, n, e, r⟩ := h.tupI
  obtain ⟨x, y, rfl, h1, h2⟩ := r.two
  cases h2.blI
  obtain ⟨c, rfl, nc, ec⟩ := cartX h1
  exact ⟨s, c, rfl, n, nc, e, ec⟩
theorem stepC {b : Addr} {H : Hp} {s c : Addr} {f k : Str} {t u w : Bool} (h : DX b H (.ref s) (dSt f k t u)) (hs : H s = some (.tup [.ref c, .bl w])) : DX b H (.ref c) (.tuple [.str f, .str k, .bool t]) := by
  obtain ⟨s', xs, e0, n, e, r⟩ := h.tupI
  cases e0
  rw [hs] at e
  cases e
  obtain ⟨x, y, e1, h1, h2⟩ := r.two
  cases e1
  exact h1
theorem scLaw : FnScope ["_law_script", "_law_bag_here", "_law_turn", "_law_kinds_here", "_law_step", "_law_things", "_law_least", "_law_thing", "_law_said", "_law_due", "_law_again", "_law_found"] ["_law_script"] (defScope sLaw) := ⟨rfl, rfl, rfl, by decide +kernel, rfl, by decide +kernel, by decide +kernel⟩
theorem ok_law {f1 f2 f3 f4 f5 f6 f8 f9 f10 f11 f12 f13 f14 f15 f16 f17 f18 f19 f20 f21 : Addr} {d1 d2 d3 d4 d5 d6 d8 d9 d10 d11 d12 d13 d14 d15 d16 d17 d18 d19 d20 d21 : FuncData} {f : Addr} {fd : FuncData} (F : Fun K "law" "law" sLaw f fd)
    (T : TxL K mg f1 f2 f3 f4 f5 f6 f8 f9 f10 f11 f12 f13 f14 f15 f16 f17 f18 f19 f20 f21 d1 d2 d3 d4 d5 d6 d8 d9 d10 d11 d12 d13 d14 d15 d16 d17 d18 d19 d20 d21) : FnG P w K mg base CX0 7 f fd ["_law_script"] (spLaw K) := by
  have G1 : FnOk P w K mg base CX0 1 f1 d1 _ (spJ mInt) := ok_int T.F1 T.j
  have G2 : FnOk P w K mg base CX0 2 f2 d2 _ spNum := ok_num T.F2 T.j T.g1 T.F1 T.b1
  have G3 : FnOk P w K mg base CX0 1 f3 d3 _ (spJ mKind) := ok_kind T.F3 T.j
  have G4 : FnOk P w K mg base CX0 2 f4 d4 _ (spJ mCart) := ok_cart T.F4 T.j T.g3 T.F3 T.b3
  have G6 : FnOk P w K mg base CX0 3 f6 d6 _ (spJ mStep) := ok_step T.F6 T.j T.g3 T.F3 T.b3 T.g4 T.F4 T.b4 T.g5 T.F5 T.b5
  have G8 : FnOk P w K mg base CX0 1 f8 d8 _ (spBag K) := ok_bag T.F8 T.b
  have G10 : FnG P w K mg base CX0 1 f10 d10 _ (spAlike K) := ok_alike T.F10 T.a
  have G11 : FnOk P w K mg base CX0 2 f11 d11 _ spOne := ok_one T.F11 T.b T.g9 T.F9 T.b9
  have G12 : FnOk P w K mg base CX0 2 f12 d12 _ spKinds := ok_kinds T.F12 T.b T.k T.g9 T.F9 T.b9
  have G13 : FnOk P w K mg base CX0 2 f13 d13 _ spLNum := ok_lnum T.F13 T.b T.g9 T.F9 T.b9
  have G14 : FnOk P w K mg base CX0 2 f14 d14 _ spStepOn := ok_stepon T.F14 T.b T.m T.g9 T.F9 T.b9
  have G15 : FnOk P w K mg base CX0 1 f15 d15 _ (spJ mInt) := ok_lint T.F15 T.j
  have G16 : FnOk P w K mg base CX0 1 f16 d16 _ (spJ mKind) := ok_lkind T.F16 T.j
  have G17 : FnOk P w K mg base CX0 2 f17 d17 _ (spJ mCart) := ok_lcart T.F17 T.j T.g16 T.F16 T.b16
  have G18 : FnOk P w K mg base CX0 3 f18 d18 _ (spJ mStep) := ok_lstep T.F18 T.j T.g16 T.F16 T.b16 T.g17 T.F17 T.b17
  have G19 : FnOk P w K mg base CX0 3 f19 d19 _ spOdd := ok_odd T.F19 T.b ⟨T.k.n_range⟩ T.g9 T.F9 T.b9 T.g11 T.F11 T.b11
  have G20 : FnOk P w K mg base CX0 6 f20 d20 _ (spB 3) := ok_bent T.F20 ⟨T.b, T.j, ⟨T.k.n_range⟩⟩ T.g9 T.F9 T.b9 T.g11 T.F11 T.b11 T.g19 T.F19 T.b19 T.g20 T.b20 3
  have G21 : FnOk P w K mg base CX0 3 f21 d21 _ spText := ok_text T.F21 T.b ⟨T.k.n_range⟩ T.g9 T.F9 T.b9 T.g11 T.F11 T.b11
  refine fnG F scLaw (fun vs H Q E h => ?_) (fun cdv A outer s H vs Q E hq hr h => ?_)
  · obtain ⟨a, ns, rfl, _⟩ := h
    rfl
  · obtain ⟨a, ns, rfl, M, hS, hl, k⟩ := h
    have nd := scLaw.nd
    have hr1 : Room 1 _ := hr.mono (by decide)
    have hr2 : Room 2 _ := hr.mono (by decide)
    have hr3 : Room 3 _ := hr.mono (by decide)
    refine ⟨_, (pss_cons (ps_set (i := 1) nd rfl (Or.inl rfl) (pe_call G8 hr1 rfl T.g8 T.F8.kp T.b8 .nil pass0 (pa_cons (pv 0) pa_nil)))
    (pss_cons (ps_for PassesOwn.never rfl (pi_range1 (by rfl) T.k.n_range (pa_cons pe_int pa_nil)) (pg_name (i := 2) nd rfl (Or.inl rfl))
      (pss_cons (ps_set (i := 3) nd rfl (Or.inl rfl) (pe_call G12 hr2 rfl T.g12 T.F12.kp T.b12 .nil pass0 (pa_cons (pv 1) (pa_cons pe_int pa_nil))))
      (C8.pss_cut (ps_set (i := 4) nd rfl (Or.inl rfl) (pe_call G14 hr2 rfl T.g14 T.F14.kp T.b14 .nil pass0 (pa_cons (pv 1) (pa_cons (pe_call G11 hr2 rfl T.g11 T.F11.kp T.b11 .nil pass0 (pa_cons (pv 1) (pa_cons (pv 3) pa_nil))) (pa_cons (pe_call G11 hr2 rfl T.g11 T.F11.kp T.b11 .nil pass0 (pa_cons (pv 1) (pa_cons (pv 3) pa_nil))) pa_nil)))))
      (C8.pss_cut (ps_set (i := 5) nd rfl (Or.inl rfl) (pe_lst (pa_cons (pe_call G21 hr3 rfl T.g21 T.F21.kp T.b21 .nil pass0 (pa_cons (pv 1) pa_nil)) (pa_cons (pe_call G19 hr3 rfl T.g19 T.F19.kp T.b19 .nil pass0 (pa_cons (pv 1) pa_nil)) (pa_cons (pv 4) (pa_cons (pe_ix ix_tup (pv 4) pe_int (fun _ _ => rfl)) (pa_cons (pe_call G20 hr rfl T.g20 T.F20.kp T.b20 .nil pass0 (pa_cons (pv 1) (pa_cons (pv 4) pa_nil))) (pa_cons (pe_call G20 hr rfl T.g20 T.F20.kp T.b20 .nil pass0 (pa_cons (pv 1) (pa_cons (pe_ix ix_tup (pv 4) pe_int (fun _ _ => rfl)) pa_nil))) pa_nil))))))))
      (C8.pss_cut (ps_set (i := 5) nd rfl (Or.inl rfl) (pe_op op_cat (pv 5) (pe_lst (pa_cons (pe_tup (pa_cons (pe_ix ix_tup (pv 4) pe_int (fun _ _ => rfl)) (pa_cons (pe_not (pe_ix ix_tup (pv 4) pe_int (fun _ _ => rfl))) pa_nil))) (pa_cons (pe_tup (pa_cons (pe_ix ix_tup (pe_ix ix_tup (pv 4) pe_int (fun _ _ => rfl)) pe_int (fun _ _ => rfl)) (pa_cons (pe_ix ix_tup (pe_ix ix_tup (pv 4) pe_int (fun _ _ => rfl)) pe_int (fun _ _ => rfl)) (pa_cons (pe_ix ix_tup (pe_ix ix_tup (pv 4) pe_int (fun _ _ => rfl)) pe_int (fun _ _ => rfl)) pa_nil)))) (pa_cons (pe_lst (pa_cons (pe_ix ix_tup (pv 4) pe_int (fun _ _ => rfl)) pa_nil)) (pa_cons (pe_call G13 hr2 rfl T.g13 T.F13.kp T.b13 .nil pass0 (pa_cons (pv 1) pa_nil)) pa_nil)))))))
      (C8.pss_cut (ps_set (i := 6) nd rfl (Or.inl rfl) (pe_call G11 hr2 rfl T.g11 T.F11.kp T.b11 .nil pass0 (pa_cons (pv 1) (pa_cons (pe_lst (pa_cons pe_int (pa_cons pe_int (pa_cons (pe_un un_neg pe_int) (pa_cons pe_int (pa_cons (pe_op op_pow pe_int pe_int) pa_nil)))))) pa_nil))))
      (pss_one (ps_for PassesOwn.never rfl (pi_list (pv 5)) (pg_name (i := 7) nd rfl (Or.inl rfl))
        (pss_cons (ps_set (i := 8) nd rfl (Or.inl rfl) (pe_callB (call_reprX hq hr.units) (by rfl) T.a.n_repr (by decide +kernel) (pa_cons (pv 7) pa_nil)))
        (C8.pss_cut (ps_set (i := 9) nd rfl (Or.inl rfl) (pe_lst (pa_cons (pe_call G15 hr1 rfl T.g15 T.F15.kp T.b15 .nil pass0 (pa_cons (pv 7) pa_nil)) (pa_cons (pe_and (pe_call G15 hr1 rfl T.g15 T.F15.kp T.b15 .nil pass0 (pa_cons (pv 7) pa_nil)) (pe_one (pe_cmpR op_ge (pv 7) (pv 6) (nomark _)))) (pa_cons (pe_call G16 hr1 rfl T.g16 T.F16.kp T.b16 .nil pass0 (pa_cons (pv 7) pa_nil)) pa_nil)))))
        (C8.pss_cut (ps_set (i := 9) nd rfl (Or.inl rfl) (pe_op op_cat (pv 9) (pe_lst (pa_cons (pe_call G17 hr2 rfl T.g17 T.F17.kp T.b17 .nil pass0 (pa_cons (pv 7) pa_nil)) (pa_cons (pe_call G18 hr3 rfl T.g18 T.F18.kp T.b18 .nil pass0 (pa_cons (pv 7) pa_nil)) pa_nil)))))
        (pss_one (ps_for PassesOwn.never rfl (pi_range1 (by rfl) T.k.n_range (pa_cons pe_int pa_nil)) (pg_name (i := 10) nd rfl (Or.inl rfl))
          (C8.pss_cut (ps_set (i := 11) nd rfl (Or.inl rfl) (pe_lst (pa_cons (pe_call G1 hr1 rfl T.g1 T.F1.kp T.b1 .nil pass0 (pa_cons (pv 7) pa_nil)) (pa_cons (pe_call G2 hr2 rfl T.g2 T.F2.kp T.b2 .nil pass0 (pa_cons (pv 6) (pa_cons (pv 7) pa_nil))) (pa_cons (pe_call G3 hr1 rfl T.g3 T.F3.kp T.b3 .nil pass0 (pa_cons (pv 7) pa_nil)) (pa_cons (pe_call G4 hr2 rfl T.g4 T.F4.kp T.b4 .nil pass0 (pa_cons (pv 7) pa_nil)) (pa_cons (pe_call G6 hr3 rfl T.g6 T.F6.kp T.b6 .nil pass0 (pa_cons (pv 7) pa_nil)) pa_nil)))))))
          (pss_one (ps_if (pt_not (pt_val (pe_callG G10 hq hr1 rfl T.g10 T.F10.kp T.b10 pass0 (pa_cons (pe_lst (pa_cons (pv 11) (pa_cons (pe_callB (call_reprX hq hr.units) (by rfl) T.a.n_repr (by decide +kernel) (pa_cons (pv 7) pa_nil)) pa_nil))) (pa_cons (pe_lst (pa_cons (pv 9) (pa_cons (pv 8) pa_nil))) pa_nil)))))
            (pss_one (ps_ret pe_bl))
             pss_nil))))))))))))))))
    (pss_one (ps_ret pe_bl)))), ?_⟩
    refine ⟨_, rfl, a, ns, rfl, hS, hl, fun b H0 s0 nb g0 => ?_⟩
    have M0 := M.same s0
    have line : (1000 : Nat) ≤ sizeLine := by decide
    refine ⟨20, rfl, by decide, by decide, for_range (n := 20) (fun _ σ H1 => Bag b H1 ∧ Mk H1 ∧ ∃ v2 v3 v4 v5 v6 v7 v8 v9 v10 v11, σ = [some (.ref a), some (.ref b), v2, v3, v4, v5, v6, v7, v8, v9, v10, v11])
      ⟨g0, M0, _, _, _, _, _, _, _, _, _, _, rfl⟩ ?_ (fun σ H1 _ => k H1)⟩
    rintro i σ H1 hi ⟨g1, M1, v2, v3, v4, v5, v6, v7, v8, v9, v10, v11, rfl⟩
    refine ⟨_, rfl, b, 3, rfl, g1, by decide, by decide, fun ks p H2 lk kk np hp g2 k2 => ?_⟩
    have npb : p ≠ b := g1.ne np
    have M2 := M1.kept k2.k g1.lst
    have lks : (ks.map V.str).length = 3 := by rw [List.length_map]; omega
    refine ⟨fun σ H3 => Bag b H3 ∧ Mk H3 ∧ ∃ v3 f k t u st, KindS f ∧ KindS k ∧ DX b H3 st (dSt f k t u) ∧ σ = [some (.ref a), some (.ref b), some (.int (0 + (i : Int))), v3, some st, v5, v6, v7, v8, v9, v10, v11], ?_, ?_⟩
    · refine ⟨_, rfl, _, rfl, _, rfl, b, p, _, rfl, g2, npb, hp, by omega, by omega, fun i1 x1 H3 h1 g3 k3 => ?_⟩
      obtain ⟨y1, hy1, rfl⟩ : ∃ y, ks[i1]? = some y ∧ V.str y = x1 := by simpa [List.getElem?_map] using h1
      refine ⟨_, rfl, _, rfl, b, p, _, rfl, g3, npb, k3 _ _ npb hp, by omega, by omega, fun i2 x2 H4 h2 g4 k4 => ?_⟩
      obtain ⟨y2, hy2, rfl⟩ : ∃ y, ks[i2]? = some y ∧ V.str y = x2 := by simpa [List.getElem?_map] using h2
      refine ⟨b, y1, y2, rfl, g4, kk _ (List.mem_of_getElem? hy1), kk _ (List.mem_of_getElem? hy2), fun f k t u v H5 hf hk g5 k5 dv => ?_⟩
      exact ⟨g5, ((M2.kept k3.k g2.lst).kept k4.k g3.lst).kept k5.k g4.lst, _, f, k, t, u, v, hf, hk, dv, rfl⟩
    rintro σ H3 ⟨g3, M3, v3', f, kd, t, u, st, hf, hk, dst, rfl⟩
    refine ⟨fun σ H4 => Bag b H4 ∧ Mk H4 ∧ DX b H4 st (dSt f kd t u) ∧ ∃ p xs ds, p ≠ b ∧ H4 p = some (.lst xs) ∧ xs.length = 6 ∧ DXs b H4 xs ds ∧ (∀ d ∈ ds, SX d 1200 20) ∧ σ = [some (.ref a), some (.ref b), some (.int (0 + (i : Int))), v3', some st, some (.ref p), v6, v7, v8, v9, v10, v11], ?_, ?_⟩
    · obtain ⟨s, c, rfl, nsb, ncb, hs, hc⟩ := stepX dst
      refine ⟨_, rfl, b, rfl, g3, fun y H4 ya ys g4 k4 => ⟨_, rfl, b, rfl, g4, fun v d H5 da sd g5 k5 => ?_⟩⟩
      have k35 := k4.trans k5
      have dst5 := dst.kept k35.k
      refine ⟨_, rfl, _, rfl, s, _, _, _, rfl, rfl, SqT.of (k35 _ _ nsb hs), rfl, _, rfl, _, rfl, b, _, dSt f kd t u, 30, rfl, g5, dst5, dSt_ok hf hk, by decide, fun w5 d5 H6 s5 g6 k6 dq5 => ?_⟩
      have k36 := k35.trans k6
      have dst6 := dst.kept k36.k
      refine ⟨_, rfl, _, rfl, s, _, _, _, rfl, rfl, SqT.of (k36 _ _ nsb hs), rfl, b, _, .tuple [.str f, .str kd, .bool t], 30, rfl, g6, stepC dst6 (k36 _ _ nsb hs), dCt_ok hf hk, by decide, fun w6 d6 H7 s6 g7 k7 dq6 => ⟨by show 6 ≤ sizeLine; decide, fun p np => ?_⟩⟩
      have k37 := k36.trans k7
      have s1 := Same.new (o := HO.lst [.str y, v, .ref s, .ref c, w5, w6]) np
      have kk := k37.trans (Keep.of s1)
      refine ⟨g7.same s1, M3.kept kk.k g3.lst, dst.kept kk.k, p, _, [.str y, d, dSt f kd t u, .tuple [.str f, .str kd, .bool t], d5, d6], g7.ne np, upd_same, rfl, ?_, ?_, rfl⟩
      · have t4 : Told H4 b := fun z => (g4.ne z) rfl
        have t5 : Told H5 b := fun z => (g5.ne z) rfl
        have t6 : Told H6 b := fun z => (g6.ne z) rfl
        refine .cons (.str _) (.cons ?_ (.cons (dst.kept kk.k) (.cons ?_ (.cons ?_ (.cons ?_ .nil)))))
        · exact ((da b t4).kept (k6.trans (k7.trans (Keep.of s1))).k)
        · exact stepC (dst.kept kk.k) (kk _ _ nsb hs)
        · exact (dq5 b t5 dst5).kept (k7.trans (Keep.of s1)).k
        · exact (dq6 b t6 (stepC dst6 (k36 _ _ nsb hs))).same s1
      · intro d' hd'
        simp only [List.mem_cons, List.not_mem_nil, or_false] at hd'
        rcases hd' with rfl | rfl | rfl | rfl | rfl | rfl
        · exact (SX.str ya ys).mono (by decide) (by decide)
        · exact sd.mono (by decide) (by decide)
        · exact (dSt_ok hf hk).mono (by decide) (by decide)
        · exact (dCt_ok hf hk).mono (by decide) (by decide)
        · exact s5.mono (by decide) (by decide)
        · exact s6.mono (by decide) (by decide)
    rintro σ H4 ⟨g4, M4, dst4, p4, xs4, ds4, np4, hp4, l4, hxs4, sx4, rfl⟩
    refine ⟨fun σ H5 => Bag b H5 ∧ Mk H5 ∧ ∃ p xs ds, p ≠ b ∧ H5 p = some (.lst xs) ∧ xs.length = 10 ∧ DXs b H5 xs ds ∧ (∀ d ∈ ds, SX d 1200 20) ∧ σ = [some (.ref a), some (.ref b), some (.int (0 + (i : Int))), v3', some st, some (.ref p), v6, v7, v8, v9, v10, v11], ?_, ?_⟩
    · obtain ⟨s, c, rfl, nsb, ncb, hs, hc⟩ := stepX dst4
      have ts := SqT.of (K := K) hs
      refine ⟨_, rfl, _, rfl, s, _, _, _, rfl, rfl, SqT.of hs, rfl, _, rfl, s, _, _, _, rfl, rfl, SqT.of hs, rfl, u, rfl, by show 2 ≤ sizeLine; decide, fun p1 n1 => ?_⟩
      have s1 := Same.new (o := HO.tup [.ref c, .bl (!u)]) n1
      have hs1 := s1 _ _ hs
      have hc1 := s1 _ _ hc
      refine ⟨_, rfl, s, _, _, _, rfl, rfl, SqT.of hs1, rfl, c, _, _, _, rfl, rfl, SqT.of hc1, rfl, _, rfl, s, _, _, _, rfl, rfl, SqT.of hs1, rfl, c, _, _, _, rfl, rfl, SqT.of hc1, rfl, _, rfl, s, _, _, _, rfl, rfl, SqT.of hs1, rfl, c, _, _, _, rfl, rfl, SqT.of hc1, rfl, by show 3 ≤ sizeLine; decide, fun p2 n2 => ?_⟩
      have s2 := Same.new (o := HO.tup [.str kd, .str f, .bl t]) n2
      have s12 := s1.trans s2
      refine ⟨_, rfl, s, _, _, _, rfl, rfl, SqT.of (s12 _ _ hs), rfl, by show 1 ≤ sizeLine; decide, fun p3 n3 => ?_⟩
      have s3 := Same.new (o := HO.lst [.ref c]) n3
      have s13 := s12.trans s3
      refine ⟨_, rfl, b, rfl, g4.same s13, fun r H5 r0 r1 g5 k5 => ⟨by show 4 ≤ sizeLine; decide, fun p5 n5 => ?_⟩⟩
      have s5 := Same.new (o := HO.lst [.ref p1, .ref p2, .ref p3, .int r]) n5
      have k45 := (Keep.of s13).trans k5
      refine ⟨p4, p5, xs4, _, rfl, rfl, s5 _ _ (k45 _ _ np4 hp4), upd_same, by rw [l4]; show 6 + 4 ≤ _; omega, fun q nq => ?_⟩
      have s6 := Same.new (o := HO.lst (xs4 ++ [.ref p1, .ref p2, .ref p3, .int r])) nq
      have kk := k45.trans (Keep.of (s5.trans s6))
      have dc := stepC dst4 hs
      have e1 : DX b _ (.ref p1) (dSt f kd t (!u)) := DX.newT (ds := [.tuple [.str f, .str kd, .bool t], .bool (!u)]) (g4.ne n1) n1 (.cons dc (.cons (.bl _) .nil))
      have e2 : DX b _ (.ref p2) (.tuple [.str kd, .str f, .bool t]) := DX.newT (ds := [.str kd, .str f, .bool t]) ((g4.same s1).ne n2) n2 (.cons (.str _) (.cons (.str _) (.cons (.bl _) .nil)))
      have e3 : DX b _ (.ref p3) (.list [.tuple [.str f, .str kd, .bool t]]) := DX.newL (ds := [.tuple [.str f, .str kd, .bool t]]) ((g4.same s12).ne n3) n3 (.cons (dc.same s12) .nil)
      have k56 := k5.trans (Keep.of (s5.trans s6))
      refine ⟨(g5.same s5).same s6, M4.kept kk.k g4.lst, q, _, ds4 ++ [dSt f kd t (!u), .tuple [.str kd, .str f, .bool t], .list [.tuple [.str f, .str kd, .bool t]], .int r], (g5.same s5).ne nq, upd_same, by rw [List.length_append, l4]; rfl, (hxs4.kept kk.k).append (.cons ((e1.same (s2.trans s3)).kept k56.k) (.cons ((e2.same s3).kept k56.k) (.cons (e3.kept k56.k) (.cons (.int r) .nil)))), ?_, rfl⟩
      intro d' hd'
      rcases List.mem_append.mp hd' with hd' | hd'
      · exact sx4 d' hd'
      simp only [List.mem_cons, List.not_mem_nil, or_false] at hd'
      rcases hd' with rfl | rfl | rfl | rfl
      · exact (dSt_ok hf hk).mono (by decide) (by decide)
      · exact (dCt_ok hk hf).mono (by decide) (by decide)
      · exact ((SXs.cons (dCt_ok (t := t) hf hk) SXs.nil).list).mono (by decide) (by decide)
      · exact (SX.int (by have : (10 : Int) ^ 39 = ((10 ^ 39 : Nat) : Int) := by decide
                          omega)).mono (by decide) (by decide)
    rintro σ H5 ⟨g5, M5, p5, xs5, ds5, np5, hp5, l5, hxs5, sx5, rfl⟩
    refine ⟨fun σ H6 => Bag b H6 ∧ Mk H6 ∧ Keep b H5 H6 ∧ ∃ l, σ = [some (.ref a), some (.ref b), some (.int (0 + (i : Int))), v3', some st, some (.ref p5), some (.int l), v7, v8, v9, v10, v11], ?_, ?_⟩
    · refine ⟨_, rfl, _, rfl, _, _, rfl, rfl, ⟨by decide, by decide, by decide⟩, by show 5 ≤ sizeLine; decide, fun p np => ?_⟩
      have s1 := Same.new (o := HO.lst (([0, 1, -3, 2, 10 ^ (30 : Int).toNat] : List Int).map V.int)) np
      refine ⟨b, p, ([0, 1, -3, 2, 10 ^ (30 : Int).toNat] : List Int).map V.int, rfl, g5.same s1, g5.ne np, upd_same, by decide, by decide, fun i1 x1 H6 h1 g6 k6 => ?_⟩
      obtain ⟨l, _, rfl⟩ : ∃ y, ([0, 1, -3, 2, 10 ^ (30 : Int).toNat] : List Int)[i1]? = some y ∧ V.int y = x1 := by rw [List.getElem?_map] at h1; exact Option.map_eq_some_iff.mp h1
      have kk := (Keep.of s1).trans k6
      exact ⟨g6, M5.kept kk.k g5.lst, kk, l, rfl⟩
    rintro σ H6 ⟨g6, M6, k56, l, rfl⟩
    have hp6 := k56 _ _ np5 hp5
    have hxs6 := hxs5.kept k56.k
    refine ⟨_, rfl, p5, rfl, ⟨_, SqL.of hp6⟩, for_list (K := K) (a := p5) (xs := xs5) (fun _ σ H7 => Same H6 H7 ∧ ∃ v7 v8 v9 v10 v11, σ = [some (.ref a), some (.ref b), some (.int (0 + (i : Int))), v3', some st, some (.ref p5), some (.int l), v7, v8, v9, v10, v11])
      ⟨Same.refl _, _, _, _, _, _, rfl⟩ (fun _ σ H7 _ z => SqL.of (z.1 _ _ hp6)) ?_ ?_⟩
    · rintro j x σ H7 hj ⟨s7, v7, v8, v9, v10, v11, rfl⟩
      obtain ⟨d, hd, dx6⟩ := hxs6.get hj
      have sd := sx5 d (List.mem_of_getElem? hd)
      have sd50 : SX d 1200 50 := sd.mono (Nat.le_refl _) (by decide)
      have n3 : (1200 : Nat) ≤ 300000 := by decide
      have dx7 := dx6.same s7
      have tx := sd.tx (by decide) (by decide)
      refine ⟨_, rfl, b, x, d, rfl, M6.same s7, dx7, tx, ?_⟩
      refine ⟨fun σ H8 => Same H6 H8 ∧ ∃ du, H8 du = some (.lst [.bl (mInt d), .bl (mNum l d), .bl (mKind d)]) ∧ σ = [some (.ref a), some (.ref b), some (.int (0 + (i : Int))), v3', some st, some (.ref p5), some (.int l), some x, some (.str d.shown), some (.ref du), v10, v11], ?_, ?_⟩
      · refine ⟨_, rfl, b, x, d, 1200, rfl, dx7, sd50, n3, fun H8 s8 => ⟨_, rfl, b, x, d, 1200, rfl, dx7.same s8, sd50, n3, fun H9 s9 => ⟨mInt d, rfl, ?_⟩⟩⟩
        have s79 := s7.trans (s8.trans s9)
        cases h1 : mInt d with
        | false =>
          have e : mNum l d = false := by cases d <;> first | rfl | cases h1
          refine iteF ⟨_, rfl, b, x, d, 1200, rfl, dx6.same s79, sd50, n3, fun H10 s10 => ⟨by show 3 ≤ sizeLine; decide, fun pp npp => ⟨(s79.trans s10).trans (Same.new npp), pp, ?_, rfl⟩⟩⟩
          rw [e]
          exact upd_same
        | true =>
          obtain ⟨i0, rfl⟩ : ∃ i, d = .int i := by cases d <;> first | exact ⟨_, rfl⟩ | cases h1
          cases dx6.intI
          exact iteT ⟨_, rfl, _, rfl, _, _, rfl, rfl, _, rfl, b, _, .int i0, 1200, rfl, dx6.same s79, sd50, n3, fun H10 s10 => ⟨by show 3 ≤ sizeLine; decide, fun pp npp => ⟨(s79.trans s10).trans (Same.new npp), pp, upd_same, rfl⟩⟩⟩
      rintro σ H8 ⟨s8, du, hdu, rfl⟩
      refine ⟨fun σ H9 => Same H6 H9 ∧ ∃ du, H9 du = some (.lst ((B5 l d).map V.bl)) ∧ σ = [some (.ref a), some (.ref b), some (.int (0 + (i : Int))), v3', some st, some (.ref p5), some (.int l), some x, some (.str d.shown), some (.ref du), v10, v11], ?_, ?_⟩
      · refine ⟨_, rfl, _, rfl, b, x, d, 1200, rfl, dx6.same s8, sd50, n3, fun H9 s9 => ⟨_, rfl, b, x, d, 1200, rfl, dx6.same (s8.trans s9), sd50, n3, fun H10 s10 => ⟨by show 2 ≤ sizeLine; decide, fun pp npp => ?_⟩⟩⟩
        have s1 := Same.new (o := HO.lst [.bl (mCart d), .bl (mStep d)]) npp
        have s81 := (s9.trans s10).trans s1
        refine ⟨du, pp, _, _, rfl, rfl, s81 _ _ hdu, upd_same, by show 3 + 2 ≤ sizeLine; decide, fun q nq => ?_⟩
        exact ⟨(s8.trans s81).trans (Same.new nq), q, upd_same, rfl⟩
      rintro σ H9 ⟨s9, du, hdu, rfl⟩
      have two : (2 : Nat) ≤ sizeLine := by decide
      refine ⟨2, rfl, by decide, by decide, for_range (n := 2) (fun _ σ H10 => Same H9 H10 ∧ ∃ v10 v11, σ = [some (.ref a), some (.ref b), some (.int (0 + (i : Int))), v3', some st, some (.ref p5), some (.int l), some x, some (.str d.shown), some (.ref du), v10, v11])
        ⟨Same.refl _, _, _, rfl⟩ ?_ ?_⟩
      · rintro q σ H10 hq' ⟨s10, w10, w11, rfl⟩
        have s610 := s9.trans s10
        refine ⟨fun σ H11 => Same H10 H11 ∧ ∃ fo u10, H11 fo = some (.lst ((B5 l d).map V.bl)) ∧ σ = [some (.ref a), some (.ref b), some (.int (0 + (i : Int))), v3', some st, some (.ref p5), some (.int l), some x, some (.str d.shown), some (.ref du), u10, some (.ref fo)], ?_, ?_⟩
        · refine ⟨_, rfl, b, x, d, 1200, rfl, dx6.same s610, sd50, n3, fun Ha sa => ⟨_, rfl, _, rfl, b, l, x, d, 1200, rfl, dx6.same (s610.trans sa), sd50, n3, fun Hb sb => ⟨_, rfl, b, x, d, 1200, rfl, dx6.same (s610.trans (sa.trans sb)), sd50, n3, fun Hc sc => ⟨_, rfl, b, x, d, 1200, rfl, dx6.same (s610.trans (sa.trans (sb.trans sc))), sd50, n3, fun Hd sdd => ⟨_, rfl, b, x, d, 1200, rfl, dx6.same (s610.trans (sa.trans (sb.trans (sc.trans sdd)))), sd50, n3, fun He se => ⟨by show 5 ≤ sizeLine; decide, fun pp npp => ?_⟩⟩⟩⟩⟩⟩
          exact ⟨(sa.trans (sb.trans (sc.trans (sdd.trans se)))).trans (Same.new npp), pp, _, upd_same, rfl⟩
        rintro σ H11 ⟨s11, fo, u10, hfo, rfl⟩
        have s611 := s610.trans s11
        refine ⟨_, rfl, _, rfl, b, x, d, rfl, M6.same s611, dx6.same s611, tx, two, fun p1 n1 => ⟨_, rfl, _, rfl, two, fun p2 n2 => ?_⟩⟩
        have t1 := Same.new (o := HO.lst [.ref fo, .str d.shown]) n1
        have t2 := Same.new (o := HO.lst [.ref du, .str d.shown]) n2
        have hdu' := ((s10.trans s11).trans (t1.trans t2)) _ _ hdu
        refine ⟨_, _, .list [.list ((B5 l d).map PyData.bool), .str d.shown], rfl, .lst (SqL.of (t2 _ _ upd_same)) (.cons (.lst (SqL.of ((t1.trans t2) _ _ hfo)) (bools_dp _)) (.cons (.str _) .nil)), .lst (SqL.of upd_same) (.cons (.lst (SqL.of hdu') (bools_dp _)) (.cons (.str _) .nil)), bools_fine rfl sd, true, rfl, ?_⟩
        exact iteF ⟨(s10.trans s11).trans (t1.trans t2), _, _, rfl⟩
      · rintro σ H10 ⟨s10, w10, w11, rfl⟩
        exact ⟨s9.trans s10, _, _, _, _, _, rfl⟩
    · rintro σ H7 ⟨s7, v7, v8, v9, v10, v11, rfl⟩
      exact ⟨g6.same s7, M6.same s7, _, _, _, _, _, _, _, _, _, _, rfl⟩
end
end K11

namespace K11
open PySem PySem.Spec PyProof.Rows L2 HK
theorem all_mk {P : Program} {w : World} {K : PySem.W.Frag} {h : Heap} {mg : Str → Option Value} {fa : Addr} {f1 f2 f3 f4 f5 f6 f8 f9 f10 f11 f12 f13 f14 f15 f16 f17 f18 f19 f20 f21 f99 : Addr}
    {od1 an1 : Option Addr} {sl1 : Array (Option Value)} {oc1 kV1 dc1 pm1 cd1 ct1 : Value}
    {od2 an2 : Option Addr} {sl2 : Array (Option Value)} {oc2 kV2 dc2 pm2 cd2 ct2 : Value}
    {od3 an3 : Option Addr} {sl3 : Array (Option Value)} {oc3 kV3 dc3 pm3 cd3 ct3 : Value}
    {od4 an4 : Option Addr} {sl4 : Array (Option Value)} {oc4 kV4 dc4 pm4 cd4 ct4 : Value}
    {od5 an5 : Option Addr} {sl5 : Array (Option Value)} {oc5 kV5 dc5 pm5 cd5 ct5 : Value}
    {od6 an6 : Option Addr} {sl6 : Array (Option Value)} {oc6 kV6 dc6 pm6 cd6 ct6 : Value}
    {od8 an8 : Option Addr} {sl8 : Array (Option Value)} {oc8 kV8 dc8 pm8 cd8 ct8 : Value}
    {od9 an9 : Option Addr} {sl9 : Array (Option Value)} {oc9 kV9 dc9 pm9 cd9 ct9 : Value}
    {od10 an10 : Option Addr} {sl10 : Array (Option Value)} {oc10 kV10 dc10 pm10 cd10 ct10 : Value}
    {od11 an11 : Option Addr} {sl11 : Array (Option Value)} {oc11 kV11 dc11 pm11 cd11 ct11 : Value}
    {od12 an12 : Option Addr} {sl12 : Array (Option Value)} {oc12 kV12 dc12 pm12 cd12 ct12 : Value}
    {od13 an13 : Option Addr} {sl13 : Array (Option Value)} {oc13 kV13 dc13 pm13 cd13 ct13 : Value}
    {od14 an14 : Option Addr} {sl14 : Array (Option Value)} {oc14 kV14 dc14 pm14 cd14 ct14 : Value}
    {od15 an15 : Option Addr} {sl15 : Array (Option Value)} {oc15 kV15 dc15 pm15 cd15 ct15 : Value}
    {od16 an16 : Option Addr} {sl16 : Array (Option Value)} {oc16 kV16 dc16 pm16 cd16 ct16 : Value}
    {od17 an17 : Option Addr} {sl17 : Array (Option Value)} {oc17 kV17 dc17 pm17 cd17 ct17 : Value}
    {od18 an18 : Option Addr} {sl18 : Array (Option Value)} {oc18 kV18 dc18 pm18 cd18 ct18 : Value}
    {od19 an19 : Option Addr} {sl19 : Array (Option Value)} {oc19 kV19 dc19 pm19 cd19 ct19 : Value}
    {od20 an20 : Option Addr} {sl20 : Array (Option Value)} {oc20 kV20 dc20 pm20 cd20 ct20 : Value}
    {od21 an21 : Option Addr} {sl21 : Array (Option Value)} {oc21 kV21 dc21 pm21 cd21 ct21 : Value}
    {od99 an99 : Option Addr} {sl99 : Array (Option Value)} {oc99 kV99 dc99 pm99 cd99 ct99 : Value}
    {tL : Tok}
    (X : K.In h) (G : h.Ns mainGlobals mg) (hfa : mg "law" = some (.ref fa))
    (a1 : PySem.W.nsIn K mainGlobals "is_integer" = some (some (.ref f1)))
    (l1 : K.lookup f1 = some ⟨oc1, od1, .func (PySem.W.fnOf "is_integer" "is_integer" (defArgs sInt) (defBody sInt) (defScope sInt) .none kV1 dc1 pm1 an1 cd1 ct1), sl1⟩)
    (c1 : PySem.W.codeIn K cd1 "is_integer" = true)
    (k1 : PySem.W.keepIn K (.ref f1) = true)
    (a2 : PySem.W.nsIn K mainGlobals "is_number" = some (some (.ref f2)))
    (l2 : K.lookup f2 = some ⟨oc2, od2, .func (PySem.W.fnOf "is_number" "is_number" (defArgs sNum) (defBody sNum) (defScope sNum) .none kV2 dc2 pm2 an2 cd2 ct2), sl2⟩)
    (c2 : PySem.W.codeIn K cd2 "is_number" = true)
    (k2 : PySem.W.keepIn K (.ref f2) = true)
    (a3 : PySem.W.nsIn K mainGlobals "is_kind" = some (some (.ref f3)))
    (l3 : K.lookup f3 = some ⟨oc3, od3, .func (PySem.W.fnOf "is_kind" "is_kind" (defArgs sKind) (defBody sKind) (defScope sKind) .none kV3 dc3 pm3 an3 cd3 ct3), sl3⟩)
    (c3 : PySem.W.codeIn K cd3 "is_kind" = true)
    (k3 : PySem.W.keepIn K (.ref f3) = true)
    (a4 : PySem.W.nsIn K mainGlobals "is_cart" = some (some (.ref f4)))
    (l4 : K.lookup f4 = some ⟨oc4, od4, .func (PySem.W.fnOf "is_cart" "is_cart" (defArgs sCart) (defBody sCart) (defScope sCart) .none kV4 dc4 pm4 an4 cd4 ct4), sl4⟩)
    (c4 : PySem.W.codeIn K cd4 "is_cart" = true)
    (k4 : PySem.W.keepIn K (.ref f4) = true)
    (a5 : PySem.W.nsIn K mainGlobals "has_two_steps" = some (some (.ref f5)))
    (l5 : K.lookup f5 = some ⟨oc5, od5, .func (PySem.W.fnOf "has_two_steps" "has_two_steps" (defArgs sTwo) (defBody sTwo) (defScope sTwo) .none kV5 dc5 pm5 an5 cd5 ct5), sl5⟩)
    (c5 : PySem.W.codeIn K cd5 "has_two_steps" = true)
    (k5 : PySem.W.keepIn K (.ref f5) = true)
    (a6 : PySem.W.nsIn K mainGlobals "is_step" = some (some (.ref f6)))
    (l6 : K.lookup f6 = some ⟨oc6, od6, .func (PySem.W.fnOf "is_step" "is_step" (defArgs sStep) (defBody sStep) (defScope sStep) .none kV6 dc6 pm6 an6 cd6 ct6), sl6⟩)
    (c6 : PySem.W.codeIn K cd6 "is_step" = true)
    (k6 : PySem.W.keepIn K (.ref f6) = true)
    (a8 : PySem.W.nsIn K mainGlobals "_law_bag" = some (some (.ref f8)))
    (l8 : K.lookup f8 = some ⟨oc8, od8, .func (PySem.W.fnOf "_law_bag" "_law_bag" (defArgs sBag) (defBody sBag) (defScope sBag) .none kV8 dc8 pm8 an8 cd8 ct8), sl8⟩)
    (c8 : PySem.W.codeIn K cd8 "_law_bag" = true)
    (k8 : PySem.W.keepIn K (.ref f8) = true)
    (a9 : PySem.W.nsIn K mainGlobals "_law_take" = some (some (.ref f9)))
    (l9 : K.lookup f9 = some ⟨oc9, od9, .func (PySem.W.fnOf "_law_take" "_law_take" (defArgs sTake) (defBody sTake) (defScope sTake) .none kV9 dc9 pm9 an9 cd9 ct9), sl9⟩)
    (c9 : PySem.W.codeIn K cd9 "_law_take" = true)
    (k9 : PySem.W.keepIn K (.ref f9) = true)
    (a10 : PySem.W.nsIn K mainGlobals "_law_alike" = some (some (.ref f10)))
    (l10 : K.lookup f10 = some ⟨oc10, od10, .func (PySem.W.fnOf "_law_alike" "_law_alike" (defArgs sAlike) (defBody sAlike) (defScope sAlike) .none kV10 dc10 pm10 an10 cd10 ct10), sl10⟩)
    (c10 : PySem.W.codeIn K cd10 "_law_alike" = true)
    (k10 : PySem.W.keepIn K (.ref f10) = true)
    (a11 : PySem.W.nsIn K mainGlobals "_law_one" = some (some (.ref f11)))
    (l11 : K.lookup f11 = some ⟨oc11, od11, .func (PySem.W.fnOf "_law_one" "_law_one" (defArgs sOne) (defBody sOne) (defScope sOne) .none kV11 dc11 pm11 an11 cd11 ct11), sl11⟩)
    (c11 : PySem.W.codeIn K cd11 "_law_one" = true)
    (k11 : PySem.W.keepIn K (.ref f11) = true)
    (a12 : PySem.W.nsIn K mainGlobals "_law_kinds" = some (some (.ref f12)))
    (l12 : K.lookup f12 = some ⟨oc12, od12, .func (PySem.W.fnOf "_law_kinds" "_law_kinds" (defArgs sKinds) (defBody sKinds) (defScope sKinds) .none kV12 dc12 pm12 an12 cd12 ct12), sl12⟩)
    (c12 : PySem.W.codeIn K cd12 "_law_kinds" = true)
    (k12 : PySem.W.keepIn K (.ref f12) = true)
    (a13 : PySem.W.nsIn K mainGlobals "_law_number" = some (some (.ref f13)))
    (l13 : K.lookup f13 = some ⟨oc13, od13, .func (PySem.W.fnOf "_law_number" "_law_number" (defArgs sLNum) (defBody sLNum) (defScope sLNum) .none kV13 dc13 pm13 an13 cd13 ct13), sl13⟩)
    (c13 : PySem.W.codeIn K cd13 "_law_number" = true)
    (k13 : PySem.W.keepIn K (.ref f13) = true)
    (a14 : PySem.W.nsIn K mainGlobals "_law_step_on" = some (some (.ref f14)))
    (l14 : K.lookup f14 = some ⟨oc14, od14, .func (PySem.W.fnOf "_law_step_on" "_law_step_on" (defArgs sStepOn) (defBody sStepOn) (defScope sStepOn) .none kV14 dc14 pm14 an14 cd14 ct14), sl14⟩)
    (c14 : PySem.W.codeIn K cd14 "_law_step_on" = true)
    (k14 : PySem.W.keepIn K (.ref f14) = true)
    (a15 : PySem.W.nsIn K mainGlobals "_law_is_int" = some (some (.ref f15)))
    (l15 : K.lookup f15 = some ⟨oc15, od15, .func (PySem.W.fnOf "_law_is_int" "_law_is_int" (defArgs sLInt) (defBody sLInt) (defScope sLInt) .none kV15 dc15 pm15 an15 cd15 ct15), sl15⟩)
    (c15 : PySem.W.codeIn K cd15 "_law_is_int" = true)
    (k15 : PySem.W.keepIn K (.ref f15) = true)
    (a16 : PySem.W.nsIn K mainGlobals "_law_is_kind" = some (some (.ref f16)))
    (l16 : K.lookup f16 = some ⟨oc16, od16, .func (PySem.W.fnOf "_law_is_kind" "_law_is_kind" (defArgs sLKind) (defBody sLKind) (defScope sLKind) .none kV16 dc16 pm16 an16 cd16 ct16), sl16⟩)
    (c16 : PySem.W.codeIn K cd16 "_law_is_kind" = true)
    (k16 : PySem.W.keepIn K (.ref f16) = true)
    (a17 : PySem.W.nsIn K mainGlobals "_law_is_cart" = some (some (.ref f17)))
    (l17 : K.lookup f17 = some ⟨oc17, od17, .func (PySem.W.fnOf "_law_is_cart" "_law_is_cart" (defArgs sLCart) (defBody sLCart) (defScope sLCart) .none kV17 dc17 pm17 an17 cd17 ct17), sl17⟩)
    (c17 : PySem.W.codeIn K cd17 "_law_is_cart" = true)
    (k17 : PySem.W.keepIn K (.ref f17) = true)
    (a18 : PySem.W.nsIn K mainGlobals "_law_is_step" = some (some (.ref f18)))
    (l18 : K.lookup f18 = some ⟨oc18, od18, .func (PySem.W.fnOf "_law_is_step" "_law_is_step" (defArgs sLStep) (defBody sLStep) (defScope sLStep) .none kV18 dc18 pm18 an18 cd18 ct18), sl18⟩)
    (c18 : PySem.W.codeIn K cd18 "_law_is_step" = true)
    (k18 : PySem.W.keepIn K (.ref f18) = true)
    (a19 : PySem.W.nsIn K mainGlobals "_law_odd_value" = some (some (.ref f19)))
    (l19 : K.lookup f19 = some ⟨oc19, od19, .func (PySem.W.fnOf "_law_odd_value" "_law_odd_value" (defArgs sOdd) (defBody sOdd) (defScope sOdd) .none kV19 dc19 pm19 an19 cd19 ct19), sl19⟩)
    (c19 : PySem.W.codeIn K cd19 "_law_odd_value" = true)
    (k19 : PySem.W.keepIn K (.ref f19) = true)
    (a20 : PySem.W.nsIn K mainGlobals "_law_bent" = some (some (.ref f20)))
    (l20 : K.lookup f20 = some ⟨oc20, od20, .func (PySem.W.fnOf "_law_bent" "_law_bent" (defArgs sBent) (defBody sBent) (defScope sBent) .none kV20 dc20 pm20 an20 cd20 ct20), sl20⟩)
    (c20 : PySem.W.codeIn K cd20 "_law_bent" = true)
    (k20 : PySem.W.keepIn K (.ref f20) = true)
    (a21 : PySem.W.nsIn K mainGlobals "_law_text" = some (some (.ref f21)))
    (l21 : K.lookup f21 = some ⟨oc21, od21, .func (PySem.W.fnOf "_law_text" "_law_text" (defArgs sText) (defBody sText) (defScope sText) .none kV21 dc21 pm21 an21 cd21 ct21), sl21⟩)
    (c21 : PySem.W.codeIn K cd21 "_law_text" = true)
    (k21 : PySem.W.keepIn K (.ref f21) = true)
    (a99 : PySem.W.nsIn K mainGlobals "law" = some (some (.ref f99)))
    (l99 : K.lookup f99 = some ⟨oc99, od99, .func (PySem.W.fnOf "law" "law" (defArgs sLaw) (defBody sLaw) (defScope sLaw) .none kV99 dc99 pm99 an99 cd99 ct99), sl99⟩)
    (c99 : PySem.W.codeIn K cd99 "law" = true)
    (k99 : PySem.W.keepIn K (.ref f99) = true)
    (aL : PySem.W.nsIn K mainGlobals "_LETTERS" = some (some (.str abc tL)))
    (z_abs : PySem.W.nsIn K mainGlobals "abs" = some none)
    (z_len : PySem.W.nsIn K mainGlobals "len" = some none)
    (z_int : PySem.W.nsIn K mainGlobals "int" = some none)
    (z_repr : PySem.W.nsIn K mainGlobals "repr" = some none)
    (z_range : PySem.W.nsIn K mainGlobals "range" = some none)
    (z_sorted : PySem.W.nsIn K mainGlobals "sorted" = some none)
    (z_min : PySem.W.nsIn K mainGlobals "min" = some none)
    (z_max : PySem.W.nsIn K mainGlobals "max" = some none)
    (z_isinstance : PySem.W.nsIn K mainGlobals "isinstance" = some none)
    (z_bool : PySem.W.nsIn K mainGlobals "bool" = some none)
    (z_str : PySem.W.nsIn K mainGlobals "str" = some none)
    (z_tuple : PySem.W.nsIn K mainGlobals "tuple" = some none)
    (z_list : PySem.W.nsIn K mainGlobals "list" = some none)
    (z_all : PySem.W.nsIn K mainGlobals "all" = some none)
    (sm : K.lookup sysModules = none) :
    K.lookup sysModules = none ∧ ∃ fd : FuncData, (∀ (s : Shared) (v : Value), BindsTo s fd ⟨[v], []⟩ [("_law_script", v)]) ∧ ∀ base : Heap, K.In base → base.Ns mainGlobals mg → FnG P w K mg base CX0 7 fa fd ["_law_script"] (spLaw K) := by
  have e := hfa.symm.trans (PySem.W.mg_of X G a99)
  cases e
  have N : ∀ {x : Str}, PySem.W.nsIn K mainGlobals x = some none → mg x = none := fun z => PySem.W.mg_none_of X G z
  have M : ∀ {x : Str} {v : Value}, PySem.W.nsIn K mainGlobals x = some (some v) → mg x = some v := fun z => PySem.W.mg_of X G z
  have J : TxJ mg := ⟨N z_isinstance, fun x hx => by
    simp only [List.mem_cons, List.not_mem_nil, or_false] at hx
    rcases hx with rfl | rfl | rfl | rfl | rfl | rfl | rfl
    · exact N z_int
    · exact N z_bool
    · exact N z_str
    · exact N z_tuple
    · exact N z_list
    · exact N z_len
    · exact N z_all, ⟨tL, M aL⟩⟩
  have F1 := fun_mk (st := sInt) l1 c1 k1
  have b1 := F1.binds (ps := ["thing"]) fun _ _ _ _ _ _ us hl => match us, hl with | [_], _ => rfl
  have F2 := fun_mk (st := sNum) l2 c2 k2
  have b2 := F2.binds (ps := ["least", "thing"]) fun _ _ _ _ _ _ us hl => match us, hl with | [_, _], _ => rfl
  have F3 := fun_mk (st := sKind) l3 c3 k3
  have b3 := F3.binds (ps := ["thing"]) fun _ _ _ _ _ _ us hl => match us, hl with | [_], _ => rfl
  have F4 := fun_mk (st := sCart) l4 c4 k4
  have b4 := F4.binds (ps := ["thing"]) fun _ _ _ _ _ _ us hl => match us, hl with | [_], _ => rfl
  have F5 := fun_mk (st := sTwo) l5 c5 k5
  have b5 := F5.binds (ps := ["cart"]) fun _ _ _ _ _ _ us hl => match us, hl with | [_], _ => rfl
  have F6 := fun_mk (st := sStep) l6 c6 k6
  have b6 := F6.binds (ps := ["thing"]) fun _ _ _ _ _ _ us hl => match us, hl with | [_], _ => rfl
  have F8 := fun_mk (st := sBag) l8 c8 k8
  have b8 := F8.binds (ps := ["_law_script"]) fun _ _ _ _ _ _ us hl => match us, hl with | [_], _ => rfl
  have F9 := fun_mk (st := sTake) l9 c9 k9
  have b9 := F9.binds (ps := ["_law_bag_here", "_law_many"]) fun _ _ _ _ _ _ us hl => match us, hl with | [_, _], _ => rfl
  have F10 := fun_mk (st := sAlike) l10 c10 k10
  have b10 := F10.binds (ps := ["_law_found", "_law_due"]) fun _ _ _ _ _ _ us hl => match us, hl with | [_, _], _ => rfl
  have F11 := fun_mk (st := sOne) l11 c11 k11
  have b11 := F11.binds (ps := ["_law_bag_here", "_law_things"]) fun _ _ _ _ _ _ us hl => match us, hl with | [_, _], _ => rfl
  have F12 := fun_mk (st := sKinds) l12 c12 k12
  have b12 := F12.binds (ps := ["_law_bag_here", "_law_many"]) fun _ _ _ _ _ _ us hl => match us, hl with | [_, _], _ => rfl
  have F13 := fun_mk (st := sLNum) l13 c13 k13
  have b13 := F13.binds (ps := ["_law_bag_here"]) fun _ _ _ _ _ _ us hl => match us, hl with | [_], _ => rfl
  have F14 := fun_mk (st := sStepOn) l14 c14 k14
  have b14 := F14.binds (ps := ["_law_bag_here", "_law_here", "_law_there"]) fun _ _ _ _ _ _ us hl => match us, hl with | [_, _, _], _ => rfl
  have F15 := fun_mk (st := sLInt) l15 c15 k15
  have b15 := F15.binds (ps := ["_law_thing"]) fun _ _ _ _ _ _ us hl => match us, hl with | [_], _ => rfl
  have F16 := fun_mk (st := sLKind) l16 c16 k16
  have b16 := F16.binds (ps := ["_law_thing"]) fun _ _ _ _ _ _ us hl => match us, hl with | [_], _ => rfl
  have F17 := fun_mk (st := sLCart) l17 c17 k17
  have b17 := F17.binds (ps := ["_law_thing"]) fun _ _ _ _ _ _ us hl => match us, hl with | [_], _ => rfl
  have F18 := fun_mk (st := sLStep) l18 c18 k18
  have b18 := F18.binds (ps := ["_law_thing"]) fun _ _ _ _ _ _ us hl => match us, hl with | [_], _ => rfl
  have F19 := fun_mk (st := sOdd) l19 c19 k19
  have b19 := F19.binds (ps := ["_law_bag_here"]) fun _ _ _ _ _ _ us hl => match us, hl with | [_], _ => rfl
  have F20 := fun_mk (st := sBent) l20 c20 k20
  have b20 := F20.binds (ps := ["_law_bag_here", "_law_thing"]) fun _ _ _ _ _ _ us hl => match us, hl with | [_, _], _ => rfl
  have F21 := fun_mk (st := sText) l21 c21 k21
  have b21 := F21.binds (ps := ["_law_bag_here"]) fun _ _ _ _ _ _ us hl => match us, hl with | [_], _ => rfl
  have F99 := fun_mk (st := sLaw) l99 c99 k99
  exact ⟨sm, _, fun s v => .of_eq rfl, fun base _ _ => ok_law F99
    { b := ⟨N z_abs, N z_len, N z_int⟩, k := ⟨N z_range, N z_sorted⟩, a := ⟨N z_repr⟩, j := J, m := ⟨N z_min, N z_max⟩,
      g1 := M a1, F1 := F1, b1 := b1, g2 := M a2, F2 := F2, b2 := b2, g3 := M a3, F3 := F3, b3 := b3, g4 := M a4, F4 := F4, b4 := b4, g5 := M a5, F5 := F5, b5 := b5, g6 := M a6, F6 := F6, b6 := b6, g8 := M a8, F8 := F8, b8 := b8, g9 := M a9, F9 := F9, b9 := b9, g10 := M a10, F10 := F10, b10 := b10, g11 := M a11, F11 := F11, b11 := b11, g12 := M a12, F12 := F12, b12 := b12, g13 := M a13, F13 := F13, b13 := b13, g14 := M a14, F14 := F14, b14 := b14, g15 := M a15, F15 := F15, b15 := b15, g16 := M a16, F16 := F16, b16 := b16, g17 := M a17, F17 := F17, b17 := b17, g18 := M a18, F18 := F18, b18 := b18, g19 := M a19, F19 := F19, b19 := b19, g20 := M a20, F20 := F20, b20 := b20, g21 := M a21, F21 := F21, b21 := b21 }⟩
end K11
open PySem PySem.W PyProof.Rows in
set_option maxRecDepth 100000 in
set_option maxHeartbeats 0 in
theorem PySem.Challenge.cw_hookcarts_k11_kinds_of_any_value_holds : PySem.Challenge.rw_hookcarts_k11_kinds_of_any_value.Holds := by
  w_on; o_law; k_head; (case hw => w_witness2)
  k_fill
  refine HK.walkM (l := PySem.Challenge.rw_hookcarts_k11_kinds_of_any_value) (n := 63) (k := 7) (x := "_law_script") (sp := K11.spLaw) rfl (by decide) rfl ⟨rfl, by decide, by decide⟩ (by decide +kernel) (fun w h Y => PySem.W.kIn_of Y) ?F (fun K H a ns hl _ M hS => ⟨a, ns, rfl, M, hS, hl, fun _ => rfl⟩)
  case F =>
    intro w mg fa h KX G hmg
    refine' K11.all_mk KX G hmg ?a1 ?l1 ?c1 ?k1 ?a2 ?l2 ?c2 ?k2 ?a3 ?l3 ?c3 ?k3 ?a4 ?l4 ?c4 ?k4 ?a5 ?l5 ?c5 ?k5 ?a6 ?l6 ?c6 ?k6 ?a8 ?l8 ?c8 ?k8 ?a9 ?l9 ?c9 ?k9 ?a10 ?l10 ?c10 ?k10 ?a11 ?l11 ?c11 ?k11 ?a12 ?l12 ?c12 ?k12 ?a13 ?l13 ?c13 ?k13 ?a14 ?l14 ?c14 ?k14 ?a15 ?l15 ?c15 ?k15 ?a16 ?l16 ?c16 ?k16 ?a17 ?l17 ?c17 ?k17 ?a18 ?l18 ?c18 ?k18 ?a19 ?l19 ?c19 ?k19 ?a20 ?l20 ?c20 ?k20 ?a21 ?l21 ?c21 ?k21 ?a99 ?l99 ?c99 ?k99 ?aL ?z_abs ?z_len ?z_int ?z_repr ?z_range ?z_sorted ?z_min ?z_max ?z_isinstance ?z_bool ?z_str ?z_tuple ?z_list ?z_all ?sm
    (case a1 => first | k_is | rfl | decide +kernel)
    (case l1 => first | k_is | rfl | decide +kernel)
    (case c1 => first | k_is | rfl | decide +kernel)
    (case k1 => first | k_is | rfl | decide +kernel)
    (case a2 => first | k_is | rfl | decide +kernel)
    (case l2 => first | k_is | rfl | decide +kernel)
    (case c2 => first | k_is | rfl | decide +kernel)
    (case k2 => first | k_is | rfl | decide +kernel)
    (case a3 => first | k_is | rfl | decide +kernel)
    (case l3 => first | k_is | rfl | decide +kernel)
    (case c3 => first | k_is | rfl | decide +kernel)
    (case k3 => first | k_is | rfl | decide +kernel)
    (case a4 => first | k_is | rfl | decide +kernel)
    (case l4 => first | k_is | rfl | decide +kernel)
    (case c4 => first | k_is | rfl | decide +kernel)
    (case k4 => first | k_is | rfl | decide +kernel)
    (case a5 => first | k_is | rfl | decide +kernel)
    (case l5 => first | k_is | rfl | decide +kernel)
    (case c5 => first | k_is | rfl | decide +kernel)
    (case k5 => first | k_is | rfl | decide +kernel)
    (case a6 => first | k_is | rfl | decide +kernel)
    (case l6 => first | k_is | rfl | decide +kernel)
    (case c6 => first | k_is | rfl | decide +kernel)
    (case k6 => first | k_is | rfl | decide +kernel)
    (case a8 => first | k_is | rfl | decide +kernel)
    (case l8 => first | k_is | rfl | decide +kernel)
    (case c8 => first | k_is | rfl | decide +kernel)
    (case k8 => first | k_is | rfl | decide +kernel)
    (case a9 => first | k_is | rfl | decide +kernel)
    (case l9 => first | k_is | rfl | decide +kernel)
    (case c9 => first | k_is | rfl | decide +kernel)
    (case k9 => first | k_is | rfl | decide +kernel)
    (case a10 => first | k_is | rfl | decide +kernel)
    (case l10 => first | k_is | rfl | decide +kernel)
    (case c10 => first | k_is | rfl | decide +kernel)
    (case k10 => first | k_is | rfl | decide +kernel)
    (case a11 => first | k_is | rfl | decide +kernel)
    (case l11 => first | k_is | rfl | decide +kernel)
    (case c11 => first | k_is | rfl | decide +kernel)
    (case k11 => first | k_is | rfl | decide +kernel)
    (case a12 => first | k_is | rfl | decide +kernel)
    (case l12 => first | k_is | rfl | decide +kernel)
    (case c12 => first | k_is | rfl | decide +kernel)
    (case k12 => first | k_is | rfl | decide +kernel)
    (case a13 => first | k_is | rfl | decide +kernel)
    (case l13 => first | k_is | rfl | decide +kernel)
    (case c13 => first | k_is | rfl | decide +kernel)
    (case k13 => first | k_is | rfl | decide +kernel)
    (case a14 => first | k_is | rfl | decide +kernel)
    (case l14 => first | k_is | rfl | decide +kernel)
    (case c14 => first | k_is | rfl | decide +kernel)
    (case k14 => first | k_is | rfl | decide +kernel)
    (case a15 => first | k_is | rfl | decide +kernel)
    (case l15 => first | k_is | rfl | decide +kernel)
    (case c15 => first | k_is | rfl | decide +kernel)
    (case k15 => first | k_is | rfl | decide +kernel)
    (case a16 => first | k_is | rfl | decide +kernel)
    (case l16 => first | k_is | rfl | decide +kernel)
    (case c16 => first | k_is | rfl | decide +kernel)
    (case k16 => first | k_is | rfl | decide +kernel)
    (case a17 => first | k_is | rfl | decide +kernel)
    (case l17 => first | k_is | rfl | decide +kernel)
    (case c17 => first | k_is | rfl | decide +kernel)
    (case k17 => first | k_is | rfl | decide +kernel)
    (case a18 => first | k_is | rfl | decide +kernel)
    (case l18 => first | k_is | rfl | decide +kernel)
    (case c18 => first | k_is | rfl | decide +kernel)
    (case k18 => first | k_is | rfl | decide +kernel)
    (case a19 => first | k_is | rfl | decide +kernel)
    (case l19 => first | k_is | rfl | decide +kernel)
    (case c19 => first | k_is | rfl | decide +kernel)
    (case k19 => first | k_is | rfl | decide +kernel)
    (case a20 => first | k_is | rfl | decide +kernel)
    (case l20 => first | k_is | rfl | decide +kernel)
    (case c20 => first | k_is | rfl | decide +kernel)
    (case k20 => first | k_is | rfl | decide +kernel)
    (case a21 => first | k_is | rfl | decide +kernel)
    (case l21 => first | k_is | rfl | decide +kernel)
    (case c21 => first | k_is | rfl | decide +kernel)
    (case k21 => first | k_is | rfl | decide +kernel)
    (case a99 => first | k_is | rfl | decide +kernel)
    (case l99 => first | k_is | rfl | decide +kernel)
    (case c99 => first | k_is | rfl | decide +kernel)
    (case k99 => first | k_is | rfl | decide +kernel)
    (case aL => first | k_is | rfl | decide +kernel)
    (case z_abs => first | k_is | rfl | decide +kernel)
    (case z_len => first | k_is | rfl | decide +kernel)
    (case z_int => first | k_is | rfl | decide +kernel)
    (case z_repr => first | k_is | rfl | decide +kernel)
    (case z_range => first | k_is | rfl | decide +kernel)
    (case z_sorted => first | k_is | rfl | decide +kernel)
    (case z_min => first | k_is | rfl | decide +kernel)
    (case z_max => first | k_is | rfl | decide +kernel)
    (case z_isinstance => first | k_is | rfl | decide +kernel)
    (case z_bool => first | k_is | rfl | decide +kernel)
    (case z_str => first | k_is | rfl | decide +kernel)
    (case z_tuple => first | k_is | rfl | decide +kernel)
    (case z_list => first | k_is | rfl | decide +kernel)
    (case z_all => first | k_is | rfl | decide +kernel)
    (case sm => first | k_is | rfl | decide +kernel)
#print axioms PySem.Challenge.cw_hookcarts_k11_kinds_of_any_value_holds
