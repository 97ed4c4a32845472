import PyProof.Rows.All
import Wide.All
import OpenK.AllK
import Wide.FinOn
import HandS.ForMost
import HandS.EndBits
import HandS.Wide
import HandS.Codes
import HandS.Defaults
import KE.KExcIs
import HandS.ForExc
import HandS.ExcField
import HandS.ExcIs
import PySem.Challenge.RW_hookcarts_k12_carts_and_steps
set_option Elab.async false
set_option linter.all false
set_option maxRecDepth 100000
set_option maxHeartbeats 4000000
namespace HK
open PySem PySem.Spec PyProof.Rows L2
/-! ### promises of defs that are called where no repr runs (they may call repr themselves) -/
/-- nothing is being shown around -/
abbrev Quiet (A : Around) : Prop := A.guards = some []
theorem quiet_deeper {A : Around} {env : Env} (h : Quiet A) : Quiet (A.deeper env) := by
  first
    | exact h
    | (unfold Quiet at *; simp [Around.deeper, h])
structure FnG (P : Program) (w : World) (K : PySem.W.Frag) (mg : Str → Option Value) (base : Heap) (CX : CXT) (k : Nat) (f : Addr) (fd : FuncData) (ps : List Str) (sp : Sp) : Prop where
  len : ∀ vs H Q E, sp vs H Q E → vs.length = ps.length
  go : ∀ (A : Around) (outer : List Env) (s : Shared) (H : Hp) (args : Args) (us : List Value) (vs : List V) (Q : VK) (E : XK), Quiet A → Room k A → Env0 P w K mg base A outer s H →
    BindsTo s fd args (ps.zip us) → Vals vs us → sp vs H Q E → codeAny (model P w) A (.call (.ref f) args) (CR CX outer P w H s Q E) s
section
variable {P : Program} {w : World} {K : PySem.W.Frag} {mg : Str → Option Value} {base : Heap} {CX : CXT} {k : Nat}
theorem FnG.of {f : Addr} {fd : FuncData} {ps : List Str} {sp : Sp} (F : FnOk P w K mg base CX k f fd ps sp) : FnG P w K mg base CX k f fd ps sp :=
  ⟨F.len, fun A outer s H args us vs Q E _ => F.run A outer s H args us vs Q E⟩
/-- a def of the text whose body may show things -/
theorem fnG {x qual : Str} {st : Stmt} {f : Addr} {fd : FuncData} {N ps : List Str} {sp : Sp} (F : Fun K x qual st f fd) (S : FnScope N ps (defScope st)) (len : ∀ vs H Q E, sp vs H Q E → vs.length = ps.length)
    (hbody : ∀ (cdv : Value) (A : Around) (outer : List Env) (s : Shared) (H : Hp) (vs : List V) (Q : VK) (E : XK), Quiet (A.deeper (envOfC qual (defScope st) s.heap.objs.size f cdv)) → Room k (A.deeper (envOfC qual (defScope st) s.heap.objs.size f cdv)) →
      sp vs H Q E → ∃ t, PSs (cxOf CX P w K mg base N qual (defScope st) f cdv A outer s H E).nox (defBody st) t ∧ t { nx := fun _ H' => Q .non H', rt := Q } (start N vs) H) :
    FnG P w K mg base CX (k + 1) f fd ps sp := by
  obtain ⟨oc, od, kV, doc, pm, an, cdv, ct, osl, rfl, lk, hcd⟩ := F.ex
  refine ⟨len, fun A outer s H args us vs Q E hq hr e0 hb r hs => ?_⟩
  have KX : K.In s.heap := e0.mod.kin.keeps fun _ _ e => (e0.bs _ _ e).1
  have hkind : ∀ y ∈ ps.zip us, (defScope st).names.lookup y.1 = some .local ∨
      ((defScope st).names.lookup y.1 = some .cell ∧ ((cellsFrom (s.heap.objs.size + 1) (defScope st).names []).lookup y.1).isSome = true) := by
    rintro ⟨n, v⟩ hy
    exact (S.par n (List.of_mem_zip hy).1).imp id fun q => ⟨q, PySem.W.cellsFrom_some _ _ _ (.inl q)⟩
  refine codeAny_call_function hr.depth (KX _ _ lk) rfl S.co S.gen rfl (PySem.W.codeRec_of KX hcd) (hb _ _ _ _ (wpAny_newFunctionEnv_cells S.kind hkind ?_))
  rintro env rfl s1 x
  have lim : s.heap.NoLimit := e0.mod.nolimit.keeps fun _ _ e => (e0.bs _ _ e).1
  obtain ⟨t, ht, q⟩ := hbody cdv A outer s H vs Q E (quiet_deeper hq) (hr.deeper _) hs
  have I := inv_start (CX := CX) (E := E) (cd := cdv) (f := f) (qual := qual) S hr.hd e0 (len _ _ _ _ hs) r x
  refine ⟨lim.keeps x.toInCall.keep, codeAny_func (wpAny_mono (ht.nox.run [] s1 (start N vs) H _ I q) (fun fl s' h => ?_) fun _ _ z => z)⟩
  cases fl with
  | ret u => exact let ⟨v, _, H', J, rv, q⟩ := h; ⟨v, H', J.os, J.bare, J.base, J.hok, rv, q⟩
  | next => exact let ⟨_, H', J, q⟩ := h; ⟨V.non, H', J.os, J.bare, J.base, J.hok, (rfl : Value.none = Value.none), q⟩
  | brk => exact let ⟨_, _, _, q⟩ := h; q.elim
  | cont => exact let ⟨_, _, _, q⟩ := h; q.elim
end
section
variable {X : Cx} {CX : CXT} {k : Nat} {f : Addr} {fd : FuncData} {ps : List Str} {sp : Sp} {E : XK} {x : Str} {p pos : Pos} {e : Expr} {es : List Expr} {t : TA}
/-- f(a, ..) of such a def, without defaults -/
theorem pe_callG (F : FnG X.prog X.w X.K X.mg X.base CX k f fd ps sp) (hq : Quiet X.A) (hr : Room k X.A) (hg : Gl X x) (hm : X.mg x = some (.ref f)) (hk : PySem.W.keepIn X.K (.ref f) = true) (hb : Binds X.K fd ps []) (hx : Passes CX X E) (ha : PA X (e :: es) t)
    (hdb : (x == ("__debug__" : Str)) = false := by decide) (he : starEach (e :: es) X.env = (false, eval e X.env) :: starEach es X.env := by rfl) (hpl : (backTo pos (starEach es X.env)).any (·.1) = false := by rfl) :
    PE X (.Call (.Name x p) (e :: es) [] pos) (tCall sp [] E t) := by
  refine ⟨fun pins s σ H Q I h => wpAny_Call_Name_kw (ld_glob I hg hm (PySem.W.callWith_K (h₀ := X.base) I.ok.mod.kin hk (thn (ha.run pos pins s σ H _ I h) fun us s1 z => ?_) he hpl) hdb)⟩
  obtain ⟨vs, H1, I1, r, q⟩ := z
  refine ⟨I1.kIn, wpAny_call (codeAny_mono (F.go X.A X.stack s1 H1 ⟨us, []⟩ us vs Q E hq hr I1.env0 ?_ r ?_) fun res s' h => ?_)⟩
  · have hl : (us ++ ([] : List Value)).length = ps.length := by
      rw [List.append_nil, ← r.length]
      exact F.len vs H1 Q E (by simpa using q)
    simpa using hb s1 us I1.kIn hl
  · simpa using q
  · match res, h with
    | .error _, h => exact hx pins σ H1 s1 _ s' I1 h
    | .ok (.ret _), h => exact I1.after h
    | .ok .next, h => exact False.elim h
    | .ok .brk, h => exact False.elim h
    | .ok .cont, h => exact False.elim h
end

/-! ### the end of a law whose def is called quietly -/
section
variable {P : Program} {w : World} {K : PySem.W.Frag} {mg mb : Str → Option Value} {k : Nat} {fa a : Addr} {fd : FuncData} {x : Str} {sp : Sp} {s₁ : Shared} {vs : List Value} {ns : List Int}
/-- what is told of the call's end -/
abbrev Ended (s₁ : Shared) (r : Result) (s' : Shared) : Prop := r = .ok (.ret (.bool true)) ∧ OldK s₁.heap s'.heap ∧ s'.os = s₁.os ∧ AllBare s'.gens
theorem core_end (KX : K.In s₁.heap) (hns : s₁.heap.Ns mainGlobals mg) (hb : s₁.heap.Ns builtinsNs mb) (hbb : ∀ y : Str, y ≠ "__name__" → mb y = bootBuiltins y) (hlim : s₁.heap.NoLimit) (hg : s₁.gens = #[])
    (ha : s₁.heap.get? a = some { cls := .type "list", data := .seq vs.toArray }) (hr : Room k callerA)
    (F : ∀ base : Heap, K.In base → base.Ns mainGlobals mg → FnG P w K mg base CX0 k fa fd [x] sp) (hbind : ∀ (s : Shared) (u : Value), BindsTo s fd ⟨[u], []⟩ [(x, u)])
    (H : Hp) (hO : Only H) (hS : sp [.ref a] H (fun v _ => v = .bl true) fun _ _ _ => False) (hok : HOk P w H s₁.heap) (hA : ∀ b u, H b = some u → b = a ∧ K.lookup a = none) :
    codeAny (model P w) callerA (.call (.ref fa) ⟨[.ref a], []⟩) (Ended s₁) s₁ := by
  have none_of : ∀ {b : Addr} {o : Obj}, s₁.heap.get? b = some o → (b = a → K.lookup a = none → False) → H b = none := fun {b o} _ n => by
    cases q : H b with
    | none => rfl
    | some u => exact (n (hA b u q).1 (hA b u q).2).elim
  have nsK : ∀ {b : Addr} {m : Str → Option Value}, s₁.heap.Ns b m → (hidT s₁.heap H).Ns b m := by
    rintro b m ⟨o, es, ep, e, d, r⟩
    refine ⟨o, es, ep, hidT_get e (none_of e fun z _ => ?_), d, r⟩
    subst z
    rw [ha] at e
    cases e
    cases (d : Data.seq vs.toArray _ = Data.dict es ep)
  have hKb : K.In (hidT s₁.heap H) := fun b o e => hidT_get (KX b o e) (none_of (KX b o e) fun z n => by
    subst z
    rw [n] at e
    cases e)
  have hM : Mod K mg (hidT s₁.heap H) := ⟨hKb, nsK hns, ⟨mb, nsK hb, hbb⟩, hlim.elim fun mc z => ⟨mc, nsK z.1, z.2⟩⟩
  have e0 : Env0 P w K mg (hidT s₁.heap H) callerA [] s₁ H := ⟨rfl, hM, fun _ _ e => of_hidT e, Nat.le_of_eq (hidT_size _ _), trivial, fun b hb => absurd hb (by show b ∉ ([] : List Addr); simp), hok, .of_eq hg⟩
  refine codeAny_mono ((F _ hKb (nsK hns)).go callerA [] s₁ H ⟨[.ref a], []⟩ [.ref a] [.ref a] _ _ rfl hr e0 (hbind s₁ (.ref a)) (.cons rfl .nil) hS) fun r s' h => ?_
  match r, h with
  | .error _, h => exact h.elim
  | .ok .next, h => exact False.elim h
  | .ok .brk, h => exact False.elim h
  | .ok .cont, h => exact False.elim h
  | .ok (.ret u), h =>
    obtain ⟨v, H', os, bare, un, hok', r', q⟩ := h
    obtain rfl : v = .bl true := q
    obtain rfl : u = Value.bool true := r'
    refine ⟨rfl, OldK.of_keep fun b o e => ?_, os, bare⟩
    rcases hO b with z | ⟨ob, xs, z⟩
    · exact un.keep b o e z (by show b ∉ ([] : List Addr); simp) (by simp)
    · have e1 := (hok b _ z).1
      have e2 := (hok' b _ (un.frzs b ob _ z)).1
      rw [e] at e1
      cases e1
      exact e2
theorem law_end (KX : K.In s₁.heap) (hns : s₁.heap.Ns mainGlobals mg) (hb : s₁.heap.Ns builtinsNs mb) (hbb : ∀ y : Str, y ≠ "__name__" → mb y = bootBuiltins y) (hlim : s₁.heap.NoLimit) (hg : s₁.gens = #[])
    (ha : s₁.heap.get? a = some { cls := .type "list", data := .seq vs.toArray }) (hi : IntsAre vs ns) (hl : ns.length ≤ sizeLine) (hr : Room k callerA)
    (F : ∀ base : Heap, K.In base → base.Ns mainGlobals mg → FnG P w K mg base CX0 k fa fd [x] sp) (hbind : ∀ (s : Shared) (u : Value), BindsTo s fd ⟨[u], []⟩ [(x, u)])
    (hsp : ∀ H : Hp, Only H → SqL K H a (ns.map V.int) → sp [.ref a] H (fun v _ => v = .bl true) fun _ _ _ => False) :
    codeAny (model P w) callerA (.call (.ref fa) ⟨[.ref a], []⟩) (Ended s₁) s₁ := by
  have rv := vals_ints hi
  cases hk : K.lookup a with
  | some o =>
    have e := (KX a o hk).symm.trans ha
    cases e
    exact core_end KX hns hb hbb hlim hg ha hr F hbind (fun _ => none) (fun _ => .inl rfl)
      (hsp _ (fun _ => .inl rfl) (.inr ⟨_, vs.toArray, _, hk, rfl, rfl, rfl, by rw [List.size_toArray, hi.length]; exact hl, by simpa using rv⟩)) (fun b u z => nomatch z) fun b u z => nomatch z
  | none =>
    let H0 : Hp := fun b => if b = a then some (.frz { cls := .type "list", data := .seq vs.toArray } (.lst (ns.map V.int))) else none
    have at_ : ∀ b, b = a → H0 b = some (.frz { cls := .type "list", data := .seq vs.toArray } (.lst (ns.map V.int))) := fun b z => if_pos z
    have off : ∀ b, b ≠ a → H0 b = none := fun b z => if_neg z
    have hO : Only H0 := fun b => (Classical.em (b = a)).elim (fun z => .inr ⟨_, _, at_ b z⟩) fun z => .inl (off b z)
    refine core_end KX hns hb hbb hlim hg ha hr F hbind H0 hO (hsp H0 hO (.inl (.inr ⟨_, at_ a rfl⟩))) (fun b u z => ?_) fun b u z => ⟨?_, hk⟩
    · by_cases hb : b = a
      · rw [at_ b hb] at z
        cases z
        subst hb
        exact ⟨ha, by rw [List.length_map]; exact hl, vs, _, rv, ha⟩
      · rw [off b hb] at z
        cases z
    · by_cases hb : b = a
      · exact hb
      · rw [off b hb] at z
        cases z
end
/-- the goal that k_head leaves, from the quiet promise of the law's def; the script's bits told -/
theorem walkG {l : PySem.W.OpenLaw} {n k : Nat} {q : Program} {loose : List Str} {XP : (Str → Option Value) → Heap → Prop} {YP : World → Heap → Prop} {d : DefRec} {K : Params → PySem.W.Frag} {sp : PySem.W.Frag → Sp} {x : Str}
    (hn : l.most = some n) (hn2 : n ≤ sizeLine) (hdf : d.params.defaults = []) (hr : Room k callerA) (hY : ∀ (w : World) (h : Heap), YP w h → (K w.params).In h)
    (F : ∀ (w : World) (mg : Str → Option Value) (fa : Addr) (h : Heap), (K w.params).In h → h.Ns mainGlobals mg → mg d.name = some (.ref fa) → ∃ fd : FuncData, (∀ (s : Shared) (u : Value), BindsTo s fd ⟨[u], []⟩ [(x, u)]) ∧
      ∀ base : Heap, (K w.params).In base → base.Ns mainGlobals mg → FnG l.prog w (K w.params) mg base CX0 k fa fd [x] (sp (K w.params)))
    (hsp : ∀ (K : PySem.W.Frag) (H : Hp) (a : Addr) (ns : List Int), ns.length ≤ n → (∀ z ∈ ns, Builtin.Int.intBits z ≤ 1048576) → Only H → SqL K H a (ns.map V.int) → sp K [.ref a] H (fun v _ => v = .bl true) fun _ _ _ => False) :
    PySem.W.WalkO q loose XP YP l.row.toRowW d [] (fun f vs => PySem.call f vs) := by
  refine Att.attach_callB hn hdf fun w s₀ s₁ mg mb fa o pm cd doc a vs ns G Y ho hd hcd hmg hobj hints hlen hbits hg => ?_
  obtain ⟨fd, hb, hF⟩ := F w mg fa _ (hY w _ Y) G.T.g hmg
  exact law_end (hY w _ Y) G.T.g G.T.b G.T.builtins G.T.nolimit hg hobj hints (Nat.le_trans hlen hn2) hr hF hb fun H hO hS => hsp _ H a ns hlen hbits hO hS
end HK

namespace HK
open PySem PySem.Spec PyProof.Rows L2
/-! ### max, min of two texts -/
theorem cmp_str_gt {prog : Program} {w : World} {A : Around} {P : Nat → Value → Prop} (val : Nat → Str) (hv : ∀ i v, P i v → ∃ t, v = .str (val i) t) : CmpOf prog w A .Gt P (fun i j => decide ((val j).cps.toList < (val i).cps.toList)) := by
  intro i j vi vj s Q E hi hj h
  obtain ⟨t, rfl⟩ := hv i vi hi
  obtain ⟨u, rfl⟩ := hv j vj hj
  exact richCompare_gives (op := .Gt) (typeIs_str s _ t) (typeIs_str s _ u) F.slot_str_gt F.entry_str_gt (F.args_str_gt_2 _ _) (gives_str_gt _ _ t u) (fun z => nomatch z) h
theorem cmp_str_lt {prog : Program} {w : World} {A : Around} {P : Nat → Value → Prop} (val : Nat → Str) (hv : ∀ i v, P i v → ∃ t, v = .str (val i) t) : CmpOf prog w A .Lt P (fun i j => decide ((val i).cps.toList < (val j).cps.toList)) := by
  intro i j vi vj s Q E hi hj h
  obtain ⟨t, rfl⟩ := hv i vi hi
  obtain ⟨u, rfl⟩ := hv j vj hj
  exact richCompare_gives (op := .Lt) (typeIs_str s _ t) (typeIs_str s _ u) F.slot_str_lt F.entry_str_lt (F.args_str_lt_2 _ _) (gives_str_lt _ _ t u) (fun z => nomatch z) h
def pairAt (a b : Str) (i : Nat) : Str := if i = 0 then a else b
theorem pair_at {a b : Str} {t u : Tok} : ∀ (i : Nat) (v : Value), #[Value.str a t, Value.str b u][i]? = some v → ∃ t', v = .str (pairAt a b i) t'
  | 0, v, h => ⟨t, by simpa [pairAt, eq_comm] using h⟩
  | 1, v, h => ⟨u, by simpa [pairAt, eq_comm] using h⟩
  | n + 2, v, h => by simp at h
section
variable {prog : Program} {w : World} {A : Around} {E : Value → Shared → Prop} {s : Shared} {a b : Str} {t u : Tok} {Q : Value → Shared → Prop}
theorem pair_best {x : Value} (bt : Nat → Nat → Bool) (h : #[Value.str a t, Value.str b u][argBest bt (2 - 1)]? = some x) : x = if bt 1 0 = true then Value.str b u else Value.str a t := by
  by_cases g : bt 1 0 = true
  · rw [if_pos g]
    have e : argBest bt (2 - 1) = 1 := by simp [argBest, g]
    rw [e] at h
    simpa [eq_comm] using h
  · rw [if_neg g]
    have e : argBest bt (2 - 1) = 0 := by simp [argBest, g]
    rw [e] at h
    simpa [eq_comm] using h
theorem strs_max (hh : A.handled = none) (h : ∀ h' tk, (∀ c o, s.heap.get? c = some o → h'.get? c = some o) → Q (if decide (a.cps.toList < b.cps.toList) = true then .str b u else .str a t) { s with heap := h', toks := tk }) :
    wpAny (model prog w) A (call (.builtin "max") [.str a t, .str b u]) Q E s := by
  have hT : (s.heap.push { cls := .type "tuple", data := .seq #[.str a t, .str b u] }).IsTuple s.heap.objs.size #[.str a t, .str b u] := ⟨_, Heap.get?_push_size _ rfl, rfl, 0, rfl⟩
  have z1 : (s.heap.push { cls := .type "tuple", data := .seq #[Value.str a t, .str b u] }).objs.size = s.heap.objs.size + 1 := Heap.size_push ..
  refine call_max_two (wpAny_pyIter_tuple hT ?_)
  refine ⟨_, [_, s.heap.objs.size], [_], 2, _, _, _, rfl, Walks.tuple (A := A.in1) hh _ s.heap.objs.size (by rw [z1]; exact Nat.ne_of_lt (Nat.lt_succ_self _)) #[.str a t, .str b u], ⟨⟨_, Heap.get?_push_size _ rfl, rfl, rfl⟩, hT.push _⟩, fun c hc => ?_, by decide, cmp_str_gt (pairAt a b) pair_at, fun v h' tk hP hk => ?_⟩
  · show c < ((s.heap.push _).push _).objs.size
    rw [Heap.size_push, z1]
    rcases List.mem_cons.mp hc with rfl | hc
    · rw [z1]; exact Nat.lt_succ_self _
    · rw [List.mem_singleton.mp hc]; exact Nat.lt_succ_of_lt (Nat.lt_succ_self _)
  · rw [pair_best _ hP]
    refine h h' tk fun c o e => hk c o (fun hm => ?_) (Heap.get?_push_of_some _ (Heap.get?_push_of_some _ e))
    have z := Heap.lt_size e
    rw [List.mem_singleton.mp hm, z1] at z
    exact Nat.lt_irrefl _ (Nat.lt_of_succ_lt z)
theorem strs_min (hh : A.handled = none) (h : ∀ h' tk, (∀ c o, s.heap.get? c = some o → h'.get? c = some o) → Q (if decide (b.cps.toList < a.cps.toList) = true then .str b u else .str a t) { s with heap := h', toks := tk }) :
    wpAny (model prog w) A (call (.builtin "min") [.str a t, .str b u]) Q E s := by
  have hT : (s.heap.push { cls := .type "tuple", data := .seq #[.str a t, .str b u] }).IsTuple s.heap.objs.size #[.str a t, .str b u] := ⟨_, Heap.get?_push_size _ rfl, rfl, 0, rfl⟩
  have z1 : (s.heap.push { cls := .type "tuple", data := .seq #[Value.str a t, .str b u] }).objs.size = s.heap.objs.size + 1 := Heap.size_push ..
  refine call_min_two (wpAny_pyIter_tuple hT ?_)
  refine ⟨_, [_, s.heap.objs.size], [_], 2, _, _, _, rfl, Walks.tuple (A := A.in1) hh _ s.heap.objs.size (by rw [z1]; exact Nat.ne_of_lt (Nat.lt_succ_self _)) #[.str a t, .str b u], ⟨⟨_, Heap.get?_push_size _ rfl, rfl, rfl⟩, hT.push _⟩, fun c hc => ?_, by decide, cmp_str_lt (pairAt a b) pair_at, fun v h' tk hP hk => ?_⟩
  · show c < ((s.heap.push _).push _).objs.size
    rw [Heap.size_push, z1]
    rcases List.mem_cons.mp hc with rfl | hc
    · rw [z1]; exact Nat.lt_succ_self _
    · rw [List.mem_singleton.mp hc]; exact Nat.lt_succ_of_lt (Nat.lt_succ_self _)
  · rw [pair_best _ hP]
    refine h h' tk fun c o e => hk c o (fun hm => ?_) (Heap.get?_push_of_some _ (Heap.get?_push_of_some _ e))
    have z := Heap.lt_size e
    rw [List.mem_singleton.mp hm, z1] at z
    exact Nat.lt_irrefl _ (Nat.lt_of_succ_lt z)
end
def maxS (a b : Str) : Str := if a.cps.toList < b.cps.toList then b else a
def minS (a b : Str) : Str := if b.cps.toList < a.cps.toList then b else a
section
variable {X : Cx}
theorem call_maxS (hc : X.calm = true) : CallR X (.builtin "max") (fun xs H Q => ∃ a b, xs = [.str a, .str b] ∧ Q (.str (maxS a b)) H) := by
  intro pins s σ H xs us Q I r h
  obtain ⟨a, b, rfl, q⟩ := h
  obtain ⟨u, v, rfl, ⟨t, rfl⟩, ⟨t', rfl⟩⟩ := vals2 r
  refine strs_max (I.ok.hd hc) fun h' tk k => ⟨_, H, I.kept k, ?_, q⟩
  unfold maxS
  by_cases g : a.cps.toList < b.cps.toList
  · rw [if_pos (decide_eq_true g), if_pos g]; exact ⟨_, rfl⟩
  · rw [decide_eq_false g, if_neg Bool.false_ne_true, if_neg g]; exact ⟨_, rfl⟩
theorem call_minS (hc : X.calm = true) : CallR X (.builtin "min") (fun xs H Q => ∃ a b, xs = [.str a, .str b] ∧ Q (.str (minS a b)) H) := by
  intro pins s σ H xs us Q I r h
  obtain ⟨a, b, rfl, q⟩ := h
  obtain ⟨u, v, rfl, ⟨t, rfl⟩, ⟨t', rfl⟩⟩ := vals2 r
  refine strs_min (I.ok.hd hc) fun h' tk k => ⟨_, H, I.kept k, ?_, q⟩
  unfold minS
  by_cases g : b.cps.toList < a.cps.toList
  · rw [if_pos (decide_eq_true g), if_pos g]; exact ⟨_, rfl⟩
  · rw [decide_eq_false g, if_neg Bool.false_ne_true, if_neg g]; exact ⟨_, rfl⟩
/-! ### orders of texts -/
theorem op_gtS : OpR X (compareOp .Gt) (fun x y H Q => ∃ i j, x = .str i ∧ y = .str j ∧ Q (.bl (decide (j.cps.toList < i.cps.toList))) H) := by
  intro pins s σ H x y v u Q I rx ry h
  obtain ⟨i, j, rfl, rfl, q⟩ := h
  obtain ⟨t, rfl⟩ := rx
  obtain ⟨t', rfl⟩ := ry
  exact compareOp_gives (op := .Gt) (typeIs_str s i t) (typeIs_str s j t') F.slot_str_gt F.entry_str_gt (F.args_str_gt_2 _ _) (gives_str_gt i j t t') (fun e => nomatch e) ⟨.bl _, H, I, rfl, q⟩
/-! ### repr of data -/
/-- data whose text has room -/
def Tells (d : PyData) : Prop := d.showable = true ∧ d.hasDict = false ∧ d.shown.length ≤ sizeLine ∧ d.depth ≤ 60
theorem call_reprD (hq : Quiet X.A) (hu : X.A.units + 64 < cLine) : CallR X (.builtin "repr") (fun xs H Q => ∃ x d, xs = [x] ∧ Dp X.K H x d ∧ Tells d ∧ Q (.str d.shown) H) := by
  intro pins s σ H xs us Q I r h
  obtain ⟨x, d, rfl, hd, ⟨t1, t2, t3, t4⟩, q⟩ := h
  obtain ⟨u, rfl, ru⟩ := vals1 r
  obtain ⟨as, rd⟩ := Dp.reads I d x u hd ru
  cases hd with
  | non =>
    obtain rfl : u = Value.none := ru
    exact PySem.P.repr_of_none ⟨.str "None", H, I.tok _, ⟨_, rfl⟩, q⟩
  | bl b =>
    obtain rfl : u = Value.bool b := ru
    refine PySem.P.repr_of_bool ⟨.str (if b then "True" else "False"), H, I.tok _, ⟨_, rfl⟩, ?_⟩
    simpa only [PyData.shown] using q
  | int i =>
    obtain ⟨t, rfl⟩ := ru
    refine PySem.P.repr_of_int (by simpa [PyData.showable] using t1) ⟨.str (toString i), H, I.tok _, ⟨_, rfl⟩, ?_⟩
    simpa only [PyData.shown] using q
  | str y =>
    obtain ⟨t, rfl⟩ := ru
    simp only [PyData.shown] at q t3
    exact PySem.P.repr_of_str ⟨.str _, H, I.tok _, ⟨_, rfl⟩, q⟩ t3
  | lst h1 h2 =>
    obtain rfl : u = Value.ref _ := ru
    exact repr_of_reads' rd t1 (PyData.noDict_hsm t2) hq (by omega) (fun _ _ e => e) (fun h' u tk k => ⟨.str _, H, I.kept k, ⟨_, rfl⟩, q⟩) t3
  | tup h1 h2 =>
    obtain rfl : u = Value.ref _ := ru
    exact repr_of_reads' rd t1 (PyData.noDict_hsm t2) hq (by omega) (fun _ _ e => e) (fun h' u tk k => ⟨.str _, H, I.kept k, ⟨_, rfl⟩, q⟩) t3
end
end HK

namespace HK
open PySem PySem.Spec PyProof.Rows L2
/-! ### heaps: all is kept, but what stands at b -/
def Keep (b : Addr) (H H' : Hp) : Prop := ∀ c o, c ≠ b → H c = some o → H' c = some o
theorem Keep.refl (b : Addr) (H : Hp) : Keep b H H := fun _ _ _ h => h
theorem Keep.trans {b : Addr} {H H1 H2 : Hp} (x : Keep b H H1) (y : Keep b H1 H2) : Keep b H H2 := fun c o n h => y c o n (x c o n h)
theorem Keep.of {b : Addr} {H H' : Hp} (x : Same H H') : Keep b H H' := fun c o _ h => x c o h
theorem Same.new {H : Hp} {p : Addr} {o : HO} (n : H p = none) : Same H (upd H p o) := fun c u h => by
  rw [upd_ne (ne_of_none h n)]
  exact h
/-- a thing that was new is changed -/
theorem Same.newer {H H1 : Hp} {p : Addr} {o : HO} (x : Same H H1) (n : H p = none) : Same H (upd H1 p o) := fun c u h => by
  rw [upd_ne (ne_of_none h n)]
  exact x c u h
theorem Keep.newer {b : Addr} {H H1 : Hp} {p : Addr} {o : HO} (x : Keep b H H1) (n : H p = none) : Keep b H (upd H1 p o) := fun c u nb h => by
  rw [upd_ne (ne_of_none h n)]
  exact x c u nb h
theorem Keep.free {b : Addr} {H H' : Hp} (x : Keep b H H') {l : Addr} (nb : l ≠ b) (h : H' l = none) : H l = none := by
  cases q : H l with
  | none => rfl
  | some o =>
    rw [x l o nb q] at h
    cases h
/-! ### data that stands apart from b -/
mutual
inductive D (b : Addr) (H : Hp) : V → PyData → Prop
  | non : D b H .non .none
  | bl (x : Bool) : D b H (.bl x) (.bool x)
  | int (i : Int) : D b H (.int i) (.int i)
  | str (x : Str) : D b H (.str x) (.str x)
  | lst {a : Addr} {xs : List V} {ds : List PyData} : a ≠ b → H a = some (.lst xs) → DAll b H xs ds → D b H (.ref a) (.list ds)
  | tup {a : Addr} {xs : List V} {ds : List PyData} : a ≠ b → H a = some (.tup xs) → DAll b H xs ds → D b H (.ref a) (.tuple ds)
inductive DAll (b : Addr) (H : Hp) : List V → List PyData → Prop
  | nil : DAll b H [] []
  | cons {v : V} {vs : List V} {d : PyData} {ds : List PyData} : D b H v d → DAll b H vs ds → DAll b H (v :: vs) (d :: ds)
end
section
variable {b : Addr} {H H' : Hp}
mutual
theorem D.keep (k : Keep b H H') : ∀ {v : V} (d : PyData), D b H v d → D b H' v d
  | _, .none, .non => .non
  | _, .bool _, .bl x => .bl x
  | _, .int _, .int i => .int i
  | _, .str _, .str x => .str x
  | _, .list ds, .lst n h r => .lst n (k _ _ n h) (DAll.keep k ds r)
  | _, .tuple ds, .tup n h r => .tup n (k _ _ n h) (DAll.keep k ds r)
theorem DAll.keep (k : Keep b H H') : ∀ {vs : List V} (ds : List PyData), DAll b H vs ds → DAll b H' vs ds
  | _, [], .nil => .nil
  | _, d :: ds, .cons x r => .cons (D.keep k d x) (DAll.keep k ds r)
end
mutual
theorem D.dp {K : PySem.W.Frag} : ∀ {v : V} (d : PyData), D b H v d → Dp K H v d
  | _, .none, .non => .non
  | _, .bool _, .bl x => .bl x
  | _, .int _, .int i => .int i
  | _, .str _, .str x => .str x
  | _, .list ds, .lst n h r => .lst (SqL.of h) (DAll.dp ds r)
  | _, .tuple ds, .tup n h r => .tup (SqT.of h) (DAll.dp ds r)
theorem DAll.dp {K : PySem.W.Frag} : ∀ {vs : List V} (ds : List PyData), DAll b H vs ds → DpAll K H vs ds
  | _, [], .nil => .nil
  | _, d :: ds, .cons x r => .cons (D.dp d x) (DAll.dp ds r)
end
theorem D.same {v : V} {d : PyData} (h : D b H v d) (s : Same H H') : D b H' v d := D.keep (Keep.of s) d h
theorem D.kept {v : V} {d : PyData} (h : D b H v d) (k : Keep b H H') : D b H' v d := D.keep k d h
theorem DAll.same {v : List V} {d : List PyData} (h : DAll b H v d) (s : Same H H') : DAll b H' v d := DAll.keep (Keep.of s) d h
theorem DAll.kept {v : List V} {d : List PyData} (h : DAll b H v d) (k : Keep b H H') : DAll b H' v d := DAll.keep k d h
theorem DAll.len : ∀ {vs : List V} {ds : List PyData}, DAll b H vs ds → vs.length = ds.length
  | _, _, .nil => rfl
  | _, _, .cons _ r => congrArg Nat.succ (DAll.len r)
theorem DAll.get : ∀ {vs : List V} {ds : List PyData} {i : Nat} {v : V}, DAll b H vs ds → vs[i]? = some v → ∃ d, ds[i]? = some d ∧ D b H v d
  | _, _, i, v, .nil, h => by simp at h
  | _, _, 0, v, .cons x r, h => by
    simp only [List.getElem?_cons_zero, Option.some.injEq] at h
    subst h
    exact ⟨_, rfl, x⟩
  | _, _, i + 1, v, .cons x r, h => DAll.get (i := i) r (by simpa using h)
theorem DAll.append : ∀ {vs ws : List V} {ds es : List PyData}, DAll b H vs ds → DAll b H ws es → DAll b H (vs ++ ws) (ds ++ es)
  | _, _, _, _, .nil, s => s
  | _, _, _, _, .cons x r, s => .cons x (DAll.append r s)
/-- new tuples and lists of data -/
theorem D.newT {p : Addr} {xs : List V} {ds : List PyData} (nb : p ≠ b) (n : H p = none) (h : DAll b H xs ds) : D b (upd H p (.tup xs)) (.ref p) (.tuple ds) := .tup nb upd_same (h.same (Same.new n))
theorem D.newL {p : Addr} {xs : List V} {ds : List PyData} (nb : p ≠ b) (n : H p = none) (h : DAll b H xs ds) : D b (upd H p (.lst xs)) (.ref p) (.list ds) := .lst nb upd_same (h.same (Same.new n))
end
/-! ### how much room the text of data wants -/
structure Sm (d : PyData) (n m : Nat) : Prop where
  lay : d.canLay0 = true
  sh : d.intsShort 40 = true
  ok : d.showable = true
  w : d.weight ≤ n
  dp : d.depth ≤ m
structure SmA (ds : List PyData) (n m : Nat) : Prop where
  lay : PyData.canLayAll0 ds = true
  sh : PyData.intsShortAll 40 ds = true
  ok : PyData.showableAll ds = true
  w : PyData.weightAll ds ≤ n
  dp : PyData.depthAll ds ≤ m
/-- a short text of signs -/
structure Sh (x : Str) (n : Nat) : Prop where
  len : x.cps.size ≤ n
  cps : PyData.strOk x = true
theorem Sm.str {x : Str} {n : Nat} (h : Sh x n) : Sm (.str x) n 0 := ⟨by simpa only [PyData.canLay0] using h.cps, rfl, rfl, h.len, by simp [PyData.depth]⟩
theorem Sm.bool (x : Bool) : Sm (.bool x) 0 0 := ⟨rfl, rfl, rfl, Nat.le_refl _, by simp [PyData.depth]⟩
theorem Sm.none : Sm .none 0 0 := ⟨rfl, rfl, rfl, Nat.le_refl _, by simp [PyData.depth]⟩
theorem SmA.nil : SmA [] 0 0 := ⟨rfl, rfl, rfl, Nat.le_refl _, by simp [PyData.depthAll]⟩
theorem SmA.mono {ds : List PyData} {n m i j : Nat} (h : SmA ds n i) (a : n ≤ m) (c : i ≤ j) : SmA ds m j := ⟨h.lay, h.sh, h.ok, Nat.le_trans h.w a, Nat.le_trans h.dp c⟩
theorem Sm.mono {d : PyData} {n m i j : Nat} (h : Sm d n i) (a : n ≤ m) (c : i ≤ j) : Sm d m j := ⟨h.lay, h.sh, h.ok, Nat.le_trans h.w a, Nat.le_trans h.dp c⟩
theorem SmA.cons {d : PyData} {ds : List PyData} {n m i j : Nat} (h : Sm d n i) (r : SmA ds m j) : SmA (d :: ds) (n + 1 + m) (max i j) :=
  ⟨by simp only [PyData.canLayAll0, h.lay, r.lay, Bool.and_self], by simp only [PyData.intsShortAll, h.sh, r.sh, Bool.and_self], by simp only [PyData.showableAll, h.ok, r.ok, Bool.and_self],
    by have := h.w; have := r.w; simp only [PyData.weightAll]; omega, by have := h.dp; have := r.dp; simp only [PyData.depthAll]; omega⟩
theorem Sm.tuple {ds : List PyData} {n m : Nat} (h : SmA ds n m) : Sm (.tuple ds) n (m + 1) := ⟨by simpa only [PyData.canLay0] using h.lay, by simpa only [PyData.intsShort] using h.sh, by simpa only [PyData.showable] using h.ok,
  by simpa only [PyData.weight] using h.w, by have := h.dp; simp only [PyData.depth]; omega⟩
theorem Sm.list {ds : List PyData} {n m : Nat} (h : SmA ds n m) : Sm (.list ds) n (m + 1) := ⟨by simpa only [PyData.canLay0] using h.lay, by simpa only [PyData.intsShort] using h.sh, by simpa only [PyData.showable] using h.ok,
  by simpa only [PyData.weight] using h.w, by have := h.dp; simp only [PyData.depth]; omega⟩
theorem Sm.tells {d : PyData} {n m : Nat} (h : Sm d n m) (a : n ≤ 300000) (c : m ≤ 60) : Tells d := by
  have z := PyData.shown_le 40 (by decide) d (PyData.leavesShort_of_canLay0 40 d h.lay h.sh)
  have w := h.w
  refine ⟨h.ok, PyData.hasDict_of_canLay d h.lay, ?_, Nat.le_trans h.dp c⟩
  rw [sizeLine_eq]
  omega
theorem Sm.shaped {d : PyData} {n m : Nat} (h : Sm d n m) (c : m ≤ 60) : SeqAt.shaped d = true := by
  unfold SeqAt.shaped
  rw [h.lay, decide_eq_true (Nat.le_trans h.dp (Nat.le_trans c (by decide)))]
  rfl
/-- data that may be compared and shown -/
def Fine (d : PyData) : Prop := Tells d ∧ SeqAt.shaped d = true ∧ d.canLay0 = true
theorem Sm.fine {d : PyData} {n m : Nat} (h : Sm d n m) (a : n ≤ 300000) (c : m ≤ 60) : Fine d := ⟨h.tells a c, h.shaped c, h.lay⟩
/-- o[i] of a list, by values (for o[i] op= e) -/
theorem get_list {X : Cx} : PGet X (rIxL X.K) := by
  intro pins s σ H o i ov iv Q I ro ri h
  obtain ⟨p, xs, k, z, rfl, rfl, hq, he, q⟩ := h
  cases ro
  obtain ⟨t, rfl⟩ := ri
  obtain ⟨its, r, pl, hz⟩ := I.list hq
  obtain ⟨j, h1, h2, h3, h4, h5⟩ := atI_get he
  obtain ⟨w, ew, rw'⟩ := r.get h2
  have hl := r.length
  have hn := line63
  have fin : EP X pins σ Q w s := ⟨z, H, I, rw', q⟩
  by_cases h0 : 0 ≤ k
  · have hj : k.toNat = j := Option.some.inj ((seqIndex_of h0 h5).symm.trans h1)
    exact wpAny_getItem_list pl.isList h0 (by omega) (by rw [hj]; simpa using ew) fin
  · have hj : (k + (its.toArray.size : Int)).toNat = j := by
      rw [List.size_toArray, ← hl]
      exact Option.some.inj ((seqIndex_neg (by omega) h4).symm.trans h1)
    exact wpAny_getItem_list_neg pl.isList (by omega) (by rw [List.size_toArray] <;> omega) (by omega) (by rw [hj]; simpa using ew) fin
end HK

namespace K12
open PySem PySem.Spec PyProof.Rows L2 HK
def top (i : Nat) : Stmt := PySem.Challenge.pw_hookcarts_k12_carts_and_steps.main.body.getD i (.Pass ⟨0, 0, 0, 0⟩)
abbrev sBag : Stmt := top 13
abbrev sTake : Stmt := top 14
abbrev sAlike : Stmt := top 15
abbrev sOne : Stmt := top 16
abbrev sKinds : Stmt := top 17
theorem yes_ok {σ : L2.St} {H : Hp} {A B : Hp → Prop} (h : A H) : tYes σ H (fun b H3 => if b = true then A H3 else B H3) := by
  show (if true = true then A H else B H)
  rw [if_pos rfl]
  exact h
theorem fm {x m : Int} (h : 0 < m) : 0 ≤ x.fmod m ∧ x.fmod m < m := by
  rw [Int.fmod_eq_emod_of_nonneg _ (by omega)]
  exact ⟨Int.emod_nonneg _ (by omega), Int.emod_lt_of_pos _ h⟩
theorem nz {b : Int} (h : b ≠ 0) : b ≠ 0 := h
/-! ### the bag of draws -/
def Bag (b : Addr) (H : Hp) : Prop := ∃ (r s i : Int) (l : Addr) (ns : List Int), H b = some (.lst [.int r, .int s, .int i, .ref l]) ∧ H l = some (.lst (ns.map V.int)) ∧ l ≠ b ∧ 0 ≤ r ∧ 0 ≤ s ∧ s < 2147483647 ∧ 0 ≤ i ∧ ∀ n ∈ ns, 0 ≤ n
theorem Bag.same {b : Addr} {H H' : Hp} (g : Bag b H) (s : Same H H') : Bag b H' := by
  obtain ⟨r, s', i, l, ns, h1, h2, z⟩ := g
  exact ⟨r, s', i, l, ns, s _ _ h1, s _ _ h2, z⟩
theorem Bag.ne {b p : Addr} {H : Hp} (g : Bag b H) (n : H p = none) : p ≠ b := by
  obtain ⟨r, s', i, l, ns, h1, h2, z⟩ := g
  exact (ne_of_none h1 n).symm
structure TxB (mg : Str → Option Value) : Prop where
  n_abs : mg "abs" = none
  n_len : mg "len" = none
  n_int : mg "int" = none
def spBag (K : PySem.W.Frag) : Sp := fun vs H Q _ => ∃ (a : Addr) (ns : List Int), vs = [.ref a] ∧ SqL K H a (ns.map V.int) ∧ ns.length ≤ 63 ∧ ∀ b H', Same H H' → H b = none → Bag b H' → Q (.ref b) H'
section
variable {P : Program} {w : World} {K : PySem.W.Frag} {mg : Str → Option Value} {base : Heap}
theorem cut_map {ns : List Int} {lo hi : Option Int} : ∃ ms : List Int, cutV (ns.map V.int) lo hi = ms.map V.int ∧ ms.length ≤ ns.length := by
  refine ⟨((ns.drop (HT.sIx (ns.map V.int).length 0 lo)).take (HT.sIx (ns.map V.int).length (ns.map V.int).length hi - HT.sIx (ns.map V.int).length 0 lo)), ?_, ?_⟩
  · unfold cutV
    rw [List.map_take, List.map_drop]
  · rw [List.length_take, List.length_drop]
    omega
theorem scBag : FnScope ["_law_script", "_law_cell"] ["_law_script"] (defScope sBag) := ⟨rfl, rfl, rfl, by decide +kernel, rfl, by decide +kernel, by decide +kernel⟩
theorem ok_bag {f : Addr} {fd : FuncData} (F : Fun K "_law_bag" "_law_bag" sBag f fd) (T : TxB mg) : FnOk P w K mg base CX0 1 f fd ["_law_script"] (spBag K) := by
  refine F.ok scBag (fun vs H Q E h => ?_) (fun cdv A outer s H vs Q E hr h => ?_)
  · obtain ⟨a, ns, rfl, _⟩ := h
    rfl
  · obtain ⟨a, ns, rfl, hS, hl, k⟩ := h
    have nd := scBag.nd
    refine ⟨_, (pss_one (ps_ret (pe_lst (pa_cons pe_int (pa_cons pe_int (pa_cons pe_int (pa_cons (pe_lc (own := [("_law_cell", 1)]) (g := (gName 1)) (tt := tYes) rfl nd (pi_list (pe_slice sl_list (pv 0) po_none (po_some pe_int))) (blkOk_by (N := ["_law_script", "_law_cell"]) (sc := defScope sBag) (by decide +kernel)) (fun _ _ _ _ _ => (pg_name (i := 1) nd rfl (Or.inl rfl))) (fun _ _ _ _ _ => pts_nil) (fun _ _ _ _ _ => (pe_callB call_abs (by rfl) T.n_abs (by decide +kernel) (pa_cons (pv 1) pa_nil)))) pa_nil))))))), ?_⟩
    refine ⟨_, rfl, 63, rfl, a, _, rfl, hS, fun p np => ?_⟩
    obtain ⟨ms, em, lm⟩ := cut_map (ns := ns) (lo := none) (hi := some 63)
    rw [em]
    refine ⟨p, rfl, ⟨_, SqL.of upd_same⟩, fun D nD => ?_⟩
    refine lc_list (K := K) (a := p) (xs := ms.map V.int) (fun i H' => Same H H' ∧ H' p = some (.lst (ms.map V.int)) ∧ ∃ acc : List Int, acc.length = i ∧ (∀ n ∈ acc, 0 ≤ n) ∧ H' D = some (.lst (acc.map V.int))) ?_ (fun i H' _ z => SqL.of z.2.1) ?_ ?_
    · exact ⟨Same.newer (Same.new np) ((Same.new np).free nD), by rw [upd_ne (ne_of_none upd_same nD), upd_same], [], rfl, fun n hn => (List.not_mem_nil hn).elim, upd_same⟩
    · rintro i x H' hi ⟨sm, hp', acc, la, nn, hD⟩
      obtain ⟨z, hz, rfl⟩ : ∃ z, ms[i]? = some z ∧ V.int z = x := by simpa [List.getElem?_map] using hi
      have li : i < ms.length := (List.getElem?_eq_some_iff.mp hz).1
      refine ⟨rfl, ?_⟩
      refine yes_ok ?_
      refine ⟨_, rfl, z, rfl, acc.map V.int, hD, small1000 (by rw [List.length_map]; omega), ?_⟩
      have npD : p ≠ D := ne_of_none upd_same nD
      refine ⟨Same.newer sm ((Same.new np).free nD), by rw [upd_ne npD]; exact hp', acc ++ [if z < 0 then -z else z], by simp [la], fun n hn => ?_, by rw [upd_same, List.map_append]; rfl⟩
      rcases List.mem_append.mp hn with hn | hn
      · exact nn n hn
      · rw [List.mem_singleton.mp hn]
        split <;> omega
    · rintro H' ⟨sm, hp', acc, la, nn, hD⟩
      refine ⟨by show 4 ≤ sizeLine; decide, fun b nb => k b _ (Same.newer sm (sm.free nb)) (sm.free nb) ?_⟩
      exact ⟨0, 1234567891, 0, D, acc, upd_same, by rw [upd_ne (ne_of_none hD nb)]; exact hD, ne_of_none hD nb, by decide, by decide, by decide, by decide, nn⟩
/-! ### a draw -/
def spTake : Sp := fun vs H Q _ => ∃ (b : Addr) (m : Int), vs = [.ref b, .int m] ∧ Bag b H ∧ 1 ≤ m ∧ m < 1073741824 ∧ ∀ r H', 0 ≤ r → r < m → Bag b H' → Keep b H H' → Q (.int r) H'
theorem scTake : FnScope ["_law_bag_here", "_law_many", "_law_cell", "_law_mixed", "_law_drawn", "_law_early", "_law_second"] ["_law_bag_here", "_law_many"] (defScope sTake) := ⟨rfl, rfl, rfl, by decide +kernel, rfl, by decide +kernel, by decide +kernel⟩
theorem ok_take {f : Addr} {fd : FuncData} (F : Fun K "_law_take" "_law_take" sTake f fd) (T : TxB mg) : FnOk P w K mg base CX0 1 f fd ["_law_bag_here", "_law_many"] spTake := by
  refine F.ok scTake (fun vs H Q E h => ?_) (fun cdv A outer s H vs Q E hr h => ?_)
  · obtain ⟨b, m, rfl, _⟩ := h
    rfl
  · obtain ⟨b, m, rfl, g, m1, m2, k⟩ := h
    have nd := scTake.nd
    refine ⟨_, (C8.pss_cut (ps_if (pt_cmpR op_eq (pe_ix ix_list (pv 0) pe_int (fun _ _ => rfl)) pe_int (nomark _))
      (pss_cons (ps_set (i := 2) nd rfl (Or.inl rfl) pe_int)
      (C8.pss_cut (ps_if (pt_cmpR op_lt (pe_ix ix_list (pv 0) pe_int (fun _ _ => rfl)) (pe_callB call_len_seq (by rfl) T.n_len (by decide +kernel) (pa_cons (pe_ix ix_list (pv 0) pe_int (fun _ _ => rfl)) pa_nil)) (nomark _))
        (pss_one (ps_set (i := 2) nd rfl (Or.inl rfl) (pe_ix ix_list (pe_ix ix_list (pv 0) pe_int (fun _ _ => rfl)) (pe_ix ix_list (pv 0) pe_int (fun _ _ => rfl)) (fun _ _ => rfl))))
         pss_nil)
      (pss_cons (ps_augS (pv 0) pe_int get_list pe_int ip_add set_list)
      (C8.pss_cut (ps_if (pt_cmpR op_ge (pv 2) pe_int (nomark _))
        (pss_one (ps_asg (pv 2) (pg_sub (pv 0) pe_int set_list)))
         pss_nil)
      (pss_cons (ps_set (i := 3) nd rfl (Or.inl rfl) (pe_op op_add (pe_op op_add (pe_op op_mul (pe_ix ix_list (pv 0) pe_int (fun _ _ => rfl)) pe_int) (pe_op op_modN (pe_callTy call_int1 (by rfl) T.n_int (by decide +kernel) (pa_cons (pv 2) pa_nil)) pe_int)) (pe_op op_mul pe_int (pe_ix ix_list (pv 0) pe_int (fun _ _ => rfl)))))
      (pss_one (ps_asg (pe_op op_modN (pe_callTy call_int1 (by rfl) T.n_int (by decide +kernel) (pa_cons (pv 3) pa_nil)) pe_int) (pg_sub (pv 0) pe_int set_list))))))))
       pss_nil)
    (pss_cons (ps_if (pt_cmpR op_gt (pe_ix ix_list (pv 0) pe_int (fun _ _ => rfl)) pe_int (nomark _))
      (pss_cons (ps_set (i := 4) nd rfl (Or.inl rfl) (pe_op op_modN (pe_callTy call_int1 (by rfl) T.n_int (by decide +kernel) (pa_cons (pe_ix ix_list (pv 0) pe_int (fun _ _ => rfl)) pa_nil)) (pv 1)))
      (pss_cons (ps_asg (pe_op op_fdivN (pe_ix ix_list (pv 0) pe_int (fun _ _ => rfl)) (pv 1)) (pg_sub (pv 0) pe_int set_list))
      (pss_one (ps_ret (pv 4)))))
       pss_nil)
    (pss_cons (ps_set (i := 5) nd rfl (Or.inl rfl) (pe_op op_modN (pe_callTy call_int1 (by rfl) T.n_int (by decide +kernel) (pa_cons (pe_op op_mul (pe_op op_add (pe_ix ix_list (pv 0) pe_int (fun _ _ => rfl)) pe_int) pe_int) pa_nil)) pe_int))
    (pss_cons (ps_set (i := 6) nd rfl (Or.inl rfl) (pe_op op_modN (pe_callTy call_int1 (by rfl) T.n_int (by decide +kernel) (pa_cons (pe_op op_mul (pe_op op_modN (pe_callTy call_int1 (by rfl) T.n_int (by decide +kernel) (pa_cons (pe_op op_mul (pv 5) (pv 5)) pa_nil)) pe_int) pe_int) pa_nil)) pe_int))
    (pss_one (ps_ret (pe_op op_modN (pe_callTy call_int1 (by rfl) T.n_int (by decide +kernel) (pa_cons (pe_op op_fdivN (pv 6) pe_int) pa_nil)) (pv 1)))))))), ?_⟩
    have g' := g
    obtain ⟨r, s0, i, l, ns, h1, h2, nl, r0, s1, s2, i0, nn⟩ := g'
    -- ahead of the second part: the bag again, with some r
    refine ⟨fun σ H1 => Bag b H1 ∧ Keep b H H1 ∧ ∃ c d, σ = [some (.ref b), some (.int m), c, d, none, none, none], ?_, ?_⟩
    · refine ⟨_, rfl, b, _, _, _, rfl, rfl, SqL.of h1, rfl, rfl, _, rfl, ?_⟩
      refine ite2 (fun z => ?_) (fun z => ?_)
      · refine ⟨fun σ H1 => H1 = H ∧ ∃ c : Int, 0 ≤ c ∧ σ = [some (.ref b), some (.int m), some (.int c), none, none, none, none], ?_, ?_⟩
        · refine ⟨_, rfl, b, _, _, _, rfl, rfl, SqL.of h1, rfl, _, rfl, b, _, _, _, rfl, rfl, SqL.of h1, rfl, l, _, rfl, .inl (SqL.of h2), _, _, rfl, rfl, _, rfl, ?_⟩
          refine ite2 (fun lt => ?_) (fun _ => ⟨rfl, 0, by decide, rfl⟩)
          have lt' : i < ((ns.map V.int).length : Int) := of_decide_eq_true lt
          rw [List.length_map] at lt'
          have hi : i.toNat < ns.length := by omega
          have hz : (ns.map V.int)[i.toNat]? = some (.int ns[i.toNat]) := by rw [List.getElem?_map, List.getElem?_eq_getElem hi]; rfl
          have hz' := atI_nat hz
          rw [Int.toNat_of_nonneg i0] at hz'
          refine ⟨_, rfl, b, _, _, _, rfl, rfl, SqL.of h1, rfl, _, rfl, b, _, _, _, rfl, rfl, SqL.of h1, rfl, l, _, _, _, rfl, rfl, SqL.of h2, hz', ?_⟩
          exact ⟨rfl, _, nn _ (List.getElem_mem hi), rfl⟩
        · rintro σ H1 ⟨rfl, c, c0, rfl⟩
          refine ⟨_, rfl, b, _, _, _, rfl, rfl, SqL.of h1, rfl, _, _, rfl, rfl, b, _, _, _, rfl, rfl, h1, rfl, ?_⟩
          refine ⟨fun σ H2 => ∃ r', 0 ≤ r' ∧ H2 = upd H1 b (.lst [.int r', .int s0, .int (i + 1), .ref l]) ∧ σ = [some (.ref b), some (.int m), some (.int c), none, none, none, none], ?_, ?_⟩
          · refine ⟨_, rfl, _, _, rfl, rfl, _, rfl, ?_⟩
            refine ite2 (fun _ => ?_) (fun _ => ⟨r, r0, rfl, rfl⟩)
            refine ⟨_, rfl, _, rfl, b, _, _, _, rfl, rfl, upd_same, rfl, c, c0, ?_, rfl⟩
            rw [upd_upd]
            rfl
          · rintro σ H2 ⟨r', r0', rfl, rfl⟩
            refine ⟨_, rfl, b, _, _, _, rfl, rfl, SqL.of upd_same, rfl, _, _, rfl, rfl, .inr ⟨by decide, by decide⟩, ?_⟩
            refine ⟨_, rfl, .inl ⟨_, rfl, _, _, rfl, rfl, nz (by decide), _, _, rfl, rfl, ?_⟩⟩
            refine ⟨_, rfl, b, _, _, _, rfl, rfl, SqL.of upd_same, rfl, _, _, rfl, rfl, .inl ⟨by decide, by decide⟩, _, _, rfl, rfl, ?_⟩
            refine ⟨_, rfl, .inl ⟨_, rfl, _, _, rfl, rfl, nz (by decide), _, rfl, b, _, _, _, rfl, rfl, upd_same, rfl, ?_⟩⟩
            rw [upd_upd]
            refine ⟨⟨r', _, i + 1, l, ns, upd_same, by rw [upd_ne nl]; exact h2, nl, r0', ?_, ?_, by omega, nn⟩, fun x o n q => by rw [upd_ne n]; exact q, _, _, rfl⟩
            · exact (fm (by decide)).1
            · exact (fm (by decide)).2
      · exact ⟨g, Keep.refl _ _, none, none, rfl⟩
    · rintro σ H1 ⟨g1, kp, c, d, rfl⟩
      obtain ⟨r, s0, i, l, ns, h1, h2, nl, r0, s1, s2, i0, nn⟩ := id g1
      refine ⟨_, rfl, b, _, _, _, rfl, rfl, SqL.of h1, rfl, _, _, rfl, rfl, _, rfl, ?_⟩
      refine ite2 (fun _ => ?_) (fun _ => ?_)
      · refine ⟨_, rfl, b, _, _, _, rfl, rfl, SqL.of h1, rfl, .inl ⟨_, rfl, _, rfl, _, _, rfl, rfl, nz (by omega), ?_⟩⟩
        refine ⟨_, rfl, b, _, _, _, rfl, rfl, SqL.of h1, rfl, _, rfl, _, _, rfl, rfl, ⟨by omega, by omega⟩, _, rfl, b, _, _, _, rfl, rfl, h1, rfl, _, rfl, ?_⟩
        refine k (r.fmod m) _ (fm (by omega)).1 (fm (by omega)).2 ?_ fun x o n q => by rw [upd_ne n]; exact kp x o n q
        refine ⟨_, s0, i, l, ns, upd_same, by rw [upd_ne nl]; exact h2, nl, ?_, s1, s2, i0, nn⟩
        rw [Int.fdiv_eq_ediv_of_nonneg _ (by omega)]
        exact Int.ediv_nonneg r0 (by omega)
      · refine ⟨_, rfl, b, _, _, _, rfl, rfl, SqL.of h1, rfl, _, _, rfl, rfl, _, _, rfl, rfl, .inr ⟨by decide, by decide⟩, .inl ⟨_, rfl, _, _, rfl, rfl, nz (by decide), ?_⟩⟩
        have he' := fm (x := (s0 + 1) * 39373) (m := 1000000007) (by decide)
        have big : (2 : Int) ^ 64 = 18446744073709551616 := by decide
        refine ⟨_, rfl, _, rfl, _, _, rfl, rfl, .inl ⟨by rw [big]; omega, by rw [big]; omega⟩, .inl ⟨_, rfl, _, _, rfl, rfl, nz (by decide), _, _, rfl, rfl, .inr ⟨by decide, by decide⟩, .inl ⟨_, rfl, _, _, rfl, rfl, nz (by decide), ?_⟩⟩⟩
        refine ⟨_, rfl, _, _, rfl, rfl, ⟨by decide, by decide⟩, .inl ⟨_, rfl, _, rfl, _, _, rfl, rfl, nz (by omega), ?_⟩⟩
        exact k _ _ (fm (by omega)).1 (fm (by omega)).2 g1 kp
/-! ### one of several -/
def spOne : Sp := fun vs H Q _ => ∃ (b a : Addr) (xs : List V), vs = [.ref b, .ref a] ∧ Bag b H ∧ a ≠ b ∧ H a = some (.lst xs) ∧ 1 ≤ xs.length ∧ xs.length < 1073741824 ∧ ∀ (i : Nat) (v : V) H', xs[i]? = some v → Bag b H' → Keep b H H' → Q v H'
theorem scOne : FnScope ["_law_bag_here", "_law_things"] ["_law_bag_here", "_law_things"] (defScope sOne) := ⟨rfl, rfl, rfl, by decide +kernel, rfl, by decide +kernel, by decide +kernel⟩
theorem ok_one {f fT : Addr} {fd fdT : FuncData} (F : Fun K "_law_one" "_law_one" sOne f fd) (T : TxB mg) (gT : mg "_law_take" = some (.ref fT)) (FT : Fun K "_law_take" "_law_take" sTake fT fdT) (bT : Binds K fdT ["_law_bag_here", "_law_many"] []) :
    FnOk P w K mg base CX0 2 f fd ["_law_bag_here", "_law_things"] spOne := by
  have GT : FnOk P w K mg base CX0 1 fT fdT _ spTake := ok_take FT T
  refine F.ok scOne (fun vs H Q E h => ?_) (fun cdv A outer s H vs Q E hr h => ?_)
  · obtain ⟨b, a, xs, rfl, _⟩ := h
    rfl
  · obtain ⟨b, a, xs, rfl, g, nab, hx, l1, l2, k⟩ := h
    refine ⟨_, (pss_one (ps_ret (pe_ix ix_list (pv 1) (pe_call GT hr rfl gT FT.kp bT .nil pass0 (pa_cons (pv 0) (pa_cons (pe_callB call_len_seq (by rfl) T.n_len (by decide +kernel) (pa_cons (pv 1) pa_nil)) pa_nil))) (fun _ _ => rfl)))), ?_⟩
    refine ⟨_, rfl, _, rfl, _, rfl, a, _, rfl, .inl (SqL.of hx), b, _, rfl, g, by omega, by omega, fun r H' r0 r1 g' kp => ?_⟩
    have hi : r.toNat < xs.length := by omega
    have hz := atI_nat (List.getElem?_eq_getElem hi)
    rw [Int.toNat_of_nonneg r0] at hz
    exact ⟨a, _, _, _, rfl, rfl, SqL.of (kp _ _ nab hx), hz, k _ _ _ (List.getElem?_eq_getElem hi) g' kp⟩
/-! ### alike -/
structure TxA (mg : Str → Option Value) : Prop where
  n_repr : mg "repr" = none
def spAlike (K : PySem.W.Frag) : Sp := fun vs H Q _ => ∃ (x y : V) (d : PyData), vs = [x, y] ∧ Dp K H x d ∧ Dp K H y d ∧ Fine d ∧ Q (.bl true) H
theorem scAlike : FnScope ["_law_found", "_law_due"] ["_law_found", "_law_due"] (defScope sAlike) := ⟨rfl, rfl, rfl, by decide +kernel, rfl, by decide +kernel, by decide +kernel⟩
theorem ok_alike {f : Addr} {fd : FuncData} (F : Fun K "_law_alike" "_law_alike" sAlike f fd) (T : TxA mg) : FnG P w K mg base CX0 1 f fd ["_law_found", "_law_due"] (spAlike K) := by
  refine fnG F scAlike (fun vs H Q E h => ?_) (fun cdv A outer s H vs Q E hq hr h => ?_)
  · obtain ⟨x, y, d, rfl, _⟩ := h
    rfl
  · obtain ⟨x, y, d, rfl, hx, hy, ⟨ht, hs, hl⟩, k⟩ := h
    refine ⟨_, (pss_one (ps_ret (pe_and (pe_cmpR (op_eqD hr.units) (pv 0) (pv 1) (nomark _)) (pe_one (pe_cmpR op_eq (pe_callB (call_reprD hq hr.units) (by rfl) T.n_repr (by decide +kernel) (pa_cons (pv 0) pa_nil)) (pe_callB (call_reprD hq hr.units) (by rfl) T.n_repr (by decide +kernel) (pa_cons (pv 1) pa_nil)) (nomark _)))))), ?_⟩
    refine ⟨_, rfl, _, rfl, d, d, hx, hy, hs, hs, true, congrArg V.bl (SeqAt.eqv_refl d hl), ?_⟩
    refine iteT ⟨_, rfl, x, d, rfl, hx, ht, _, rfl, y, d, rfl, hy, ht, rfl, ?_⟩
    have e : V.bl (decide (V.str d.shown = V.str d.shown)) = V.bl true := by rw [decide_eq_true rfl]
    show Q (V.bl (decide (V.str d.shown = V.str d.shown))) H
    rw [e]
    exact k
/-! ### kinds -/
structure TxK (mg : Str → Option Value) : Prop where
  n_range : mg "range" = none
  n_sorted : mg "sorted" = none
structure KindS (k : Str) : Prop where
  lo : 1 ≤ k.cps.size
  hi : k.cps.size ≤ 8
  let' : ∀ c ∈ k.cps.toList, 97 ≤ c ∧ c ≤ 122
def spKinds : Sp := fun vs H Q _ => ∃ (b : Addr) (n : Int), vs = [.ref b, .int n] ∧ Bag b H ∧ 1 ≤ n ∧ n ≤ 8 ∧ ∀ (ks : List Str) p H', (ks.length : Int) = n → (∀ k ∈ ks, KindS k) → H p = none → H' p = some (.lst (ks.map V.str)) → Bag b H' → Keep b H H' → Q (.ref p) H'
def menu : List Str := ["a", "aa", "b", "ab", "ba", "z", "zz", "hook", "end", "zzzzzzzz", "true", "mm"]
def abc8 : List Str := ["a", "b", "c", "d", "e", "f", "g", "h"]
def isKindS (k : Str) : Bool := decide (1 ≤ k.cps.size) && decide (k.cps.size ≤ 8) && k.cps.toList.all fun c => decide (97 ≤ c) && decide (c ≤ 122)
theorem kind_by {k : Str} (h : isKindS k = true) : KindS k := by
  unfold isKindS at h
  simp only [Bool.and_eq_true, decide_eq_true_eq, List.all_eq_true] at h
  exact ⟨h.1.1, h.1.2, h.2⟩
theorem kinds_by {l : List Str} (h : l.all isKindS = true) : ∀ k ∈ l, KindS k := fun k hk => kind_by (List.all_eq_true.mp h k hk)
theorem menu_kinds : ∀ k ∈ menu ++ menu, KindS k := kinds_by (by decide +kernel)
theorem abc8_kinds : ∀ k ∈ abc8, KindS k := kinds_by (by decide +kernel)
def cutG {α : Type} (l : List α) (lo hi : Option Int) : List α := (l.drop (HT.sIx l.length 0 lo)).take (HT.sIx l.length l.length hi - HT.sIx l.length 0 lo)
theorem cut_str (l : List Str) (lo hi : Option Int) : cutV (l.map V.str) lo hi = (cutG l lo hi).map V.str := by
  unfold cutV cutG
  rw [List.map_take, List.map_drop, List.length_map]
theorem cutG_mem {α : Type} {l : List α} {lo hi : Option Int} : ∀ x ∈ cutG l lo hi, x ∈ l := fun x hx => List.mem_of_mem_drop (List.mem_of_mem_take hx)
theorem cutG_len {α : Type} {l : List α} {lo hi : Int} (h0 : 0 ≤ lo) (h1 : lo ≤ hi) (h2 : hi ≤ (l.length : Int)) : ((cutG l (some lo) (some hi)).length : Int) = hi - lo ∧ ∀ x ∈ cutG l (some lo) (some hi), x ∈ l := by
  refine ⟨?_, cutG_mem⟩
  obtain ⟨a, rfl⟩ := Int.eq_ofNat_of_zero_le h0
  obtain ⟨c, rfl⟩ := Int.eq_ofNat_of_zero_le (Int.le_trans h0 h1)
  unfold cutG
  rw [HT.sIx_nat, HT.sIx_nat, List.length_take, List.length_drop]
  omega
theorem cutG_len0 {α : Type} {l : List α} {hi : Int} (h0 : 0 ≤ hi) (h2 : hi ≤ (l.length : Int)) : ((cutG l none (some hi)).length : Int) = hi ∧ ∀ x ∈ cutG l none (some hi), x ∈ l := by
  refine ⟨?_, cutG_mem⟩
  obtain ⟨c, rfl⟩ := Int.eq_ofNat_of_zero_le h0
  unfold cutG
  rw [HT.sIx_nat, HT.sIx_none, List.length_take, List.length_drop]
  omega
theorem stem_ok {r : Int} (h0 : 0 ≤ r) (h1 : r < 3) : (cutS (Str.ofString "xq") none (some r)).cps.size ≤ 2 ∧ ∀ c ∈ (cutS (Str.ofString "xq") none (some r)).cps.toList, 97 ≤ c ∧ c ≤ 122 := by
  have e : r = 0 ∨ r = 1 ∨ r = 2 := by omega
  rcases e with rfl | rfl | rfl
  · exact ⟨by decide +kernel, by decide +kernel⟩
  · exact ⟨by decide +kernel, by decide +kernel⟩
  · exact ⟨by decide +kernel, by decide +kernel⟩
theorem letters_all : ("abcdefghijklmnopqrstuvwxyz" : Str).cps.toList.length = 26 ∧ ∀ c ∈ ("abcdefghijklmnopqrstuvwxyz" : Str).cps.toList, 97 ≤ c ∧ c ≤ 122 := ⟨by decide +kernel, by decide +kernel⟩
theorem letter_at {i : Int} (h0 : 0 ≤ i) (h1 : i < 26) : ∃ c, atI ("abcdefghijklmnopqrstuvwxyz" : Str).cps.toList i = some c ∧ 97 ≤ c ∧ c ≤ 122 := by
  have hi : i.toNat < ("abcdefghijklmnopqrstuvwxyz" : Str).cps.toList.length := by rw [letters_all.1]; omega
  have hz := atI_nat (List.getElem?_eq_getElem hi)
  rw [Int.toNat_of_nonneg h0] at hz
  exact ⟨_, hz, letters_all.2 _ (List.getElem_mem hi)⟩
theorem scKinds : FnScope ["_law_bag_here", "_law_many", "_law_way", "_law_turn", "_law_menu", "_law_stem", "_law_k"] ["_law_bag_here", "_law_many"] (defScope sKinds) := ⟨rfl, rfl, rfl, by decide +kernel, rfl, by decide +kernel, by decide +kernel⟩
theorem ok_kinds {f fT : Addr} {fd fdT : FuncData} (F : Fun K "_law_kinds" "_law_kinds" sKinds f fd) (T : TxB mg) (TK : TxK mg) (gT : mg "_law_take" = some (.ref fT)) (FT : Fun K "_law_take" "_law_take" sTake fT fdT) (bT : Binds K fdT ["_law_bag_here", "_law_many"] []) :
    FnOk P w K mg base CX0 2 f fd ["_law_bag_here", "_law_many"] spKinds := by
  have GT : FnOk P w K mg base CX0 1 fT fdT _ spTake := ok_take FT T
  refine F.ok scKinds (fun vs H Q E h => ?_) (fun cdv A outer s H vs Q E hr h => ?_)
  · obtain ⟨b, n, rfl, _⟩ := h
    rfl
  · obtain ⟨b, n, rfl, g, n1, n8, k⟩ := h
    have nd := scKinds.nd
    refine ⟨_, (pss_cons (ps_asg (pe_tup (pa_cons (pe_call GT hr rfl gT FT.kp bT .nil pass0 (pa_cons (pv 0) (pa_cons pe_int pa_nil))) (pa_cons (pe_call GT hr rfl gT FT.kp bT .nil pass0 (pa_cons (pv 0) (pa_cons pe_int pa_nil))) pa_nil))) (pg_tup (by rfl) (pgs_cons (pg_name (i := 2) nd rfl (Or.inl rfl)) (pgs_cons (pg_name (i := 3) nd rfl (Or.inr rfl)) pgs_nil))))
    (C8.pss_cut (ps_set (i := 4) nd rfl (Or.inl rfl) (pe_lst (pa_cons pe_str (pa_cons pe_str (pa_cons pe_str (pa_cons pe_str (pa_cons pe_str (pa_cons pe_str (pa_cons pe_str (pa_cons pe_str (pa_cons pe_str (pa_cons pe_str (pa_cons pe_str (pa_cons pe_str pa_nil))))))))))))))
    (pss_cons (ps_if (pt_cmpR op_eq (pv 2) pe_int (nomark _))
      (pss_one (ps_ret (pe_callB cr_sortedS (by rfl) TK.n_sorted (by decide +kernel) (pa_cons (pe_slice sl_list (pe_op op_cat (pv 4) (pv 4)) (po_some (pv 3)) (po_some (pe_op op_add (pv 3) (pv 1)))) pa_nil))))
       pss_nil)
    (pss_cons (ps_if (pt_cmpR op_eq (pv 2) pe_int (nomark _))
      (pss_one (ps_ret (pe_slice sl_list (pe_lst (pa_cons pe_str (pa_cons pe_str (pa_cons pe_str (pa_cons pe_str (pa_cons pe_str (pa_cons pe_str (pa_cons pe_str (pa_cons pe_str pa_nil))))))))) po_none (po_some (pv 1)))))
       pss_nil)
    (pss_cons (ps_set (i := 5) nd rfl (Or.inr rfl) (pe_slice sl_str pe_str po_none (po_some (pe_call GT hr rfl gT FT.kp bT .nil pass0 (pa_cons (pv 0) (pa_cons pe_int pa_nil))))))
    (pss_one (ps_ret (pe_callB cr_sortedS (by rfl) TK.n_sorted (by decide +kernel) (pa_cons (pe_lc (own := [("_law_k", 6)]) (g := (gName 6)) (tt := tYes) rfl nd (pi_range1 (by rfl) TK.n_range (pa_cons (pv 1) pa_nil)) (blkOk_by (N := ["_law_bag_here", "_law_many", "_law_way", "_law_turn", "_law_menu", "_law_stem", "_law_k"]) (sc := defScope sKinds) (by decide +kernel)) (fun _ _ _ _ _ => (pg_name (i := 6) nd rfl (Or.inl rfl))) (fun _ _ _ _ _ => pts_nil) (fun _ _ _ _ _ => (pe_op op_add_str (pv 5) (pe_ix ix_str pe_str (pe_op op_modN (pe_callTy call_int1 (by rfl) T.n_int (by decide +kernel) (pa_cons (pe_op op_add (pe_op op_mul pe_int (pv 3)) (pe_op op_mul pe_int (pv 6))) pa_nil)) pe_int) (fun _ _ => rfl))))) pa_nil))))))))), ?_⟩
    refine ⟨_, rfl, b, 4, rfl, g, by decide, by decide, fun way H1 w0 w1 g1 k1 => ?_⟩
    refine ⟨_, rfl, b, 12, rfl, g1, by decide, by decide, fun turn H2 t0 t1 g2 k2 => ?_⟩
    refine ⟨by show 2 ≤ sizeLine; decide, fun t nt => ⟨t, _, rfl, SqT.of upd_same, rfl, _, _, rfl, _, _, rfl, rfl, ?_⟩⟩
    refine ⟨fun σ H3 => ∃ me, H3 me = some (.lst (menu.map V.str)) ∧ Bag b H3 ∧ Keep b H H3 ∧ σ = [some (.ref b), some (.int n), some (.int way), some (.int turn), some (.ref me), none, none], ?_, ?_⟩
    · refine ⟨by show 12 ≤ sizeLine; decide, fun me nme => ⟨me, upd_same, ?_, ?_, rfl⟩⟩
      · exact g2.same (Same.newer (Same.new nt) ((Same.new nt).free nme))
      · exact (k1.trans k2).trans (Keep.of (Same.newer (Same.new nt) ((Same.new nt).free nme)))
    rintro σ H3 ⟨me, hme, g3, k3, rfl⟩
    have room : (24 : Nat) ≤ sizeLine := by decide
    refine ⟨_, rfl, rfl, _, rfl, ?_⟩
    refine ite2 (fun _ => ?_) (fun _ => ?_)
    · refine ⟨_, rfl, _, rfl, me, me, _, _, rfl, rfl, hme, hme, (by show 12 + 12 ≤ sizeLine; decide), fun p np => ?_⟩
      refine ⟨_, rfl, turn, rfl, _, rfl, _, rfl, _, _, rfl, rfl, _, rfl, p, _, rfl, SqL.of upd_same, fun q nq => ?_⟩
      rw [← List.map_append, cut_str]
      obtain ⟨cl, cm⟩ := cutG_len (l := menu ++ menu) (lo := turn) (hi := turn + n) t0 (by omega) (by show turn + n ≤ (24 : Int); omega)
      refine ⟨q, _, rfl, SqL.of upd_same, (by omega), fun ys z perm srt nz => ?_⟩
      have s1 : Same H3 (upd (upd H3 p (HO.lst (List.map V.str (menu ++ menu)))) q (HO.lst (List.map V.str (cutG (menu ++ menu) (some turn) (some (turn + n)))))) := Same.newer (Same.new np) ((Same.new np).free nq)
      have s2 := Same.newer (o := HO.lst (ys.map V.str)) s1 (s1.free nz)
      exact k ys z _ (by have e := perm.length_eq; omega) (fun y hy => menu_kinds y (cm y (perm.mem_iff.mp hy))) (k3.free (g3.ne (s1.free nz)) (s1.free nz)) upd_same (g3.same s2) (k3.trans (Keep.of s2))
    · refine ⟨_, rfl, rfl, _, rfl, ?_⟩
      refine ite2 (fun _ => ?_) (fun _ => ?_)
      · refine ⟨by show 8 ≤ sizeLine; decide, fun p np => ?_⟩
        refine ⟨_, rfl, n, rfl, p, abc8.map V.str, rfl, SqL.of upd_same, fun q nq => ?_⟩
        rw [cut_str]
        obtain ⟨cl, cm⟩ := cutG_len0 (l := abc8) (hi := n) (by omega) (by show n ≤ (8 : Int); omega)
        have s1 : Same H3 (upd (upd H3 p (HO.lst (List.map V.str abc8))) q (HO.lst (List.map V.str (cutG abc8 none (some n))))) := Same.newer (Same.new np) ((Same.new np).free nq)
        have fq := (Same.new np).free nq
        exact k _ q _ cl (fun y hy => abc8_kinds y (cm y hy)) (k3.free (g3.ne fq) fq) upd_same (g3.same s1) (k3.trans (Keep.of s1))
      · refine ⟨_, rfl, b, 3, rfl, g3, by decide, by decide, fun r H4 r0 r1 g4 k4 => ⟨r, rfl, _, rfl, by decide, ?_⟩⟩
        have k5 := k3.trans k4
        obtain ⟨z1, z2⟩ := stem_ok r0 r1
        generalize cutS (Str.ofString "xq") none (some r) = stem at z1 z2 ⊢
        refine ⟨_, rfl, n, rfl, (by omega), (by omega), fun D nD => ?_⟩
        refine lc_range (lo := 0) (n := n.toNat) (fun i H' => Same H4 H' ∧ ∃ acc : List Str, acc.length = i ∧ (∀ y ∈ acc, KindS y) ∧ H' D = some (.lst (acc.map V.str))) ⟨Same.new nD, [], rfl, fun _ h => (List.not_mem_nil h).elim, upd_same⟩ ?_ ?_
        · rintro i H' hi ⟨sm, acc, la, ka, hD⟩
          refine ⟨rfl, yes_ok ?_⟩
          obtain ⟨c, hc, c1, c2⟩ := letter_at (fm (x := 2 * turn + 3 * (0 + (i : Int))) (m := 26) (by decide)).1 (fm (by decide)).2
          refine ⟨_, rfl, _, rfl, _, _, rfl, rfl, .inl ⟨by decide, by decide⟩, _, rfl, _, _, rfl, rfl, .inl ⟨by decide, by decide⟩, _, _, rfl, rfl, .inl ⟨_, rfl, _, _, rfl, rfl, nz (by decide), ?_⟩⟩
          refine ⟨_, _, c, rfl, rfl, (by show 26 ≤ sizeLine; decide), hc, _, _, rfl, rfl, ?_, acc.map V.str, hD, small1000 (by rw [List.length_map]; omega), ?_⟩
          · show stem.cps.size + 1 ≤ sizeLine
            have : (3 : Nat) ≤ sizeLine := by decide
            omega
          · refine ⟨Same.newer sm nD, acc ++ [stem ++ ⟨#[c]⟩], by rw [List.length_append, la]; rfl, fun y hy => ?_, by rw [upd_same, List.map_append]; rfl⟩
            rcases List.mem_append.mp hy with hy | hy
            · exact ka y hy
            · rw [List.mem_singleton.mp hy]
              have e : (stem ++ (⟨#[c]⟩ : Str)).cps = stem.cps ++ #[c] := rfl
              refine ⟨?_, ?_, fun d hd => ?_⟩
              · rw [e, Array.size_append]; show 1 ≤ _ + 1; omega
              · rw [e, Array.size_append]; show _ + 1 ≤ 8; omega
              · rw [e, Array.toList_append] at hd
                rcases List.mem_append.mp hd with hd | hd
                · exact z2 d hd
                · rw [List.mem_singleton.mp hd]
                  exact ⟨c1, c2⟩
        · rintro H' ⟨sm, acc, la, ka, hD⟩
          refine ⟨D, acc, rfl, SqL.of hD, by omega, fun ys z perm srt nz => ?_⟩
          have s2 := Same.newer (o := HO.lst (ys.map V.str)) sm (sm.free nz)
          have fz := sm.free nz
          exact k ys z _ (by have e := perm.length_eq; omega) (fun y hy => ka y (perm.mem_iff.mp hy)) (k5.free (g4.ne fz) fz) upd_same (g4.same s2) (k5.trans (Keep.of s2))
end
end K12

namespace K12
open PySem PySem.Spec PyProof.Rows L2 HK
abbrev sTwo : Stmt := top 4
abbrev sCart : Stmt := top 6
abbrev sSteps : Stmt := top 7
abbrev sBegin : Stmt := top 8
abbrev sEnd : Stmt := top 9
abbrev sAbout : Stmt := top 10
abbrev sCouple : Stmt := top 11
abbrev sLBegin : Stmt := top 18
abbrev sLEnd : Stmt := top 19
abbrev sLSteps : Stmt := top 20
abbrev sHeard : Stmt := top 21
abbrev sLaw : Stmt := top 22
/-! ### carts and steps -/
structure Cart where
  f : Str
  k : Str
  t : Bool
def dCart (c : Cart) : PyData := .tuple [.str c.f, .str c.k, .bool c.t]
def dStep (s : Cart × Bool) : PyData := .tuple [dCart s.1, .bool s.2]
def two (c : Cart) : Bool := c.t && !decide (c.f = c.k)
def steps (c : Cart) : List (Cart × Bool) := if two c then [(c, false), (c, true)] else [(c, false)]
def beg (s : Cart × Bool) : Str := if s.2 then s.1.k else s.1.f
def fin (s : Cart × Bool) : Str := if s.2 then s.1.f else s.1.k
def On (b : Addr) (H : Hp) : Prop := ∃ o, H b = some o
theorem On.ne {b p : Addr} {H : Hp} (g : On b H) (n : H p = none) : p ≠ b := by
  obtain ⟨o, h⟩ := g
  exact (ne_of_none h n).symm
theorem On.same {b : Addr} {H H' : Hp} (g : On b H) (s : Same H H') : On b H' := by
  obtain ⟨o, h⟩ := g
  exact ⟨o, s _ _ h⟩
theorem Bag.on {b : Addr} {H : Hp} (g : Bag b H) : On b H := by
  obtain ⟨r, s', i, l, ns, h1, z⟩ := g
  exact ⟨_, h1⟩
theorem D.tupI {b : Addr} {H : Hp} {v : V} {ds : List PyData} (h : D b H v (.tuple ds)) : ∃ a xs, v = .ref a ∧ a ≠ b ∧ H a = some (.tup xs) ∧ DAll b H xs ds := by
  cases h with
  | tup n e r => exact ⟨_, _, rfl, n, e, r⟩
theorem D.lstI {b : Addr} {H : Hp} {v : V} {ds : List PyData} (h : D b H v (.list ds)) : ∃ a xs, v = .ref a ∧ a ≠ b ∧ H a = some (.lst xs) ∧ DAll b H xs ds := by
  cases h with
  | lst n e r => exact ⟨_, _, rfl, n, e, r⟩
theorem cartI {b : Addr} {H : Hp} {v : V} {c : Cart} (h : D b H v (dCart c)) : ∃ a, v = .ref a ∧ a ≠ b ∧ H a = some (.tup [.str c.f, .str c.k, .bl c.t]) := by
  obtain ⟨a, xs, rfl, n, e, r⟩ := D.tupI h
  cases r with
  | cons h1 r =>
    cases r with
    | cons h2 r =>
      cases r with
      | cons h3 r =>
        cases r
        cases h1
        cases h2
        cases h3
        exact ⟨a, rfl, n, e⟩
theorem stepI {b : Addr} {H : Hp} {v : V} {s : Cart × Bool} (h : D b H v (dStep s)) : ∃ a x, v = .ref a ∧ a ≠ b ∧ H a = some (.tup [x, .bl s.2]) ∧ D b H x (dCart s.1) := by
  obtain ⟨a, xs, rfl, n, e, r⟩ := D.tupI h
  cases r with
  | cons h1 r =>
    cases r with
    | cons h2 r =>
      cases r
      cases h2
      exact ⟨a, _, rfl, n, e, h1⟩
section
variable {P : Program} {w : World} {K : PySem.W.Frag} {mg : Str → Option Value} {base : Heap}
def spTwo : Sp := fun vs H Q _ => ∃ (b : Addr) (x : V) (c : Cart), vs = [x] ∧ D b H x (dCart c) ∧ Q (.bl (two c)) H
theorem scTwo : FnScope ["cart", "front", "back", "turns"] ["cart"] (defScope sTwo) := ⟨rfl, rfl, rfl, by decide +kernel, rfl, by decide +kernel, by decide +kernel⟩
theorem ok_two {f : Addr} {fd : FuncData} (F : Fun K "has_two_steps" "has_two_steps" sTwo f fd) : FnOk P w K mg base CX0 1 f fd ["cart"] spTwo := by
  refine F.ok scTwo (fun vs H Q E h => ?_) (fun cdv A outer s H vs Q E hr h => ?_)
  · obtain ⟨b, x, c, rfl, _⟩ := h
    rfl
  · obtain ⟨b, x, c, rfl, hx, k⟩ := h
    obtain ⟨a, rfl, n, e⟩ := cartI hx
    have nd := scTwo.nd
    refine ⟨_, (pss_cons (ps_asg (pv 0) (pg_tup (by rfl) (pgs_cons (pg_name (i := 1) nd rfl (Or.inl rfl)) (pgs_cons (pg_name (i := 2) nd rfl (Or.inl rfl)) (pgs_cons (pg_name (i := 3) nd rfl (Or.inl rfl)) pgs_nil)))))
      (pss_one (ps_ret (pe_and (pv 3) (pe_one (pe_cmpR op_ne (pv 1) (pv 2) (nomark _))))))), ?_⟩
    refine ⟨_, rfl, a, _, rfl, SqT.of e, rfl, _, _, rfl, _, _, rfl, _, _, rfl, rfl, ?_⟩
    refine ⟨_, rfl, c.t, rfl, ?_⟩
    have e2 : two c = (c.t && !decide (c.f = c.k)) := rfl
    rw [e2] at k
    cases ht : c.t with
    | false =>
      rw [ht] at k
      exact iteF k
    | true =>
      rw [ht] at k
      refine iteT ⟨_, rfl, _, rfl, rfl, ?_⟩
      have e3 : decide (V.str c.f = V.str c.k) = decide (c.f = c.k) := by
        by_cases z : c.f = c.k
        · rw [decide_eq_true z, decide_eq_true (congrArg V.str z)]
        · rw [decide_eq_false z, decide_eq_false (fun q => z (V.str.inj q))]
      show Q (V.bl (!decide (V.str c.f = V.str c.k))) H
      rw [e3]
      exact k
/-! begin_of, end_of and the law's own -/
def spBeg : Sp := fun vs H Q _ => ∃ (b : Addr) (x : V) (s : Cart × Bool), vs = [x] ∧ D b H x (dStep s) ∧ Q (.str (beg s)) H
def spFin : Sp := fun vs H Q _ => ∃ (b : Addr) (x : V) (s : Cart × Bool), vs = [x] ∧ D b H x (dStep s) ∧ Q (.str (fin s)) H
theorem scBegin : FnScope ["step", "cart", "turned"] ["step"] (defScope sBegin) := ⟨rfl, rfl, rfl, by decide +kernel, rfl, by decide +kernel, by decide +kernel⟩
theorem ok_begin {f : Addr} {fd : FuncData} (F : Fun K "begin_of" "begin_of" sBegin f fd) : FnOk P w K mg base CX0 1 f fd ["step"] spBeg := by
  refine F.ok scBegin (fun vs H Q E h => ?_) (fun cdv A outer s H vs Q E hr h => ?_)
  · obtain ⟨b, x, c, rfl, _⟩ := h
    rfl
  · obtain ⟨b, x, st, rfl, hx, k⟩ := h
    obtain ⟨a, y, rfl, n, e, hy⟩ := stepI hx
    obtain ⟨c, rfl, nc, ec⟩ := cartI hy
    have nd := scBegin.nd
    refine ⟨_, (pss_cons (ps_asg (pv 0) (pg_tup (by rfl) (pgs_cons (pg_name (i := 1) nd rfl (Or.inl rfl)) (pgs_cons (pg_name (i := 2) nd rfl (Or.inl rfl)) pgs_nil))))
    (pss_one (ps_ret (pe_ifExp (pt_val (pv 2)) (pe_ix ix_tup (pv 1) pe_int (fun _ _ => rfl)) (pe_ix ix_tup (pv 1) pe_int (fun _ _ => rfl)))))), ?_⟩
    refine ⟨_, rfl, a, _, rfl, SqT.of e, rfl, _, _, rfl, _, _, rfl, rfl, ?_⟩
    refine ⟨_, rfl, st.2, rfl, ?_⟩
    unfold beg at k
    cases ht : st.2 with
    | false =>
      rw [ht] at k
      exact iteF ⟨_, rfl, c, _, _, _, rfl, rfl, SqT.of ec, rfl, k⟩
    | true =>
      rw [ht] at k
      exact iteT ⟨_, rfl, c, _, _, _, rfl, rfl, SqT.of ec, rfl, k⟩
theorem scEnd : FnScope ["step", "cart", "turned"] ["step"] (defScope sEnd) := ⟨rfl, rfl, rfl, by decide +kernel, rfl, by decide +kernel, by decide +kernel⟩
theorem ok_end {f : Addr} {fd : FuncData} (F : Fun K "end_of" "end_of" sEnd f fd) : FnOk P w K mg base CX0 1 f fd ["step"] spFin := by
  refine F.ok scEnd (fun vs H Q E h => ?_) (fun cdv A outer s H vs Q E hr h => ?_)
  · obtain ⟨b, x, c, rfl, _⟩ := h
    rfl
  · obtain ⟨b, x, st, rfl, hx, k⟩ := h
    obtain ⟨a, y, rfl, n, e, hy⟩ := stepI hx
    obtain ⟨c, rfl, nc, ec⟩ := cartI hy
    have nd := scEnd.nd
    refine ⟨_, (pss_cons (ps_asg (pv 0) (pg_tup (by rfl) (pgs_cons (pg_name (i := 1) nd rfl (Or.inl rfl)) (pgs_cons (pg_name (i := 2) nd rfl (Or.inl rfl)) pgs_nil))))
    (pss_one (ps_ret (pe_ifExp (pt_val (pv 2)) (pe_ix ix_tup (pv 1) pe_int (fun _ _ => rfl)) (pe_ix ix_tup (pv 1) pe_int (fun _ _ => rfl)))))), ?_⟩
    refine ⟨_, rfl, a, _, rfl, SqT.of e, rfl, _, _, rfl, _, _, rfl, rfl, ?_⟩
    refine ⟨_, rfl, st.2, rfl, ?_⟩
    unfold fin at k
    cases ht : st.2 with
    | false =>
      rw [ht] at k
      exact iteF ⟨_, rfl, c, _, _, _, rfl, rfl, SqT.of ec, rfl, k⟩
    | true =>
      rw [ht] at k
      exact iteT ⟨_, rfl, c, _, _, _, rfl, rfl, SqT.of ec, rfl, k⟩
theorem scLBegin : FnScope ["_law_step"] ["_law_step"] (defScope sLBegin) := ⟨rfl, rfl, rfl, by decide +kernel, rfl, by decide +kernel, by decide +kernel⟩
theorem ok_lbegin {f : Addr} {fd : FuncData} (F : Fun K "_law_begin" "_law_begin" sLBegin f fd) : FnOk P w K mg base CX0 1 f fd ["_law_step"] spBeg := by
  refine F.ok scLBegin (fun vs H Q E h => ?_) (fun cdv A outer s H vs Q E hr h => ?_)
  · obtain ⟨b, x, c, rfl, _⟩ := h
    rfl
  · obtain ⟨b, x, st, rfl, hx, k⟩ := h
    obtain ⟨a, y, rfl, n, e, hy⟩ := stepI hx
    obtain ⟨c, rfl, nc, ec⟩ := cartI hy
    refine ⟨_, (pss_one (ps_ret (pe_ifExp (pt_val (pe_ix ix_tup (pv 0) pe_int (fun _ _ => rfl))) (pe_ix ix_tup (pe_ix ix_tup (pv 0) pe_int (fun _ _ => rfl)) pe_int (fun _ _ => rfl)) (pe_ix ix_tup (pe_ix ix_tup (pv 0) pe_int (fun _ _ => rfl)) pe_int (fun _ _ => rfl))))), ?_⟩
    refine ⟨_, rfl, a, _, _, _, rfl, rfl, SqT.of e, rfl, st.2, rfl, ?_⟩
    unfold beg at k
    cases ht : st.2 with
    | false =>
      rw [ht] at k
      exact iteF ⟨_, rfl, a, _, _, _, rfl, rfl, SqT.of e, rfl, c, _, _, _, rfl, rfl, SqT.of ec, rfl, k⟩
    | true =>
      rw [ht] at k
      exact iteT ⟨_, rfl, a, _, _, _, rfl, rfl, SqT.of e, rfl, c, _, _, _, rfl, rfl, SqT.of ec, rfl, k⟩
theorem scLEnd : FnScope ["_law_step"] ["_law_step"] (defScope sLEnd) := ⟨rfl, rfl, rfl, by decide +kernel, rfl, by decide +kernel, by decide +kernel⟩
theorem ok_lend {f : Addr} {fd : FuncData} (F : Fun K "_law_end" "_law_end" sLEnd f fd) : FnOk P w K mg base CX0 1 f fd ["_law_step"] spFin := by
  refine F.ok scLEnd (fun vs H Q E h => ?_) (fun cdv A outer s H vs Q E hr h => ?_)
  · obtain ⟨b, x, c, rfl, _⟩ := h
    rfl
  · obtain ⟨b, x, st, rfl, hx, k⟩ := h
    obtain ⟨a, y, rfl, n, e, hy⟩ := stepI hx
    obtain ⟨c, rfl, nc, ec⟩ := cartI hy
    refine ⟨_, (pss_one (ps_ret (pe_ifExp (pt_val (pe_ix ix_tup (pv 0) pe_int (fun _ _ => rfl))) (pe_ix ix_tup (pe_ix ix_tup (pv 0) pe_int (fun _ _ => rfl)) pe_int (fun _ _ => rfl)) (pe_ix ix_tup (pe_ix ix_tup (pv 0) pe_int (fun _ _ => rfl)) pe_int (fun _ _ => rfl))))), ?_⟩
    refine ⟨_, rfl, a, _, _, _, rfl, rfl, SqT.of e, rfl, st.2, rfl, ?_⟩
    unfold fin at k
    cases ht : st.2 with
    | false =>
      rw [ht] at k
      exact iteF ⟨_, rfl, a, _, _, _, rfl, rfl, SqT.of e, rfl, c, _, _, _, rfl, rfl, SqT.of ec, rfl, k⟩
    | true =>
      rw [ht] at k
      exact iteT ⟨_, rfl, a, _, _, _, rfl, rfl, SqT.of e, rfl, c, _, _, _, rfl, rfl, SqT.of ec, rfl, k⟩
end
end K12

namespace K12
open PySem PySem.Spec PyProof.Rows L2 HK
def mk (x y : Str) (t : Bool) : Cart := if t = true ∧ y.cps.toList < x.cps.toList then ⟨y, x, t⟩ else ⟨x, y, t⟩
section
variable {P : Program} {w : World} {K : PySem.W.Frag} {mg : Str → Option Value} {base : Heap}
def spCart : Sp := fun vs H Q _ => ∃ (x y : Str) (t : Bool), vs = [.str x, .str y, .bl t] ∧ ∀ p, H p = none → Q (.ref p) (upd H p (.tup [.str (mk x y t).f, .str (mk x y t).k, .bl (mk x y t).t]))
theorem scCart : FnScope ["one", "other", "turns"] ["one", "other", "turns"] (defScope sCart) := ⟨rfl, rfl, rfl, by decide +kernel, rfl, by decide +kernel, by decide +kernel⟩
theorem ok_cart {f : Addr} {fd : FuncData} {kws : List (Str × V)} (F : FunD K "cart_of" "cart_of" (defArgs sCart) (defBody sCart) (defScope sCart) [] kws f fd) : FnOk P w K mg base CX0 1 f fd ["one", "other", "turns"] spCart := by
  refine F.ok scCart (fun vs H Q E h => ?_) (fun cdv A outer s H vs Q E hr h => ?_)
  · obtain ⟨x, y, t, rfl, _⟩ := h
    rfl
  · obtain ⟨x, y, t, rfl, k⟩ := h
    refine ⟨_, (pss_cons (ps_if (PW.pt (pw_and (pt_val (pv 2)) (pw_and1 (pt_cmpR op_gtS (pv 0) (pv 1) (nomark _)))))
      (pss_one (ps_ret (pe_tup (pa_cons (pv 1) (pa_cons (pv 0) (pa_cons (pv 2) pa_nil))))))
       pss_nil)
    (pss_one (ps_ret (pe_tup (pa_cons (pv 0) (pa_cons (pv 1) (pa_cons (pv 2) pa_nil))))))), ?_⟩
    refine ⟨_, rfl, t, rfl, ?_⟩
    have three : (3 : Nat) ≤ sizeLine := by decide
    cases t with
    | false =>
      refine iteF ?_
      refine iteF ⟨_, rfl, _, rfl, _, rfl, three, fun p np => ?_⟩
      have e : mk x y false = ⟨x, y, false⟩ := if_neg (fun z => Bool.noConfusion z.1)
      rw [e] at k
      exact k p np
    | true =>
      refine iteT ⟨_, rfl, _, rfl, x, y, rfl, rfl, _, rfl, ?_⟩
      refine ite2 (fun z => ?_) (fun z => ?_)
      · refine ⟨_, rfl, _, rfl, _, rfl, three, fun p np => ?_⟩
        have e : mk x y true = ⟨y, x, true⟩ := if_pos ⟨rfl, of_decide_eq_true z⟩
        rw [e] at k
        exact k p np
      · refine ⟨_, rfl, _, rfl, _, rfl, three, fun p np => ?_⟩
        have e : mk x y true = ⟨x, y, true⟩ := if_neg (fun q => z (decide_eq_true q.2))
        rw [e] at k
        exact k p np
/-- a list of the steps of a cart, new -/
def spSteps : Sp := fun vs H Q _ => ∃ (b : Addr) (x : V) (c : Cart), vs = [x] ∧ On b H ∧ D b H x (dCart c) ∧ ∀ p xs H', Same H H' → H p = none → H' p = some (.lst xs) → DAll b H' xs ((steps c).map dStep) → Q (.ref p) H'
theorem stepsT {b : Addr} {H : Hp} {x : V} {c : Cart} {Q : VK} (g : On b H) (hx : D b H x (dCart c)) (h2 : two c = true) (k : ∀ p xs H', Same H H' → H p = none → H' p = some (.lst xs) → DAll b H' xs ((steps c).map dStep) → Q (.ref p) H')
    {p1 p2 p3 : Addr} (n1 : H p1 = none) (n2 : upd H p1 (.tup [x, .bl false]) p2 = none) (n3 : upd (upd H p1 (.tup [x, .bl false])) p2 (.tup [x, .bl true]) p3 = none) :
    Q (.ref p3) (upd (upd (upd H p1 (.tup [x, .bl false])) p2 (.tup [x, .bl true])) p3 (.lst [.ref p1, .ref p2])) := by
  have s1 : Same H (upd H p1 (.tup [x, .bl false])) := Same.new n1
  have s2 : Same (upd H p1 (.tup [x, .bl false])) (upd (upd H p1 (.tup [x, .bl false])) p2 (.tup [x, .bl true])) := Same.new n2
  have s3 : Same _ (upd (upd (upd H p1 (.tup [x, .bl false])) p2 (.tup [x, .bl true])) p3 (.lst [.ref p1, .ref p2])) := Same.new n3
  have e : steps c = [(c, false), (c, true)] := by unfold steps; rw [if_pos h2]
  refine k p3 _ _ ((s1.trans s2).trans s3) ((s1.trans s2).free n3) upd_same ?_
  rw [e]
  refine .cons ((D.newT (g.ne n1) n1 (.cons hx (.cons (.bl _) .nil))).same (s2.trans s3)) (.cons ((D.newT ((g.same s1).ne n2) n2 (.cons (hx.same s1) (.cons (.bl _) .nil))).same s3) .nil)
theorem stepsF {b : Addr} {H : Hp} {x : V} {c : Cart} {Q : VK} (g : On b H) (hx : D b H x (dCart c)) (h2 : two c = false) (k : ∀ p xs H', Same H H' → H p = none → H' p = some (.lst xs) → DAll b H' xs ((steps c).map dStep) → Q (.ref p) H')
    {p1 p3 : Addr} (n1 : H p1 = none) (n3 : upd H p1 (.tup [x, .bl false]) p3 = none) :
    Q (.ref p3) (upd (upd H p1 (.tup [x, .bl false])) p3 (.lst [.ref p1])) := by
  have s1 : Same H (upd H p1 (.tup [x, .bl false])) := Same.new n1
  have s3 : Same _ (upd (upd H p1 (.tup [x, .bl false])) p3 (.lst [.ref p1])) := Same.new n3
  have e : steps c = [(c, false)] := by unfold steps; rw [if_neg (by rw [h2]; exact Bool.false_ne_true)]
  refine k p3 _ _ (s1.trans s3) (s1.free n3) upd_same ?_
  rw [e]
  exact .cons ((D.newT (g.ne n1) n1 (.cons hx (.cons (.bl _) .nil))).same s3) .nil
theorem scSteps : FnScope ["cart"] ["cart"] (defScope sSteps) := ⟨rfl, rfl, rfl, by decide +kernel, rfl, by decide +kernel, by decide +kernel⟩
theorem ok_steps {f fT : Addr} {fd fdT : FuncData} (F : Fun K "steps_of" "steps_of" sSteps f fd) (gT : mg "has_two_steps" = some (.ref fT)) (FT : Fun K "has_two_steps" "has_two_steps" sTwo fT fdT) (bT : Binds K fdT ["cart"] []) : FnOk P w K mg base CX0 2 f fd ["cart"] spSteps := by
  have GT : FnOk P w K mg base CX0 1 fT fdT _ spTwo := ok_two FT
  refine F.ok scSteps (fun vs H Q E h => ?_) (fun cdv A outer s H vs Q E hr h => ?_)
  · obtain ⟨b, x, c, rfl, _⟩ := h
    rfl
  · obtain ⟨b, x, c, rfl, g, hx, k⟩ := h
    refine ⟨_, (pss_cons (ps_if (pt_val (pe_call GT hr rfl gT FT.kp bT .nil pass0 (pa_cons (pv 0) pa_nil)))
      (pss_one (ps_ret (pe_lst (pa_cons (pe_tup (pa_cons (pv 0) (pa_cons pe_bl pa_nil))) (pa_cons (pe_tup (pa_cons (pv 0) (pa_cons pe_bl pa_nil))) pa_nil)))))
       pss_nil)
    (pss_one (ps_ret (pe_lst (pa_cons (pe_tup (pa_cons (pv 0) (pa_cons pe_bl pa_nil))) pa_nil))))), ?_⟩
    refine ⟨_, rfl, b, x, c, rfl, hx, two c, rfl, ?_⟩
    have l1 : (1 : Nat) ≤ sizeLine := by decide
    have l2 : (2 : Nat) ≤ sizeLine := by decide
    cases h2 : two c with
    | true => exact iteT ⟨_, rfl, l2, fun p1 n1 => ⟨_, rfl, l2, fun p2 n2 => ⟨l2, fun p3 n3 => stepsT g hx h2 k n1 n2 n3⟩⟩⟩
    | false => exact iteF ⟨_, rfl, l2, fun p1 n1 => ⟨l1, fun p3 n3 => stepsF g hx h2 k n1 n3⟩⟩
theorem scLSteps : FnScope ["_law_cart"] ["_law_cart"] (defScope sLSteps) := ⟨rfl, rfl, rfl, by decide +kernel, rfl, by decide +kernel, by decide +kernel⟩
theorem ok_lsteps {f : Addr} {fd : FuncData} (F : Fun K "_law_steps" "_law_steps" sLSteps f fd) : FnOk P w K mg base CX0 1 f fd ["_law_cart"] spSteps := by
  refine F.ok scLSteps (fun vs H Q E h => ?_) (fun cdv A outer s H vs Q E hr h => ?_)
  · obtain ⟨b, x, c, rfl, _⟩ := h
    rfl
  · obtain ⟨b, x, c, rfl, g, hx, k⟩ := h
    obtain ⟨a, rfl, na, ea⟩ := cartI hx
    refine ⟨_, (pss_one (ps_ret (pe_ifExp (PW.pt (pw_and (pt_val (pe_ix ix_tup (pv 0) pe_int (fun _ _ => rfl))) (pw_and1 (pt_cmpR op_ne (pe_ix ix_tup (pv 0) pe_int (fun _ _ => rfl)) (pe_ix ix_tup (pv 0) pe_int (fun _ _ => rfl)) (nomark _))))) (pe_lst (pa_cons (pe_tup (pa_cons (pv 0) (pa_cons pe_bl pa_nil))) (pa_cons (pe_tup (pa_cons (pv 0) (pa_cons pe_bl pa_nil))) pa_nil))) (pe_lst (pa_cons (pe_tup (pa_cons (pv 0) (pa_cons pe_bl pa_nil))) pa_nil))))), ?_⟩
    have l1 : (1 : Nat) ≤ sizeLine := by decide
    have l2 : (2 : Nat) ≤ sizeLine := by decide
    refine ⟨_, rfl, a, _, _, _, rfl, rfl, SqT.of ea, rfl, c.t, rfl, ?_⟩
    have e2 : two c = (c.t && !decide (c.f = c.k)) := rfl
    cases ht : c.t with
    | false =>
      rw [ht] at e2
      exact iteF (iteF ⟨_, rfl, l2, fun p1 n1 => ⟨l1, fun p3 n3 => stepsF g hx e2 k n1 n3⟩⟩)
    | true =>
      rw [ht] at e2
      refine iteT ⟨_, rfl, a, _, _, _, rfl, rfl, SqT.of ea, rfl, _, rfl, a, _, _, _, rfl, rfl, SqT.of ea, rfl, rfl, _, rfl, ?_⟩
      refine ite2 (fun z => ?_) (fun z => ?_)
      · have h2 : two c = true := by
          rw [e2, Bool.true_and]
          rw [Bool.not_eq_true', decide_eq_false_iff_not] at z
          rw [Bool.not_eq_true', decide_eq_false_iff_not]
          exact fun q => z (congrArg V.str q)
        exact ⟨_, rfl, l2, fun p1 n1 => ⟨_, rfl, l2, fun p2 n2 => ⟨l2, fun p3 n3 => stepsT g hx h2 k n1 n2 n3⟩⟩⟩
      · have h2 : two c = false := by
          rw [e2, Bool.true_and, Bool.not_eq_false', decide_eq_true_iff]
          rw [Bool.not_eq_true, Bool.not_eq_false', decide_eq_true_iff] at z
          exact V.str.inj z
        exact ⟨_, rfl, l2, fun p1 n1 => ⟨l1, fun p3 n3 => stepsF g hx h2 k n1 n3⟩⟩
/-! couple -/
def spCouple : Sp := fun vs H Q _ => ∃ (b : Addr) (x y : V) (s t : Cart × Bool), vs = [x, y] ∧ D b H x (dStep s) ∧ D b H y (dStep t) ∧ Q (.bl (decide (V.str (fin s) = V.str (beg t)))) H
theorem scCouple : FnScope ["step", "other"] ["step", "other"] (defScope sCouple) := ⟨rfl, rfl, rfl, by decide +kernel, rfl, by decide +kernel, by decide +kernel⟩
theorem ok_couple {f fE fB : Addr} {fd fdE fdB : FuncData} (F : Fun K "couple" "couple" sCouple f fd) (gE : mg "end_of" = some (.ref fE)) (FE : Fun K "end_of" "end_of" sEnd fE fdE) (bE : Binds K fdE ["step"] []) (gB : mg "begin_of" = some (.ref fB)) (FB : Fun K "begin_of" "begin_of" sBegin fB fdB) (bB : Binds K fdB ["step"] []) :
    FnOk P w K mg base CX0 2 f fd ["step", "other"] spCouple := by
  have GE : FnOk P w K mg base CX0 1 fE fdE _ spFin := ok_end FE
  have GB : FnOk P w K mg base CX0 1 fB fdB _ spBeg := ok_begin FB
  refine F.ok scCouple (fun vs H Q E h => ?_) (fun cdv A outer s H vs Q E hr h => ?_)
  · obtain ⟨b, x, y, _, _, rfl, _⟩ := h
    rfl
  · obtain ⟨b, x, y, st, t, rfl, hx, hy, k⟩ := h
    refine ⟨_, (pss_one (ps_ret (pe_cmpR op_eq (pe_call GE hr rfl gE FE.kp bE .nil pass0 (pa_cons (pv 0) pa_nil)) (pe_call GB hr rfl gB FB.kp bB .nil pass0 (pa_cons (pv 1) pa_nil)) (nomark _)))), ?_⟩
    exact ⟨_, rfl, b, x, st, rfl, hx, _, rfl, b, y, t, rfl, hy, rfl, k⟩
end
end K12

namespace PySem
namespace FxX
open PySem.W PySem.Calls PyProof.Rows PySem.HandSPX
/-! ### the text of __init__ -/
def iA (p1 p2 : Pos) : Arguments := { posonlyargs := [], args := [{ arg := "self", annotation := none, pos := p1 }, { arg := "index", annotation := none, pos := p2 }], vararg := none, kwonlyargs := [], kw_defaults := [], kwarg := none, defaults := [] }
def iB (q1 q2 q3 q4 : Pos) : List Stmt := [.Assign [.Attribute (.Name "self" q1) "index" q2] (.Name "index" q3) q4]
def iS : Scope := { kind := .function, names := [(PySem.Str.ofString "self", .local), (PySem.Str.ofString "index", .local)], isGenerator := false, isCoroutine := false, more := [] }
/-- what the written part says of Low, at C, and of its __init__, at fI -/
structure FxTxt (K : Frag) (mg : Str → Option Value) (C fI : Addr) : Prop where
  gC : mg "Fixed" = some (.ref C)
  cls : ∃ nm q N bs bm sn sub ab col dd k0 k1 k2 k3 k5, K.lookup C = some (excClassObj nm q C N bs bm true sn sub ab col dd k0 k1 k2 k3 k5 "ValueError.__new__") ∧ refsVE bm = true
  sa : findIn K (.ref C) "__setattr__" = some (some (.builtin "object.__setattr__"))
  ga : findIn K (.ref C) "__getattribute__" = some (some (.builtin "BaseException.__getattribute__"))
  gg : findIn K (.ref C) "__getattr__" = some none
  noN : findIn K (.ref C) "index" = some none
  iC : findIn K (.ref C) "__init__" = some (some (.ref fI))
  tC : typeIn K (.ref fI) = some (.type "function")
  kC : keepIn K (.ref C) = true
  exC : subIn K (.ref C) (.type "BaseException") = some true
  tyC : typeIn K (.ref C) = some (.type "type")
  hdC : hasDictIn K C = true
  te : exmOne K (.ref C) (.ref C) = some true
  fn : ∃ (oc : Value) (od : Option Addr) (doc pm : Value) (an : Option Addr) (cdv ct : Value) (osl : Array (Option Value)) (p1 p2 q1 q2 q3 q4 : Pos),
    K.lookup fI = some ⟨oc, od, .func (fnOf "__init__" "Fixed.__init__" (iA p1 p2) (iB q1 q2 q3 q4) iS .none .none doc pm an cdv ct), osl⟩ ∧ codeIn K cdv "Fixed.__init__" = true
theorem one_size (v : Value) : [v].length ≤ sizeLine := by
  rw [sizeLine_eq]
  exact (by decide : 1 ≤ 16777216)
theorem kept_but {K : Frag} {h h' : Heap} {x : Addr} (X : K.In h) (hx : K.lookup x = none) (k : ∀ b o, b ≠ x → h.get? b = some o → h'.get? b = some o) : K.In h' := fun a o e =>
  k a o (fun z => by rw [z, hx] at e; cases e) (X a o e)
theorem ldC {M : Model} {s : Shared} {name : Str} {scope : Scope} {L a : Addr} {cd : Value} {m : Str → Option Value} {x : Str} {pos : Pos} {v : Value} {Q : Value → Shared → Prop} {A : Around} {E : Value → Shared → Prop} (hn : s.heap.Ns L m) (hv : m x = some v) (h : Q v s)
    (hk : scope.kind = .function := by rfl) (hl : (envOfC name scope L a cd).kindOf x = some .local := by rfl) (hd : (x == ("__debug__" : Str)) = false := by decide) :
    wpAny M A (eval (.Name x pos) (envOfC name scope L a cd)) Q E s := wpAny_Name (wpAny_loadName_local hk hl hn hv h) hd
/-- what __init__ leaves of a fresh exception at x -/
structure InitEnd (h h' : Heap) (x C dx t1 : Addr) (v : Value) : Prop where
  keep : ∀ b o, b ≠ x → h.get? b = some o → h'.get? b = some o
  obj : h'.get? x = some { cls := .ref C, dict := some dx, data := .fields #[.ref t1, .none, .none, .none, .bool false, .none] }
  dbig : h.objs.size ≤ dx
  dne : dx ≠ x
  ns : h'.Ns1 dx (fun y => if y = "index" then some v else none)
/-- a made Low -/
structure OwnMade (h h' : Heap) (e C d : Addr) (v : Value) : Prop where
  keep : ∀ b o, h.get? b = some o → h'.get? b = some o
  new : h.objs.size ≤ e
  obj : ∃ oe vs, h'.get? e = some oe ∧ oe.cls = .ref C ∧ oe.dict = some d ∧ oe.data = .fields vs ∧ vs[1]? = some .none
  dbig : h.objs.size ≤ d
  dne : d ≠ e
  ns : h'.Ns1 d (fun y => if y = "index" then some v else none)
section
variable {prog : Program} {w : World} {A : Around} {E : Value → Shared → Prop} {R : Result → Shared → Prop} {s : Shared} {K : Frag} {mg : Str → Option Value} {C fI : Addr}
theorem low_init (T : FxTxt K mg C fI) {x t0 : Addr} {v : Value} (X : K.In s.heap) (hlim : s.heap.NoLimit) (hx : s.heap.get? x = some (excO C t0)) (hnx : K.lookup x = none) (hroom : A.depth < recursionLimit)
    (hq : ∀ h' tk dx, InitEnd s.heap h' x C dx t0 v → R (.ok (.ret .none)) { s with heap := h', toks := tk }) :
    codeAny (model prog w) A (.call (.ref fI) ⟨[.ref x, v], []⟩) R s := by
  obtain ⟨oc, od, doc, pm, an, cdv, ct, osl, p1, p2, q1, q2, q3, q4, ho, hcd⟩ := T.fn
  obtain ⟨nm, q, N, bs, bm, sn, sub, ab, col, dd, k0, k1, k2, k3, k5, hC, hbm⟩ := T.cls
  have hcl : clsIn K C = some { name := nm, bases := bs, mro := .ref C :: bm, ns := N, qualname := q, hasDict := true, slotNames := sn, subclasses := sub, abstract := ab, collection := col, hasDel := false } := by unfold clsIn; rw [hC] <;> rfl
  refine Att.call_fn (binds := [("self", .ref x), ("index", v)]) X hlim ho hcd hroom (BindsTo.of_eq (by first | rfl | with_unfolding_all rfl)) (by first | rfl | decide | with_unfolding_all rfl) (fun s₁ IC => ?_) rfl rfl rfl
  obtain ⟨h₁, tk₁, rfl⟩ := IC.toInCall.same
  have k : ∀ b o, s.heap.get? b = some o → h₁.get? b = some o := IC.toInCall.keep
  have hn := IC.toInCall.ns
  have hxL : s.heap.objs.size ≠ x := Nat.ne_of_gt (Heap.lt_size hx)
  have X₁ : K.In h₁ := X.keeps k
  have hx₁ := k _ _ hx
  -- self.by = by
  show wpAny _ _ (execs _ _) _ _ _
  refine wpAny_execs_cons (plainObj_wpAny_Assign_Attribute ?_)
  refine ldC (v := v) hn (by first | rfl | with_unfolding_all rfl | kernel_rfl) (ldC (v := .ref x) hn (by first | rfl | with_unfolding_all rfl | kernel_rfl) ?_)
  refine set_plain X₁ (ox := excO C t0) (od := none) ⟨hx₁, rfl, rfl, trivial⟩ T.sa ?_
  refine exc_osa X₁ hx₁ hcl (show refsVE (.ref C :: bm) = true from hbm) rfl T.noN (fun h₃ tk₃ dx k₃ dn dne hx₃ hn₃ => ?_)
  show wpAny _ _ (execs _ _) _ _ _
  have z : s.heap.objs.size < h₁.objs.size := hn.lt
  exact wpAny_execs_nil (hq h₃ tk₃ dx ⟨fun b o hb e => k₃ b o hb (k b o e), hx₃, Nat.le_of_lt (Nat.lt_of_lt_of_le z dn), dne, hn₃⟩)
theorem low_made (T : FxTxt K mg C fI) {v : Value} (X : K.In s.heap) (hlim : s.heap.NoLimit) (hroom : A.depth + 1 < recursionLimit)
    (hq : ∀ h' tk e d, OwnMade s.heap h' e C d v → R (.ok (.ret (.ref e))) { s with heap := h', toks := tk }) :
    codeAny (model prog w) A (.call (.ref C) ⟨[v], []⟩) R s := by
  obtain ⟨nm, q, N, bs, bm, sn, sub, ab, col, dd, k0, k1, k2, k3, k5, hC, hbm⟩ := T.cls
  obtain ⟨hp, g, dr, tk, os⟩ := s
  have k : ∀ b o, hp.get? b = some o → ((hp.push (kdv_tup [v])).push (excO C hp.objs.size)).get? b = some o := fun b o e => Heap.get?_push_of_some _ (Heap.get?_push_of_some _ e)
  have hget : ((hp.push (kdv_tup [v])).push (excO C hp.objs.size)).get? (hp.objs.size + 1) = some (excO C hp.objs.size) := by heap_get
  have hnx : K.lookup (hp.objs.size + 1) = none := by
    cases e : K.lookup (hp.objs.size + 1) with
    | none => rfl
    | some o =>
      have z : hp.get? (hp.objs.size + 1) = some o := X _ _ e
      exact absurd (Nat.lt_of_succ_lt (Heap.lt_size z)) (Nat.lt_irrefl _)
  refine call_own F.excBase_ValueError (fun X => refsVE_contains X bm hbm) (X _ _ hC) (looks_findIn X T.iC) (fun self => bind_fn X self T.tC) (one_size v) ?_
  refine low_init (s := ⟨(hp.push (kdv_tup [v])).push (excO C hp.objs.size), g, dr, tk, os⟩) T (X.keeps k) (hlim.keeps k) hget hnx ?_ fun h' tk' dx ⟨k', hx, dn, dne, hns⟩ => ?_
  · show A.depth + 1 < recursionLimit
    exact hroom
  · have old : ∀ b o, hp.get? b = some o → h'.get? b = some o := fun b o e => k' b o (Nat.ne_of_lt (Nat.lt_succ_of_lt (Heap.lt_size e))) (k b o e)
    have z : hp.objs.size + 1 + 1 ≤ dx := by
      first
        | (simpa only [Heap.size_push] using dn)
        | exact dn
        | (have q := dn; rw [Heap.size_push, Heap.size_push] at q; exact q)
    exact ⟨rfl, hq h' tk' (hp.objs.size + 1) dx ⟨old, Nat.le_succ _, ⟨_, _, hx, rfl, rfl, rfl, rfl⟩, Nat.le_trans (Nat.le_trans (Nat.le_succ _) (Nat.le_succ _)) z, dne, hns⟩⟩
end
end FxX
end PySem

namespace L2
open PySem PySem.Spec PyProof.Rows
theorem relO_low_Fx {v : V} {v' : Value} (r : RelV v v') (f : Str) : RelO (List.lookup f [(("index" : Str), v)]) (if f = "index" then some v' else none) := by
  by_cases hw : f = "index"
  · subst hw
    rw [if_pos rfl]
    have q : List.lookup ("index" : Str) [(("index" : Str), v)] = some v := by simp [List.lookup]
    rw [q]
    exact r
  · rw [if_neg hw]
    have qw : (f == ("index" : Str)) = false := by simpa using hw
    have q2 : List.lookup f [(("index" : Str), v)] = none := by simp [List.lookup, qw]
    rw [q2]
    trivial
section
variable {X : Cx} {C fI : Addr}
/-- Low(e) -/
def tMkLow_Fx (C : Addr) (ta : TA) : St → Hp → XK → Prop := fun σ H Q => ta σ H fun vs H1 => ∃ v, vs = [v] ∧ ∀ d, H1 d = none → Q (.ref C) (some d) (upd H1 d (.xd [(("index" : Str), v)]))
theorem pmk_low_Fx {a : Expr} {ta : TA} {p pos : Pos} {k : Nat} (T : PySem.FxX.FxTxt X.K X.mg C fI) (hr : Room k X.A) (ha : PA X [a] ta) (hg : Gl X "Fixed" := by rfl)
    (he : starEach (a :: []) X.env = (false, eval a X.env) :: starEach [] X.env := by rfl) (hpl : (backTo pos (starEach [] X.env)).any (·.1) = false := by rfl) :
    PMk X (.Call (.Name "Fixed" p) [a] [] pos) (tMkLow_Fx C ta) := by
  intro pins s σ H Q I h
  refine wpAny_Call_Name_kw (ld_glob I hg T.gC ?_)
  refine PySem.W.callWith_K (h₀ := X.base) I.ok.mod.kin T.kC (thn (ha.run pos pins s σ H _ I h) fun us s1 hh => ?_) he hpl
  obtain ⟨vs, H1, I1, r1, v, ev, q1⟩ := hh
  subst ev
  refine ⟨I1.kIn, ?_⟩
  cases r1 with
  | cons rv rn =>
    rename_i v' us'
    cases rn
    show wpAny _ _ (call (.ref C) [v']) _ _ _
    have hlim := I1.nolimit
    obtain ⟨hp, g, dr, tk, os⟩ := s1
    refine wpAny_call (PySem.FxX.low_made T I1.kIn hlim (by have := hr.dp; omega) fun h' tk' e d M => ?_)
    show MkP X pins σ Q (.ref e) ⟨h', g, dr, tk', os⟩
    obtain ⟨oe, fv, hoe, hc, hd, hdat, h1⟩ := M.obj
    have hns := M.ns
    obtain ⟨G', g1, g2⟩ := restrict h' fun b => decide (b ≠ e)
    have gk : ∀ b, b ≠ e → G'.get? b = h'.get? b := fun b hb => g1 b (decide_eq_true hb)
    have ge : G'.get? e = none := g2 e (by simp)
    have old : ∀ b o, hp.get? b = some o → G'.get? b = some o := fun b o q => (gk b (Nat.ne_of_lt (Nat.lt_of_lt_of_le (Heap.lt_size q) M.new))).trans (M.keep b o q)
    have ob : ObjOk X.prog X.w (upd H1 d (.xd [(("index" : Str), v)])) G' d (.xd [(("index" : Str), v)]) :=
      ⟨_, hns.at (fun o q => (gk d M.dne).trans q), fun f => relO_low_Fx rv f⟩
    have J : Inv X pins σ (upd H1 d (.xd [(("index" : Str), v)])) ⟨G', g, dr, tk', os⟩ := I1.laid (t' := tk') old M.dbig ob
    refine ⟨e, oe, fv, ⟨G', g, dr, tk', os⟩, _, .ref C, some d, rfl, J, fun b o q => ?_, ge, hoe, ⟨hc, hd⟩, hdat, h1, ?_, rfl, I1.bare, raises_own T.exC T.tyC, q1 d (I1.hok.fresh M.dbig)⟩
    · by_cases hb : b = e
      · have q' : G'.get? b = some o := q
        rw [hb, ge] at q'; cases q'
      · exact (gk b hb).symm.trans q
    · rw [upd_ne (Ne.symm M.dne)]
      exact I1.hok.fresh M.new
/-- raise Low(e) -/
def tRaiseLow_Fx (C : Addr) (W : WX) (ta : TA) : TS := fun _ σ H => tMkLow_Fx C ta σ H fun cls d H' => W cls d σ H'
theorem ps_raiseLow_Fx {a : Expr} {ta : TA} {W : WX} {p pos pos2 : Pos} {k : Nat} (hc : X.calm = true) (T : PySem.FxX.FxTxt X.K X.mg C fI) (hr : Room k X.A) (tk : Takes X W) (ha : PA X [a] ta) (hg : Gl X "Fixed" := by rfl)
    (he : starEach (a :: []) X.env = (false, eval a X.env) :: starEach [] X.env := by rfl) (hpl : (backTo pos (starEach [] X.env)).any (·.1) = false := by rfl) :
    PS X (.Raise (some (.Call (.Name "Fixed" p) [a] [] pos)) none pos2) (tRaiseLow_Fx C W ta) := ps_raise hc tk (pmk_low_Fx T hr ha hg he hpl)

end
end L2

namespace HK
open PySem PySem.Spec PyProof.Rows L2
/-- isinstance(e, c), e the exception with a dict of its own that the suite holds -/
def rIsX (K : PySem.W.Frag) (D a : Addr) (cls : Value) (d : Option Addr) : List V → Hp → VK → Prop := fun xs H Q => ∃ (c : V) (cv : Value) (b : Bool) (dd : Addr) (fs : List (Str × V)), xs = [.ref a, c] ∧ cls = .ref D ∧ d = some dd ∧ H dd = some (.xd fs) ∧ (∀ u, RelV c u → u = cv) ∧ PySem.W.kitOne K (.ref D) cv = some b ∧ Q (.bl b) H
theorem call_isX {X : Cx} {a D : Addr} {oe : Obj} {cls : Value} {d : Option Addr} {pn : List (Addr × Obj)} (C : ExcC X.K D) (hz : Zc cls d oe) (hf : ∃ vs, oe.data = .fields vs) : CallR (X.suite a ((a, oe) :: pn)) (.builtin "isinstance") (rIsX X.K D a cls d) := by
  intro pins s σ H xs us Q I r h
  obtain ⟨c, cv, b, dd, fs, rfl, rfl, rfl, hd, hcv, e, q⟩ := h
  obtain ⟨u1, u2, rfl, rx, rt⟩ := vals2 r
  cases rx
  have ec := hcv _ rt
  subst ec
  obtain ⟨hget, _⟩ := I.pin (a, oe) (List.mem_append.mpr (.inl List.mem_cons_self))
  obtain ⟨vs, hv⟩ := hf
  obtain ⟨mA, hns, _⟩ : ObjOk X.prog X.w H s.heap dd (.xd fs) := I.hok dd _ hd
  obtain ⟨od, ho, _⟩ := lookIn_ns hns
  have J : PySem.W.InstAt s.heap a oe D (some od) := ⟨hget, hz.1, by unfold PySem.W.notCls; rw [hv] <;> rfl, by rw [hz.2]; exact ho⟩
  have hcl : (PySem.W.clsIn X.K D).isSome = true := by
    obtain ⟨cd, hc, _⟩ := PySem.W.any_some C.hd
    rw [hc]
    rfl
  exact PySem.W.kia_one (PySem.W.kitx_exc hcl C.hg C.hk C.hs C.ha C.hn C.ht C.hm) I.kIn J e (fun z => nomatch z) fun tk => ⟨.bl b, H, I.kept (t' := tk) fun _ _ z => z, rfl, q⟩
end HK
namespace K12
open PySem PySem.Spec PyProof.Rows L2 HK
/-- what is known of the errors -/
structure TxE (K : PySem.W.Frag) (mg : Str → Option Value) (CE CF fI : Addr) : Prop where
  fx : PySem.FxX.FxTxt K mg CF fI
  gE : mg "CartError" = some (.ref CE)
  ex : PySem.W.exmOne K (.ref CF) (.ref CE) = some true
  xc : ExcC K CF
  is : PySem.W.kitOne K (.ref CF) (.ref CF) = some true
  n_isi : mg "isinstance" = none
theorem TxE.xf {K : PySem.W.Frag} {mg : Str → Option Value} {CE CF fI : Addr} (T : TxE K mg CE CF fI) : XfC K CF := ⟨T.fx.ga, T.fx.gg, T.fx.exC, T.fx.hdC⟩
section
variable {P : Program} {w : World} {K : PySem.W.Frag} {mg : Str → Option Value} {base : Heap} {CE CF fI : Addr}
def far (s : Cart × Bool) : Bool := if two s.1 then !s.2 else s.2
def spAbout (CF : Addr) : Sp := fun vs H Q E => ∃ (b : Addr) (x : V) (s : Cart × Bool), vs = [x] ∧ D b H x (dStep s) ∧ (s.1.t = false → ∀ d, H d = none → E (.ref CF) (some d) (upd H d (.xd [("index", .int 0)]))) ∧
  (s.1.t = true → ∀ p y, H p = none → D b H y (dCart s.1) → Q (.ref p) (upd H p (.tup [y, .bl (far s)])))
theorem scAbout : FnScope ["step", "cart", "turned"] ["step"] (defScope sAbout) := ⟨rfl, rfl, rfl, by decide +kernel, rfl, by decide +kernel, by decide +kernel⟩
theorem ok_about {f fT : Addr} {fd fdT : FuncData} (F : Fun K "about" "about" sAbout f fd) (T : TxE K mg CE CF fI) (gT : mg "has_two_steps" = some (.ref fT)) (FT : Fun K "has_two_steps" "has_two_steps" sTwo fT fdT) (bT : Binds K fdT ["cart"] []) :
    FnOk P w K mg base (L2.CX P w) 3 f fd ["step"] (spAbout CF) := by
  have GT : FnOk P w K mg base CX0 1 fT fdT _ spTwo := ok_two FT
  refine F.okX scAbout (fun vs H Q E h => ?_) (fun cdv A outer s H vs Q E hr h => ?_)
  · obtain ⟨b, x, _, rfl, _⟩ := h
    rfl
  · obtain ⟨b, x, st, rfl, hx, kF, kT⟩ := h
    have hr1 : Room 1 _ := hr.mono (by decide)
    obtain ⟨a, y, rfl, n, e, hy⟩ := stepI hx
    obtain ⟨c, rfl, nc, ec⟩ := cartI hy
    have nd := scAbout.nd
    refine ⟨_, (pss_cons (ps_asg (pv 0) (pg_tup (by rfl) (pgs_cons (pg_name (i := 1) nd rfl (Or.inl rfl)) (pgs_cons (pg_name (i := 2) nd rfl (Or.inl rfl)) pgs_nil))))
      (pss_cons (ps_if (pt_not (pt_val (pe_ix ix_tup (pv 1) pe_int (fun _ _ => rfl))))
        (pss_one (ps_raiseLow_Fx rfl T.fx hr (takes_of rfl rfl rfl rfl) (pa_cons pe_int pa_nil)))
         pss_nil)
      (pss_one (ps_ret (pe_ifExp (pt_val (pe_call GT hr1 rfl gT FT.kp bT .nil pass0 (pa_cons (pv 1) pa_nil))) (pe_tup (pa_cons (pv 1) (pa_cons (pe_not (pv 2)) pa_nil))) (pe_tup (pa_cons (pv 1) (pa_cons (pv 2) pa_nil)))))))), ?_⟩
    refine ⟨_, rfl, a, _, rfl, SqT.of e, rfl, _, _, rfl, _, _, rfl, rfl, ?_⟩
    refine ⟨_, rfl, c, _, _, _, rfl, rfl, SqT.of ec, rfl, st.1.t, rfl, ?_⟩
    cases ht : st.1.t with
    | false => exact iteT ⟨_, rfl, fun d hd => kF ht d hd⟩
    | true =>
      refine iteF ⟨_, rfl, b, _, st.1, rfl, hy, two st.1, rfl, ?_⟩
      have l2 : (2 : Nat) ≤ sizeLine := by decide
      have kT' := kT ht
      cases h2 : two st.1 with
      | true =>
        have e3 : far st = !st.2 := by unfold far; rw [if_pos h2]
        rw [e3] at kT'
        exact iteT ⟨_, rfl, _, rfl, _, rfl, l2, fun p np => kT' p _ np hy⟩
      | false =>
        have e3 : far st = st.2 := by unfold far; rw [if_neg (by rw [h2]; exact Bool.false_ne_true)]
        rw [e3] at kT'
        exact iteF ⟨_, rfl, _, rfl, l2, fun p np => kT' p _ np hy⟩
end
end K12

namespace K12
open PySem PySem.Spec PyProof.Rows L2 HK
def dHeard (s : Cart × Bool) : PyData := if s.1.t then .tuple [.str "told", dStep (s.1, far s)] else .tuple [.str "fixed", .int 0]
section
variable {P : Program} {w : World} {K : PySem.W.Frag} {mg : Str → Option Value} {base : Heap} {CE CF fI : Addr}
def spHeard : Sp := fun vs H Q _ => ∃ (b : Addr) (x : V) (s : Cart × Bool), vs = [x] ∧ On b H ∧ D b H x (dStep s) ∧ ∀ v H', Same H H' → D b H' v (dHeard s) → Q v H'
theorem scHeard : FnScope ["_law_step", "e"] ["_law_step"] (defScope sHeard) := ⟨rfl, rfl, rfl, by decide +kernel, rfl, by decide +kernel, by decide +kernel⟩
theorem ok_heard {f fT fA : Addr} {fd fdT fdA : FuncData} (F : Fun K "_law_heard" "_law_heard" sHeard f fd) (T : TxE K mg CE CF fI) (gA : mg "about" = some (.ref fA)) (FA : Fun K "about" "about" sAbout fA fdA) (bA : Binds K fdA ["step"] [])
    (gT : mg "has_two_steps" = some (.ref fT)) (FT : Fun K "has_two_steps" "has_two_steps" sTwo fT fdT) (bT : Binds K fdT ["cart"] []) :
    FnOk P w K mg base CX0 4 f fd ["_law_step"] spHeard := by
  have GA : FnOk P w K mg base (L2.CX P w) 3 fA fdA _ (spAbout CF) := ok_about FA T gT FT bT
  refine F.ok scHeard (fun vs H Q E h => ?_) (fun cdv A outer s H vs Q E hr h => ?_)
  · obtain ⟨b, x, _, rfl, _⟩ := h
    rfl
  · obtain ⟨b, x, st, rfl, g, hx, k⟩ := h
    have nd := scHeard.nd
    refine ⟨_, pss_one (ps_try_as (i := 1) (tb := fun W => tRet (tTup (tCons (tC (.str "told")) (tCons (tCallS (spAbout CF) (WE W) (tCons (tVar 0) tNil)) tNil)))) (Wout := fun _ _ _ _ => False) rfl rfl nd rfl rfl ⟨rfl, by decide, Or.inl T.gE⟩ takes0
      (fun W pn xe tk _ => pss_one (ps_ret (by exact (pe_tup (pa_cons pe_str (pa_cons (pe_callS GA hr rfl gA FA.kp bA (fun σ => passAt tk σ) (by exact (pa_cons (pv 0) pa_nil))) pa_nil))))))
      (fun a oe cls d pn hz hf => pss_one (ps_ret (pe_ifExp (pt_val (pe_callB (call_isX T.xc hz hf) (by rfl) T.n_isi (by decide +kernel) (pa_cons (pv 1) (pa_cons (pe_glob rfl T.fx.gC (v := .ref CF) rfl) pa_nil))))
        (pe_tup (pa_cons pe_str (pa_cons (pe_xf T.xf T.fx.noN hz hf (pv 1)) pa_nil))) (pe_tup (pa_cons pe_str (pa_cons pe_non pa_nil))))))), ?_⟩
    have l2 : (2 : Nat) ≤ sizeLine := by decide
    refine ⟨_, rfl, b, x, st, rfl, hx, fun ht d nd => ?_, fun ht p y np hy => ?_⟩
    · refine ⟨true, T.ex, fun _ a na => ?_, fun q => Bool.noConfusion q⟩
      refine ⟨_, rfl, _, _, true, d, _, rfl, rfl, rfl, upd_same, fun u hu => hu, T.is, true, rfl, ?_⟩
      refine iteT ⟨_, rfl, rfl, rfl, d, _, _, rfl, upd_same, rfl, l2, fun p np => ?_⟩
      have e : dHeard st = .tuple [.str "fixed", .int 0] := by unfold dHeard; rw [ht]; rfl
      have s1 : Same H (upd H d (.xd [("index", .int 0)])) := Same.new nd
      refine k _ _ (s1.trans (Same.new np)) ?_
      rw [e]
      exact D.newT ((g.same s1).ne np) np (.cons (.str _) (.cons (.int _) .nil))
    · refine ⟨l2, fun q nq => ?_⟩
      have e : dHeard st = .tuple [.str "told", dStep (st.1, far st)] := by unfold dHeard; rw [ht]; rfl
      have s1 : Same H (upd H p (.tup [y, .bl (far st)])) := Same.new np
      refine k _ _ (s1.trans (Same.new nq)) ?_
      rw [e]
      exact D.newT ((g.same s1).ne nq) nq (.cons (.str _) (.cons (D.newT (g.ne np) np (.cons hy (.cons (.bl _) .nil))) .nil))
end
end K12

namespace K12
open PySem PySem.Spec PyProof.Rows L2 HK
section
variable {P : Program} {w : World} {K : PySem.W.Frag} {mg : Str → Option Value} {base : Heap}
theorem kb_cart {f : Addr} {fd : FuncData} {kws : List (Str × V)} (F : FunD K "cart_of" "cart_of" (defArgs sCart) (defBody sCart) (defScope sCart) [] kws f fd) : KBn K fd ["one", "other", "turns"] 2 ["turns"] (fun us ws => us ++ ws) (fun vs zs => vs ++ zs) := by
  obtain ⟨oc, od, dV, kV, doc, pm, an, cdv, ct, osl, rfl, lk, hcd, hD, hK⟩ := F.ex
  rcases hD with ⟨_, rfl⟩ | ⟨e, _⟩
  · refine ⟨fun s us ws X l1 l2 => ?_, fun r1 r2 => r1.append r2⟩
    match us, ws, l1, l2 with
    | [_, _], [_], _, _ => exact .of_eq rfl
  · exact absurd rfl e
theorem bd_cart {f : Addr} {fd : FuncData} (F : FunD K "cart_of" "cart_of" (defArgs sCart) (defBody sCart) (defScope sCart) [] [("turns", .bl false)] f fd) : ∃ ds, Vals [.bl false] ds ∧ Binds K fd ["one", "other", "turns"] ds := by
  refine F.binds0 2 (by simp) rfl fun D doc pm an cdv ct us ks l1 l2 => ?_
  match us, ks, l1, l2 with
  | [_, _], [_], _, _ => exact ⟨_, _, _, _, _, _, rfl, rfl, rfl⟩
/-! ### room -/
structure COK (c : Cart) : Prop where
  f : KindS c.f
  k : KindS c.k
theorem KindS.sh {k : Str} (h : KindS k) : Sh k 8 := by
  refine ⟨h.hi, ?_⟩
  unfold PyData.strOk
  rw [← Array.all_toList, List.all_eq_true]
  intro c hc
  have := h.let' c hc
  exact decide_eq_true (by omega)
theorem cart_sm {c : Cart} (h : COK c) : Sm (dCart c) 19 1 := (Sm.tuple (.cons (Sm.str h.f.sh) (.cons (Sm.str h.k.sh) (.cons (Sm.bool _) .nil)))).mono (by decide) (by decide)
theorem step_sm {s : Cart × Bool} (h : COK s.1) : Sm (dStep s) 21 2 := (Sm.tuple (.cons (cart_sm h) (.cons (Sm.bool _) .nil))).mono (by decide) (by decide)
theorem maxS_kind {x y : Str} (hx : KindS x) (hy : KindS y) : KindS (maxS x y) := by unfold maxS; split <;> assumption
theorem minS_kind {x y : Str} (hx : KindS x) (hy : KindS y) : KindS (minS x y) := by unfold minS; split <;> assumption
theorem mk_false {x y : Str} : mk x y false = ⟨x, y, false⟩ := if_neg (fun z => Bool.noConfusion z.1)
theorem str_tri {a b : Str} (h1 : ¬ a.cps.toList < b.cps.toList) (h2 : ¬ b.cps.toList < a.cps.toList) : a = b := by
  have e : a.cps.toList = b.cps.toList := List.le_antisymm (List.not_lt.mp h2) (List.not_lt.mp h1)
  obtain ⟨a⟩ := a
  obtain ⟨b⟩ := b
  exact congrArg Str.mk (Array.toList_inj.mp e)
theorem mk_true {x y : Str} : mk x y true = ⟨minS x y, maxS x y, true⟩ := by
  unfold mk minS maxS
  by_cases h1 : y.cps.toList < x.cps.toList
  · have h2 : ¬ x.cps.toList < y.cps.toList := fun z => List.lt_irrefl _ (List.lt_trans h1 z)
    rw [if_pos ⟨rfl, h1⟩, if_pos h1, if_neg h2]
  · rw [if_neg (fun z => h1 z.2), if_neg h1]
    by_cases h2 : x.cps.toList < y.cps.toList
    · rw [if_pos h2]
    · rw [if_neg h2, str_tri h2 h1]
theorem steps_mem {c : Cart} : ∀ s ∈ steps c, s.1 = c := by
  unfold steps
  intro s hs
  split at hs <;> simp only [List.mem_cons, List.not_mem_nil, or_false] at hs
  · rcases hs with rfl | rfl <;> rfl
  · rw [hs]
theorem steps_len {c : Cart} : 1 ≤ (steps c).length ∧ (steps c).length ≤ 2 := by unfold steps; split <;> simp
theorem steps_fine {c : Cart} (h : COK c) : Fine (.list ((steps c).map dStep)) := by
  unfold steps
  split
  · exact (Sm.list (.cons (step_sm (s := (c, false)) h) (.cons (step_sm (s := (c, true)) h) .nil))).fine (by decide) (by decide)
  · exact (Sm.list (.cons (step_sm (s := (c, false)) h) .nil)).fine (by decide) (by decide)
theorem heard_fine {s : Cart × Bool} (h : COK s.1) : Fine (dHeard s) := by
  have t1 : Sh "told" 4 := ⟨by decide +kernel, by decide +kernel⟩
  have t2 : Sh "fixed" 5 := ⟨by decide +kernel, by decide +kernel⟩
  unfold dHeard
  split
  · exact (Sm.tuple (.cons (Sm.str t1) (.cons (step_sm (s := (s.1, far s)) h) .nil))).fine (by decide) (by decide)
  · have i0 : Sm (.int 0) 0 0 := ⟨rfl, by decide +kernel, by decide +kernel, by decide, by simp [PyData.depth]⟩
    exact (Sm.tuple (.cons (Sm.str t2) (.cons i0 .nil))).fine (by decide) (by decide)
theorem bool_fine (x : Bool) : Fine (.bool x) := (Sm.bool x).fine (by decide) (by decide)
theorem ends_fine {x y : Str} (hx : KindS x) (hy : KindS y) : Fine (.list [.str x, .str y]) := (Sm.list (.cons (Sm.str hx.sh) (.cons (Sm.str hy.sh) .nil))).fine (by decide) (by decide)
theorem due_fine {a b c : Cart} (ha : COK a) (hb : COK b) (hc : COK c) : Fine (.list [dCart a, dCart b, dCart c]) := (Sm.list (.cons (cart_sm ha) (.cons (cart_sm hb) (.cons (cart_sm hc) .nil)))).fine (by decide) (by decide)
theorem beg_kind {s : Cart × Bool} (h : COK s.1) : KindS (beg s) := by
  unfold beg
  split
  · exact h.k
  · exact h.f
theorem fin_kind {s : Cart × Bool} (h : COK s.1) : KindS (fin s) := by
  unfold fin
  split
  · exact h.f
  · exact h.k
end
end K12

namespace K12
open PySem PySem.Spec PyProof.Rows L2 HK
/-- all that the law's def calls -/
structure TxL (K : PySem.W.Frag) (mg : Str → Option Value) (CE CF fI : Addr) (fTwo fCart fSteps fBegin fEnd fAbout fCouple fBag fTake fAlike fOne fKinds fLB fLE fLS fHeard : Addr) (dTwo dCart' dSteps dBegin dEnd dAbout dCouple dBag dTake dAlike dOne dKinds dLB dLE dLS dHeard' : FuncData) : Prop where
  b : TxB mg
  k : TxK mg
  a : TxA mg
  e : TxE K mg CE CF fI
  n_min : mg "min" = none
  n_max : mg "max" = none
  g1 : mg "has_two_steps" = some (.ref fTwo)
  F1 : Fun K "has_two_steps" "has_two_steps" sTwo fTwo dTwo
  b1 : Binds K dTwo ["cart"] []
  g2 : mg "cart_of" = some (.ref fCart)
  F2 : FunD K "cart_of" "cart_of" (defArgs sCart) (defBody sCart) (defScope sCart) [] [("turns", .bl false)] fCart dCart'
  g3 : mg "steps_of" = some (.ref fSteps)
  F3 : Fun K "steps_of" "steps_of" sSteps fSteps dSteps
  b3 : Binds K dSteps ["cart"] []
  g4 : mg "begin_of" = some (.ref fBegin)
  F4 : Fun K "begin_of" "begin_of" sBegin fBegin dBegin
  b4 : Binds K dBegin ["step"] []
  g5 : mg "end_of" = some (.ref fEnd)
  F5 : Fun K "end_of" "end_of" sEnd fEnd dEnd
  b5 : Binds K dEnd ["step"] []
  g6 : mg "about" = some (.ref fAbout)
  F6 : Fun K "about" "about" sAbout fAbout dAbout
  b6 : Binds K dAbout ["step"] []
  g7 : mg "couple" = some (.ref fCouple)
  F7 : Fun K "couple" "couple" sCouple fCouple dCouple
  b7 : Binds K dCouple ["step", "other"] []
  g8 : mg "_law_bag" = some (.ref fBag)
  F8 : Fun K "_law_bag" "_law_bag" sBag fBag dBag
  b8 : Binds K dBag ["_law_script"] []
  g9 : mg "_law_take" = some (.ref fTake)
  F9 : Fun K "_law_take" "_law_take" sTake fTake dTake
  b9 : Binds K dTake ["_law_bag_here", "_law_many"] []
  g10 : mg "_law_alike" = some (.ref fAlike)
  F10 : Fun K "_law_alike" "_law_alike" sAlike fAlike dAlike
  b10 : Binds K dAlike ["_law_found", "_law_due"] []
  g11 : mg "_law_one" = some (.ref fOne)
  F11 : Fun K "_law_one" "_law_one" sOne fOne dOne
  b11 : Binds K dOne ["_law_bag_here", "_law_things"] []
  g12 : mg "_law_kinds" = some (.ref fKinds)
  F12 : Fun K "_law_kinds" "_law_kinds" sKinds fKinds dKinds
  b12 : Binds K dKinds ["_law_bag_here", "_law_many"] []
  g13 : mg "_law_begin" = some (.ref fLB)
  F13 : Fun K "_law_begin" "_law_begin" sLBegin fLB dLB
  b13 : Binds K dLB ["_law_step"] []
  g14 : mg "_law_end" = some (.ref fLE)
  F14 : Fun K "_law_end" "_law_end" sLEnd fLE dLE
  b14 : Binds K dLE ["_law_step"] []
  g15 : mg "_law_steps" = some (.ref fLS)
  F15 : Fun K "_law_steps" "_law_steps" sLSteps fLS dLS
  b15 : Binds K dLS ["_law_cart"] []
  g16 : mg "_law_heard" = some (.ref fHeard)
  F16 : Fun K "_law_heard" "_law_heard" sHeard fHeard dHeard'
  b16 : Binds K dHeard' ["_law_step"] []
def spLaw (K : PySem.W.Frag) : Sp := fun vs H Q _ => ∃ (a : Addr) (ns : List Int), vs = [.ref a] ∧ SqL K H a (ns.map V.int) ∧ ns.length ≤ 63 ∧ ∀ H', Q (.bl true) H'
section
variable {P : Program} {w : World} {K : PySem.W.Frag} {mg : Str → Option Value} {base : Heap} {CE CF fI : Addr}
def lawN : List Str := ["_law_script", "_law_bag_here", "_law_turn", "_law_kinds_here", "_law_some", "_law_k", "_law_one_here", "_law_other", "_law_due", "_law_found", "_law_cart", "_law_again", "_law_step", "_law_far"]
theorem scLaw : FnScope ["_law_script", "_law_bag_here", "_law_turn", "_law_kinds_here", "_law_some", "_law_k", "_law_one_here", "_law_other", "_law_due", "_law_found", "_law_cart", "_law_again", "_law_step", "_law_far"] ["_law_script"] (defScope sLaw) := ⟨rfl, rfl, rfl, by decide +kernel, rfl, by decide +kernel, by decide +kernel⟩
/-- the carts of a turn: at so -/
def Carts (b : Addr) (H : Hp) (so : Addr) (cs : List Cart) : Prop := D b H (.ref so) (.list (cs.map dCart)) ∧ ∀ c ∈ cs, COK c
theorem Carts.kept {b so : Addr} {H H' : Hp} {cs : List Cart} (h : Carts b H so cs) (k : Keep b H H') : Carts b H' so cs := ⟨h.1.kept k, h.2⟩
/-- the kinds of a turn: at kl -/
structure KL (b : Addr) (H : Hp) (kl : Addr) (ks : List Str) : Prop where
  at' : H kl = some (.lst (ks.map V.str))
  nb : kl ≠ b
  lo : 1 ≤ ks.length
  hi : ks.length ≤ 8
  ok : ∀ k ∈ ks, KindS k
theorem KL.kept {b kl : Addr} {H H' : Hp} {ks : List Str} (h : KL b H kl ks) (k : Keep b H H') : KL b H' kl ks := ⟨k _ _ h.nb h.at', h.nb, h.lo, h.hi, h.ok⟩
theorem ok_law {fTwo fCart fSteps fBegin fEnd fAbout fCouple fBag fTake fAlike fOne fKinds fLB fLE fLS fHeard : Addr} {dTwo dCart' dSteps dBegin dEnd dAbout dCouple dBag dTake dAlike dOne dKinds dLB dLE dLS dHeard' : FuncData} {f : Addr} {fd : FuncData}
    (F : Fun K "law" "law" sLaw f fd) (T : TxL K mg CE CF fI fTwo fCart fSteps fBegin fEnd fAbout fCouple fBag fTake fAlike fOne fKinds fLB fLE fLS fHeard dTwo dCart' dSteps dBegin dEnd dAbout dCouple dBag dTake dAlike dOne dKinds dLB dLE dLS dHeard') :
    FnG P w K mg base CX0 5 f fd ["_law_script"] (spLaw K) := by
  have G1 : FnOk P w K mg base CX0 1 fTwo dTwo _ spTwo := ok_two T.F1
  have G2 : FnOk P w K mg base CX0 1 fCart dCart' _ spCart := ok_cart T.F2
  have G3 : FnOk P w K mg base CX0 2 fSteps dSteps _ spSteps := ok_steps T.F3 T.g1 T.F1 T.b1
  have G4 : FnOk P w K mg base CX0 1 fBegin dBegin _ spBeg := ok_begin T.F4
  have G5 : FnOk P w K mg base CX0 1 fEnd dEnd _ spFin := ok_end T.F5
  have G7 : FnOk P w K mg base CX0 2 fCouple dCouple _ spCouple := ok_couple T.F7 T.g5 T.F5 T.b5 T.g4 T.F4 T.b4
  have G8 : FnOk P w K mg base CX0 1 fBag dBag _ (spBag K) := ok_bag T.F8 T.b
  have G9 : FnOk P w K mg base CX0 1 fTake dTake _ spTake := ok_take T.F9 T.b
  have G10 : FnG P w K mg base CX0 1 fAlike dAlike _ (spAlike K) := ok_alike T.F10 T.a
  have G11 : FnOk P w K mg base CX0 2 fOne dOne _ spOne := ok_one T.F11 T.b T.g9 T.F9 T.b9
  have G12 : FnOk P w K mg base CX0 2 fKinds dKinds _ spKinds := ok_kinds T.F12 T.b T.k T.g9 T.F9 T.b9
  have G13 : FnOk P w K mg base CX0 1 fLB dLB _ spBeg := ok_lbegin T.F13
  have G14 : FnOk P w K mg base CX0 1 fLE dLE _ spFin := ok_lend T.F14
  have G15 : FnOk P w K mg base CX0 1 fLS dLS _ spSteps := ok_lsteps T.F15
  have G16 : FnOk P w K mg base CX0 4 fHeard dHeard' _ spHeard := ok_heard T.F16 T.e T.g6 T.F6 T.b6 T.g1 T.F1 T.b1
  obtain ⟨dsC, vC, bC⟩ := bd_cart T.F2
  have kC := kb_cart T.F2
  refine fnG F scLaw (fun vs H Q E h => ?_) (fun cdv A outer s H vs Q E hq hr4 h => ?_)
  · obtain ⟨a, ns, rfl, _⟩ := h
    rfl
  · obtain ⟨a, ns, rfl, hS, hl, k⟩ := h
    have nd := scLaw.nd
    have hr1 : Room 1 _ := hr4.mono (by decide)
    have hr2 : Room 2 _ := hr4.mono (by decide)
    refine ⟨_, (pss_cons (ps_set (i := 1) nd rfl (Or.inl rfl) (pe_call G8 hr1 rfl T.g8 T.F8.kp T.b8 .nil pass0 (pa_cons (pv 0) pa_nil)))
    (pss_cons (ps_for PassesOwn.never rfl (pi_range1 (by rfl) T.k.n_range (pa_cons pe_int pa_nil)) (pg_name (i := 2) nd rfl (Or.inl rfl))
      (C8.pss_cut (ps_par (i := 3) (j := 4) (by rfl) nd rfl rfl (by decide) rfl rfl (pa_cons (pe_call G12 hr2 rfl T.g12 T.F12.kp T.b12 .nil pass0 (pa_cons (pv 1) (pa_cons (pe_op op_add pe_int (pe_call G9 hr1 rfl T.g9 T.F9.kp T.b9 .nil pass0 (pa_cons (pv 1) (pa_cons pe_int pa_nil)))) pa_nil))) (pa_cons (pe_lst pa_nil) pa_nil)) (by rfl))
      (C8.pss_cut (ps_for PassesOwn.never rfl (pi_range1 (by rfl) T.k.n_range (pa_cons pe_int pa_nil)) (pg_name (i := 5) nd rfl (Or.inl rfl))
        (C8.pss_cut (ps_par (i := 6) (j := 7) (by rfl) nd rfl rfl (by decide) rfl rfl (pa_cons (pe_call G11 hr2 rfl T.g11 T.F11.kp T.b11 .nil pass0 (pa_cons (pv 1) (pa_cons (pv 3) pa_nil))) (pa_cons (pe_call G11 hr2 rfl T.g11 T.F11.kp T.b11 .nil pass0 (pa_cons (pv 1) (pa_cons (pv 3) pa_nil))) pa_nil)) (by rfl))
        (C8.pss_cut (ps_set (i := 8) nd rfl (Or.inl rfl) (pe_lst (pa_cons (pe_tup (pa_cons (pv 6) (pa_cons (pv 7) (pa_cons pe_bl pa_nil)))) (pa_cons (pe_tup (pa_cons (pv 6) (pa_cons (pv 7) (pa_cons pe_bl pa_nil)))) (pa_cons (pe_tup (pa_cons (pe_callB (call_minS rfl) (by rfl) T.n_min (by decide +kernel) (pa_cons (pv 6) (pa_cons (pv 7) pa_nil))) (pa_cons (pe_callB (call_maxS rfl) (by rfl) T.n_max (by decide +kernel) (pa_cons (pv 6) (pa_cons (pv 7) pa_nil))) (pa_cons pe_bl pa_nil)))) pa_nil)))))
        (C8.pss_cut (ps_set (i := 9) nd rfl (Or.inl rfl) (pe_lst (pa_cons (pe_call G2 hr1 rfl T.g2 T.F2.kp bC vC pass0 (pa_cons (pv 6) (pa_cons (pv 7) pa_nil))) (pa_cons (pe_callN G2 hr1 rfl T.g2 T.F2.kp kC pass0 (pa_cons (pv 6) (pa_cons (pv 7) pa_nil)) (pk_cons pe_bl pk_nil)) (pa_cons (pe_callN G2 hr1 rfl T.g2 T.F2.kp kC pass0 (pa_cons (pv 6) (pa_cons (pv 7) pa_nil)) (pk_cons pe_bl pk_nil)) pa_nil)))))
        (pss_cons (ps_if (pt_not (pt_val (pe_callG G10 hq hr1 rfl T.g10 T.F10.kp T.b10 pass0 (pa_cons (pv 9) (pa_cons (pv 8) pa_nil)))))
          (pss_one (ps_ret pe_bl))
           pss_nil)
        (pss_one (ps_set (i := 4) nd rfl (Or.inl rfl) (pe_op op_cat (pv 4) (pe_slice sl_list (pv 8) (po_some pe_int) po_none)))))))))
      (pss_one (ps_for PassesOwn.never rfl (pi_list (pv 4)) (pg_name (i := 10) nd rfl (Or.inl rfl))
        (C8.pss_cut (ps_for PassesOwn.never rfl (pi_range1 (by rfl) T.k.n_range (pa_cons pe_int pa_nil)) (pg_name (i := 11) nd rfl (Or.inl rfl))
          (pss_cons (ps_set (i := 9) nd rfl (Or.inl rfl) (pe_call G3 hr2 rfl T.g3 T.F3.kp T.b3 .nil pass0 (pa_cons (pv 10) pa_nil)))
          (pss_cons (ps_if (pt_not (pt_val (pe_callG G10 hq hr1 rfl T.g10 T.F10.kp T.b10 pass0 (pa_cons (pv 9) (pa_cons (pe_call G15 hr1 rfl T.g15 T.F15.kp T.b15 .nil pass0 (pa_cons (pv 10) pa_nil)) pa_nil)))))
            (pss_one (ps_ret pe_bl))
             pss_nil)
          (pss_one (ps_expr (pe_bm PySem.F.plainAttrs_list PySem.F.slot_list_append PySem.F.type_list_append mt_append (pv 9) (pa_cons pe_non pa_nil)))))))
        (pss_one (ps_for PassesOwn.never rfl (pi_list (pe_call G15 hr1 rfl T.g15 T.F15.kp T.b15 .nil pass0 (pa_cons (pv 10) pa_nil))) (pg_name (i := 12) nd rfl (Or.inl rfl))
          (C8.pss_cut (ps_if (pt_not (pt_val (pe_callG G10 hq hr1 rfl T.g10 T.F10.kp T.b10 pass0 (pa_cons (pe_lst (pa_cons (pe_call G4 hr1 rfl T.g4 T.F4.kp T.b4 .nil pass0 (pa_cons (pv 12) pa_nil)) (pa_cons (pe_call G5 hr1 rfl T.g5 T.F5.kp T.b5 .nil pass0 (pa_cons (pv 12) pa_nil)) pa_nil))) (pa_cons (pe_lst (pa_cons (pe_call G13 hr1 rfl T.g13 T.F13.kp T.b13 .nil pass0 (pa_cons (pv 12) pa_nil)) (pa_cons (pe_call G14 hr1 rfl T.g14 T.F14.kp T.b14 .nil pass0 (pa_cons (pv 12) pa_nil)) pa_nil))) pa_nil)))))
            (pss_one (ps_ret pe_bl))
             pss_nil)
          (C8.pss_cut (ps_set (i := 13) nd rfl (Or.inl rfl) (pe_ifExp (pt_cmpR op_ne (pe_ix ix_tup (pv 10) pe_int (fun _ _ => rfl)) (pe_ix ix_tup (pv 10) pe_int (fun _ _ => rfl)) (nomark _)) (pe_tup (pa_cons (pv 10) (pa_cons (pe_not (pe_ix ix_tup (pv 12) pe_int (fun _ _ => rfl))) pa_nil))) (pv 12)))
          (C8.pss_cut (ps_if (pt_not (pt_val (pe_callG G10 hq hr1 rfl T.g10 T.F10.kp T.b10 pass0 (pa_cons (pe_call G16 hr4 rfl T.g16 T.F16.kp T.b16 .nil pass0 (pa_cons (pv 12) pa_nil)) (pa_cons (pe_ifExp (pt_val (pe_ix ix_tup (pv 10) pe_int (fun _ _ => rfl))) (pe_tup (pa_cons pe_str (pa_cons (pv 13) pa_nil))) (pe_tup (pa_cons pe_str (pa_cons pe_int pa_nil)))) pa_nil)))))
            (pss_one (ps_ret pe_bl))
             pss_nil)
          (pss_cons (ps_set (i := 7) nd rfl (Or.inl rfl) (pe_call G11 hr2 rfl T.g11 T.F11.kp T.b11 .nil pass0 (pa_cons (pv 1) (pa_cons (pe_call G15 hr1 rfl T.g15 T.F15.kp T.b15 .nil pass0 (pa_cons (pe_call G11 hr2 rfl T.g11 T.F11.kp T.b11 .nil pass0 (pa_cons (pv 1) (pa_cons (pv 4) pa_nil))) pa_nil)) pa_nil))))
          (pss_one (ps_if (pt_not (pt_val (pe_callG G10 hq hr1 rfl T.g10 T.F10.kp T.b10 pass0 (pa_cons (pe_call G7 hr2 rfl T.g7 T.F7.kp T.b7 .nil pass0 (pa_cons (pv 12) (pa_cons (pv 7) pa_nil))) (pa_cons (pe_cmpR op_eq (pe_call G14 hr1 rfl T.g14 T.F14.kp T.b14 .nil pass0 (pa_cons (pv 12) pa_nil)) (pe_call G13 hr1 rfl T.g13 T.F13.kp T.b13 .nil pass0 (pa_cons (pv 7) pa_nil)) (nomark _)) pa_nil)))))
            (pss_one (ps_ret pe_bl))
             pss_nil))))))))))))))
    (pss_one (ps_ret pe_bl)))), ?_⟩
    refine ⟨_, rfl, a, ns, rfl, hS, hl, fun b H0 s0 n0 g0 => ?_⟩
    refine ⟨8, rfl, by decide, by decide, for_range (n := 8) (fun _ σ H1 => Bag b H1 ∧ ∃ v2 v3 v4 v5 v6 v7 v8 v9 v10 v11 v12 v13, σ = [some (.ref a), some (.ref b), v2, v3, v4, v5, v6, v7, v8, v9, v10, v11, v12, v13])
      ⟨g0, _, _, _, _, _, _, _, _, _, _, _, _, rfl⟩ ?_ (fun σ H1 _ => k H1)⟩
    rintro t σ H1 ht ⟨g1, v2, v3, v4, v5, v6, v7, v8, v9, v10, v11, v12, v13, rfl⟩
    -- kinds, no carts
    refine ⟨fun σ H2 => Bag b H2 ∧ ∃ kl ks so v2, KL b H2 kl ks ∧ Carts b H2 so [] ∧
      σ = [some (.ref a), some (.ref b), v2, some (.ref kl), some (.ref so), v5, v6, v7, v8, v9, v10, v11, v12, v13], ?_, ?_⟩
    · refine ⟨_, rfl, _, rfl, b, 4, rfl, g1, by decide, by decide, fun r H2 r0 r1 g2 k2 => ⟨_, _, rfl, rfl, ?_⟩⟩
      refine ⟨b, _, rfl, g2, by omega, by omega, fun ks kl H3 lk kk nk hk g3 k3 => ?_⟩
      refine ⟨Nat.zero_le _, fun so nso => ?_⟩
      refine ⟨_, _, rfl, g3.same (Same.new nso), kl, ks, so, _, ⟨(Same.new nso) _ _ hk, g2.ne nk, by omega, by omega, kk⟩, ⟨D.newL (g3.ne nso) nso .nil, fun c hc => (List.not_mem_nil hc).elim⟩, rfl⟩
    rintro σ H2 ⟨g2, kl, ks, so, v2', hk, hso, rfl⟩
    -- four times three carts
    refine ⟨fun σ H3 => Bag b H3 ∧ ∃ so cs v2 v3 v5 v6 v7 v8 v9, Carts b H3 so cs ∧ 1 ≤ cs.length ∧ cs.length ≤ 8 ∧
      σ = [some (.ref a), some (.ref b), v2, v3, some (.ref so), v5, v6, v7, v8, v9, v10, v11, v12, v13], ?_, ?_⟩
    · refine ⟨4, rfl, by decide, by decide, for_range (n := 4) (fun i σ H3 => Bag b H3 ∧ ∃ so cs v5 v6 v7 v8 v9, KL b H3 kl ks ∧ Carts b H3 so cs ∧ cs.length = 2 * i ∧
        σ = [some (.ref a), some (.ref b), v2', some (.ref kl), some (.ref so), v5, v6, v7, v8, v9, v10, v11, v12, v13]) ⟨g2, so, [], _, _, _, _, _, hk, hso, rfl, rfl⟩ ?_ ?_⟩
      · rintro i σ H3 hi ⟨g3, so, cs, v5, v6, v7, v8, v9, hk, hso, lcs, rfl⟩
        refine ⟨fun σ H4 => Bag b H4 ∧ ∃ x y, KindS x ∧ KindS y ∧ KL b H4 kl ks ∧ Carts b H4 so cs ∧ ∃ v5, σ = [some (.ref a), some (.ref b), v2', some (.ref kl), some (.ref so), v5, some (.str x), some (.str y), v8, v9, v10, v11, v12, v13], ?_, ?_⟩
        · have lz : ∀ {H}, KL b H kl ks → (ks.map V.str).length < 1073741824 ∧ 1 ≤ (ks.map V.str).length := fun {H} z => by
            have := z.hi
            have := z.lo
            rw [List.length_map]
            omega
          have pick : ∀ {j : Nat} {v : V}, (ks.map V.str)[j]? = some v → ∃ x, v = .str x ∧ KindS x := fun {j v} e => by
            rw [List.getElem?_map] at e
            cases q : ks[j]? with
            | none => rw [q] at e; cases e
            | some x =>
              rw [q] at e
              cases e
              exact ⟨x, rfl, hk.ok x (List.mem_of_getElem? q)⟩
          refine ⟨_, rfl, _, rfl, b, kl, _, rfl, g3, hk.nb, hk.at', (lz hk).2, (lz hk).1, fun j v H4 e g4 k4 => ?_⟩
          obtain ⟨x, rfl, kx⟩ := pick e
          have hk4 := hk.kept k4
          refine ⟨_, rfl, _, rfl, b, kl, _, rfl, g4, hk4.nb, hk4.at', (lz hk4).2, (lz hk4).1, fun j' v' H5 e' g5 k5 => ?_⟩
          obtain ⟨y, rfl, ky⟩ := pick e'
          exact ⟨_, _, rfl, g5, x, y, kx, ky, hk4.kept k5, (hso.kept k4).kept k5, _, rfl⟩
        rintro σ H4 ⟨g4, x, y, kx, ky, hk, hso, v5', rfl⟩
        have l3 : (3 : Nat) ≤ sizeLine := by decide
        have c1 : COK ⟨x, y, false⟩ := ⟨kx, ky⟩
        have c3 : COK ⟨minS x y, maxS x y, true⟩ := ⟨minS_kind kx ky, maxS_kind kx ky⟩
        refine ⟨fun σ H5 => Bag b H5 ∧ ∃ du r1 r2 r3, KL b H5 kl ks ∧ Carts b H5 so cs ∧ du ≠ b ∧ H5 du = some (.lst [r1, r2, r3]) ∧ D b H5 r1 (dCart ⟨x, y, false⟩) ∧ D b H5 r2 (dCart ⟨x, y, false⟩) ∧ D b H5 r3 (dCart ⟨minS x y, maxS x y, true⟩) ∧
          σ = [some (.ref a), some (.ref b), v2', some (.ref kl), some (.ref so), v5', some (.str x), some (.str y), some (.ref du), v9, v10, v11, v12, v13], ?_, ?_⟩
        · refine ⟨_, rfl, _, rfl, l3, fun p1 n1 => ⟨_, rfl, _, rfl, l3, fun p2 n2 => ⟨_, rfl, _, rfl, x, y, rfl, _, rfl, _, rfl, x, y, rfl, l3, fun p3 n3 => ⟨l3, fun du n4 => ?_⟩⟩⟩⟩
          have s1 := Same.new (o := .tup [.str x, .str y, .bl false]) n1
          have s2 := Same.new (o := .tup [.str x, .str y, .bl false]) n2
          have s3 := Same.new (o := .tup [.str (minS x y), .str (maxS x y), .bl true]) n3
          have s4 := Same.new (o := .lst [.ref p1, .ref p2, .ref p3]) n4
          have g5 := g4.same s1
          have g6 := g5.same s2
          have g7 := g6.same s3
          have kp := Keep.of (b := b) (s1.trans (s2.trans (s3.trans s4)))
          exact ⟨g7.same s4, du, _, _, _, hk.kept kp, hso.kept kp, g7.ne n4, upd_same, (D.newT (g4.ne n1) n1 (.cons (.str _) (.cons (.str _) (.cons (.bl _) .nil)))).same (s2.trans (s3.trans s4)),
            (D.newT (g5.ne n2) n2 (.cons (.str _) (.cons (.str _) (.cons (.bl _) .nil)))).same (s3.trans s4), (D.newT (g6.ne n3) n3 (.cons (.str _) (.cons (.str _) (.cons (.bl _) .nil)))).same s4, rfl⟩
        rintro σ H5 ⟨g5, du, r1, r2, r3, hk, hso, ndu, hdu, d1, d2, d3, rfl⟩
        have ddu : D b H5 (.ref du) (.list [dCart ⟨x, y, false⟩, dCart ⟨x, y, false⟩, dCart ⟨minS x y, maxS x y, true⟩]) := .lst ndu hdu (.cons d1 (.cons d2 (.cons d3 .nil)))
        refine ⟨fun σ H6 => Bag b H6 ∧ Keep b H5 H6 ∧ ∃ fo, D b H6 (.ref fo) (.list [dCart ⟨x, y, false⟩, dCart ⟨x, y, false⟩, dCart ⟨minS x y, maxS x y, true⟩]) ∧
          σ = [some (.ref a), some (.ref b), v2', some (.ref kl), some (.ref so), v5', some (.str x), some (.str y), some (.ref du), some (.ref fo), v10, v11, v12, v13], ?_, ?_⟩
        · refine ⟨_, rfl, _, rfl, x, y, false, rfl, fun p1 n1 => ⟨_, rfl, _, rfl, rfl, rfl, x, y, false, rfl, fun p2 n2 => ⟨_, rfl, _, rfl, rfl, rfl, x, y, true, rfl, fun p3 n3 => ⟨l3, fun fo n4 => ?_⟩⟩⟩⟩
          have dc : ∀ (c : Cart) {H : Hp}, DAll b H [.str c.f, .str c.k, .bl c.t] [.str c.f, .str c.k, .bool c.t] := fun c {H} => .cons (.str _) (.cons (.str _) (.cons (.bl _) .nil))
          have s1 := Same.new (o := .tup [.str (mk x y false).f, .str (mk x y false).k, .bl (mk x y false).t]) n1
          have s2 := Same.new (o := .tup [.str (mk x y false).f, .str (mk x y false).k, .bl (mk x y false).t]) n2
          have s3 := Same.new (o := .tup [.str (mk x y true).f, .str (mk x y true).k, .bl (mk x y true).t]) n3
          have s4 := Same.new (o := .lst [.ref p1, .ref p2, .ref p3]) n4
          have g6 := g5.same s1
          have g7 := g6.same s2
          have g8 := g7.same s3
          have e1 : dCart (mk x y false) = dCart ⟨x, y, false⟩ := congrArg dCart mk_false
          have e3 : dCart (mk x y true) = dCart ⟨minS x y, maxS x y, true⟩ := congrArg dCart mk_true
          refine ⟨g8.same s4, Keep.of (s1.trans (s2.trans (s3.trans s4))), fo, ?_, rfl⟩
          rw [← e1, ← e3]
          exact .lst (g8.ne n4) upd_same (.cons ((D.newT (g5.ne n1) n1 (dc (mk x y false))).same (s2.trans (s3.trans s4))) (.cons ((D.newT (g6.ne n2) n2 (dc (mk x y false))).same (s3.trans s4)) (.cons ((D.newT (g7.ne n3) n3 (dc (mk x y true))).same s4) .nil)))
        rintro σ H6 ⟨g6, k6, fo, dfo, rfl⟩
        refine ⟨_, rfl, _, rfl, _, _, _, rfl, dfo.dp, (ddu.kept k6).dp, due_fine c1 c1 c3, true, rfl, ?_⟩
        refine iteF ?_
        obtain ⟨so', xs, es, nso, hxs, dxs⟩ := D.lstI (hso.kept k6).1
        cases es
        refine ⟨_, rfl, _, rfl, 1, rfl, du, _, rfl, SqL.of (k6 _ _ ndu hdu), fun p np => ?_⟩
        have lx : xs.length = 2 * i := by rw [dxs.len, List.length_map, lcs]
        refine ⟨so, p, xs, [r2, r3], rfl, rfl, (Same.new np) _ _ hxs, upd_same, (Nat.le_trans (show xs.length + 2 ≤ 20 by omega) (by decide)), fun q nq => ?_⟩
        have s1 := Same.new (o := .lst [r2, r3]) np
        have s2 := Same.new (o := .lst (xs ++ [r2, r3])) nq
        have kp := k6.trans (Keep.of (s1.trans s2))
        refine ⟨g6.same (s1.trans s2), q, cs ++ [⟨x, y, false⟩, ⟨minS x y, maxS x y, true⟩], _, _, _, _, _, hk.kept kp, ⟨?_, ?_⟩, ?_, rfl⟩
        · rw [List.map_append]
          exact .lst ((g6.same s1).ne nq) upd_same (DAll.append (dxs.same (s1.trans s2)) (.cons (d2.kept kp) (.cons (d3.kept kp) .nil)))
        · intro c hc
          rcases List.mem_append.mp hc with hc | hc
          · exact hso.2 c hc
          · simp only [List.mem_cons, List.not_mem_nil, or_false] at hc
            rcases hc with rfl | rfl
            · exact c1
            · exact c3
        · rw [List.length_append, lcs]
          show 2 * i + 2 = 2 * (i + 1)
          omega
      · rintro σ H3 ⟨g3, so, cs, v5, v6, v7, v8, v9, hk, hso, lcs, rfl⟩
        exact ⟨g3, so, cs, _, _, _, _, _, _, _, hso, by omega, by omega, rfl⟩
    rintro σ H3 ⟨g3, so, cs, v2, v3, v5, v6, v7, v8, v9, hso, l1, l8, rfl⟩
    -- cart by cart
    obtain ⟨so', xs, es, nso, hxs, dxs⟩ := D.lstI hso.1
    cases es
    have lx : xs.length = cs.length := by rw [dxs.len, List.length_map]
    refine ⟨_, rfl, so, rfl, ⟨_, SqL.of hxs⟩, for_list (K := K) (a := so) (xs := xs) (fun i σ H4 => Bag b H4 ∧ Keep b H3 H4 ∧ ∃ v2 v3 v5 v6 v7 v8 v9 v10 v11 v12 v13, σ = [some (.ref a), some (.ref b), v2, v3, some (.ref so), v5, v6, v7, v8, v9, v10, v11, v12, v13])
      ⟨g3, Keep.refl _ _, _, _, _, _, _, _, _, _, _, _, _, rfl⟩ (fun i σ H4 _ z => SqL.of (z.2.1 _ _ nso hxs)) ?_ ?_⟩
    · rintro i x σ H4 hi ⟨g4, k4, v2, v3, v5, v6, v7, v8, v9, v10, v11, v12, v13, rfl⟩
      obtain ⟨d, hd, dx⟩ := dxs.get hi
      obtain ⟨c, hc, rfl⟩ : ∃ c, cs[i]? = some c ∧ dCart c = d := by simpa [List.getElem?_map] using hd
      have hcok : COK c := hso.2 c (List.mem_of_getElem? hc)
      have dx4 := dx.kept k4
      refine ⟨fun σ H5 => Bag b H5 ∧ Keep b H4 H5 ∧ ∃ v9 v11, σ = [some (.ref a), some (.ref b), v2, v3, some (.ref so), v5, v6, v7, v8, v9, some x, v11, v12, v13], ?_, ?_⟩
      · refine ⟨2, rfl, by decide, by decide, for_range (n := 2) (fun _ σ H5 => Bag b H5 ∧ Keep b H4 H5 ∧ ∃ v9 v11, σ = [some (.ref a), some (.ref b), v2, v3, some (.ref so), v5, v6, v7, v8, v9, some x, v11, v12, v13])
          ⟨g4, Keep.refl _ _, _, _, rfl⟩ ?_ (fun σ H5 z => z)⟩
        rintro j σ H5 hj ⟨g5, k5, v9, v11, rfl⟩
        refine ⟨_, rfl, b, x, c, rfl, g5.on, dx4.kept k5, fun p ys H6 s6 np hp dys => ?_⟩
        have g6 := g5.same s6
        refine ⟨_, rfl, _, rfl, b, x, c, rfl, g6.on, (dx4.kept k5).same s6, fun q zs H7 s7 nq hq' dzs => ?_⟩
        have npb : p ≠ b := g5.ne np
        refine ⟨_, _, _, rfl, (D.lst npb (s7 _ _ hp) (dys.same s7)).dp, (D.lst (g6.ne nq) hq' dzs).dp, steps_fine hcok, true, rfl, ?_⟩
        refine iteF ?_
        refine ⟨_, rfl, .inl ⟨rfl, _, SqL.of (s7 _ _ hp)⟩, p, _, _, rfl, rfl, s7 _ _ hp, ?_, ?_⟩
        · have := dys.len
          have e := steps_len (c := c)
          rw [List.length_map] at this
          exact small1000 (by omega)
        · exact ⟨g5.same (Same.newer (s6.trans s7) np), k5.trans (Keep.of (Same.newer (s6.trans s7) np)), _, _, rfl⟩
      rintro σ H5 ⟨g5, k5, v9, v11, rfl⟩
      have l2 : (2 : Nat) ≤ sizeLine := by decide
      have dx5 := dx4.kept k5
      refine ⟨_, rfl, b, x, c, rfl, g5.on, dx5, fun p ys H6 s6 np hp dys => ?_⟩
      have g6 := g5.same s6
      have npb : p ≠ b := g5.ne np
      have dx6 := dx5.same s6
      have k46 : Keep b H4 H6 := k5.trans (Keep.of s6)
      obtain ⟨ac, rfl, nac, eac⟩ := cartI dx6
      have k36 : Keep b H3 H6 := k4.trans k46
      refine ⟨p, rfl, ⟨_, SqL.of hp⟩, for_list (K := K) (a := p) (xs := ys) (fun _ σ H7 => Bag b H7 ∧ Keep b H6 H7 ∧ ∃ v7 v12 v13, σ = [some (.ref a), some (.ref b), v2, v3, some (.ref so), v5, v6, v7, v8, v9, some (.ref ac), v11, v12, v13])
        ⟨g6, Keep.refl _ _, _, _, _, rfl⟩ (fun j σ H7 _ z => SqL.of (z.2.1 _ _ npb hp)) ?_ ?_⟩
      · rintro j y σ H7 hj ⟨g7, k7, v7, v12, v13, rfl⟩
        obtain ⟨d, hd', dy⟩ := dys.get hj
        obtain ⟨st, hst, rfl⟩ : ∃ st, (steps c)[j]? = some st ∧ dStep st = d := by simpa [List.getElem?_map] using hd'
        have e1 : st.1 = c := steps_mem st (List.mem_of_getElem? hst)
        have sok : COK st.1 := by rw [e1]; exact hcok
        have dy7 := dy.kept k7
        refine ⟨fun σ H8 => Bag b H8 ∧ Keep b H6 H8 ∧ ∃ v13, σ = [some (.ref a), some (.ref b), v2, v3, some (.ref so), v5, v6, v7, v8, v9, some (.ref ac), v11, some y, v13], ?_, ?_⟩
        · refine ⟨_, rfl, b, y, st, rfl, dy7, _, rfl, b, y, st, rfl, dy7, l2, fun p1 n1 => ?_⟩
          have s1 := Same.new (o := .lst [.str (beg st), .str (fin st)]) n1
          have g8 := g7.same s1
          have dy8 := dy7.same s1
          refine ⟨_, rfl, b, y, st, rfl, dy8, _, rfl, b, y, st, rfl, dy8, l2, fun p2 n2 => ?_⟩
          have s2 := Same.new (o := .lst [.str (beg st), .str (fin st)]) n2
          refine ⟨_, _, .list [.str (beg st), .str (fin st)], rfl, ((D.newL (g7.ne n1) n1 (.cons (.str _) (.cons (.str _) .nil))).same s2).dp, (D.newL (g8.ne n2) n2 (.cons (.str _) (.cons (.str _) .nil))).dp, ends_fine (beg_kind sok) (fin_kind sok), true, rfl, ?_⟩
          exact iteF ⟨g8.same s2, k7.trans (Keep.of (s1.trans s2)), _, rfl⟩
        rintro σ H8 ⟨g8, k8, v13, rfl⟩
        have dy8 := dy.kept k8
        have eac8 := k8 _ _ nac eac
        refine ⟨fun σ H9 => Bag b H9 ∧ Keep b H6 H9 ∧ ∃ vf u, D b H9 vf (dStep (c, u)) ∧ (c.t = true → u = far st) ∧ σ = [some (.ref a), some (.ref b), v2, v3, some (.ref so), v5, v6, v7, v8, v9, some (.ref ac), v11, some y, some vf], ?_, ?_⟩
        · refine ⟨_, rfl, ac, _, _, _, rfl, rfl, SqT.of eac8, rfl, _, rfl, ac, _, _, _, rfl, rfl, SqT.of eac8, rfl, rfl, _, rfl, ?_⟩
          refine ite2 (fun z => ?_) (fun z => ?_)
          · obtain ⟨ay, yc, rfl, nay, eay, dyc⟩ := stepI dy8
            refine ⟨_, rfl, _, rfl, ay, _, _, _, rfl, rfl, SqT.of eay, rfl, st.2, rfl, l2, fun p1 n1 => ?_⟩
            have s1 := Same.new (o := .tup [.ref ac, .bl (!st.2)]) n1
            refine ⟨g8.same s1, k8.trans (Keep.of s1), _, !st.2, D.newT (g8.ne n1) n1 (.cons ((dx6.kept k8)) (.cons (.bl _) .nil)), fun ht => ?_, rfl⟩
            have h2 : two st.1 = true := by
              unfold two
              rw [e1, ht, Bool.true_and, Bool.not_eq_true', decide_eq_false_iff_not]
              rw [Bool.not_eq_true', decide_eq_false_iff_not] at z
              exact fun q => z (congrArg V.str q)
            unfold far
            rw [if_pos h2]
          · refine ⟨_, rfl, g8, k8, y, st.2, ?_, fun ht => ?_, rfl⟩
            · have e : dStep (c, st.2) = dStep st := by unfold dStep; rw [e1]
              rw [e]
              exact dy8
            · have h2 : two st.1 = false := by
                unfold two
                rw [e1, ht, Bool.true_and, Bool.not_eq_false', decide_eq_true_iff]
                rw [Bool.not_eq_true, Bool.not_eq_false', decide_eq_true_iff] at z
                exact V.str.inj z
              unfold far
              rw [if_neg (by rw [h2]; exact Bool.false_ne_true)]
        rintro σ H9 ⟨g9, k9, vf, u, dvf, hu, rfl⟩
        have dy9 := dy.kept k9
        refine ⟨fun σ H10 => Bag b H10 ∧ Keep b H6 H10 ∧ σ = [some (.ref a), some (.ref b), v2, v3, some (.ref so), v5, v6, v7, v8, v9, some (.ref ac), v11, some y, some vf], ?_, ?_⟩
        · refine ⟨_, rfl, b, y, st, rfl, g9.on, dy9, fun vh H10 s10 dvh => ?_⟩
          have g10 := g9.same s10
          have eac10 := s10 _ _ (k9 _ _ nac eac)
          refine ⟨_, rfl, ac, _, _, _, rfl, rfl, SqT.of eac10, rfl, c.t, rfl, ?_⟩
          cases ht : c.t with
          | true =>
            refine iteT ⟨_, rfl, l2, fun p1 n1 => ?_⟩
            have s1 := Same.new (o := .tup [.str "told", vf]) n1
            have e : dHeard st = .tuple [.str "told", dStep (c, u)] := by unfold dHeard; rw [e1, ht, hu ht]; rfl
            rw [e] at dvh
            have hf := heard_fine sok
            rw [e] at hf
            exact ⟨_, _, _, rfl, (dvh.same s1).dp, (D.newT (g10.ne n1) n1 (.cons (.str _) (.cons (dvf.same s10) .nil))).dp, hf, true, rfl, iteF ⟨g10.same s1, k9.trans (Keep.of (s10.trans s1)), rfl⟩⟩
          | false =>
            refine iteF ⟨l2, fun p1 n1 => ?_⟩
            have s1 := Same.new (o := .tup [.str "fixed", .int 0]) n1
            have e : dHeard st = .tuple [.str "fixed", .int 0] := by unfold dHeard; rw [e1, ht]; rfl
            rw [e] at dvh
            have hf := heard_fine sok
            rw [e] at hf
            exact ⟨_, _, _, rfl, (dvh.same s1).dp, (D.newT (g10.ne n1) n1 (.cons (.str _) (.cons (.int _) .nil))).dp, hf, true, rfl, iteF ⟨g10.same s1, k9.trans (Keep.of (s10.trans s1)), rfl⟩⟩
        rintro σ H10 ⟨g10, k10, rfl⟩
        refine ⟨_, rfl, _, rfl, _, rfl, b, so, xs, rfl, g10, nso, (k36.trans k10) _ _ nso hxs, by omega, by omega, fun i1 x1 H11 e11 g11 k11 => ?_⟩
        obtain ⟨d1, hd1, dx1⟩ := dxs.get e11
        obtain ⟨c1, hc1, rfl⟩ : ∃ c1, cs[i1]? = some c1 ∧ dCart c1 = d1 := by simpa [List.getElem?_map] using hd1
        have k311 := (k36.trans k10).trans k11
        refine ⟨b, x1, c1, rfl, g11.on, dx1.kept k311, fun q zs H12 s12 nq hq' dzs => ?_⟩
        have g12 := g11.same s12
        have lz : zs.length = (steps c1).length := by rw [dzs.len, List.length_map]
        have ls := steps_len (c := c1)
        refine ⟨b, q, zs, rfl, g12, g11.ne nq, hq', by omega, by omega, fun i2 x2 H13 e13 g13 k13 => ?_⟩
        obtain ⟨d2, hd2, dx2⟩ := dzs.get e13
        obtain ⟨t2, ht2, rfl⟩ : ∃ t2, (steps c1)[i2]? = some t2 ∧ dStep t2 = d2 := by simpa [List.getElem?_map] using hd2
        have k613 : Keep b H6 H13 := ((k10.trans k11).trans (Keep.of s12)).trans k13
        have dy13 := dy.kept k613
        have dx13 := dx2.kept k13
        refine ⟨_, rfl, _, rfl, b, y, x2, st, t2, rfl, dy13, dx13, _, rfl, b, y, st, rfl, dy13, _, rfl, b, x2, t2, rfl, dx13, rfl, ?_⟩
        exact ⟨_, _, .bool (decide (V.str (fin st) = V.str (beg t2))), rfl, .bl _, .bl _, bool_fine _, true, rfl, iteF ⟨g13, k613, _, _, _, rfl⟩⟩
      · rintro σ H7 ⟨g7, k7, v7, v12, v13, rfl⟩
        exact ⟨g7, k36.trans k7, _, _, _, _, _, _, _, _, _, _, _, rfl⟩
    · rintro σ H4 ⟨g4, k4, v2, v3, v5, v6, v7, v8, v9, v10, v11, v12, v13, rfl⟩
      exact ⟨g4, _, _, _, _, _, _, _, _, _, _, _, _, rfl⟩
end
end K12

namespace K12
open PySem PySem.Spec PyProof.Rows L2 HK
theorem all_mk {P : Program} {w : World} {K : PySem.W.Frag} {h : Heap} {mg : Str → Option Value} {fa : Addr} {f1 f3 f4 f5 f6 f7 f8 f9 f10 f11 f12 f13 f14 f15 f16 f99 : Addr}
    {od1 an1 : Option Addr} {sl1 : Array (Option Value)} {oc1 kV1 dc1 pm1 cd1 ct1 : Value}
    {od3 an3 : Option Addr} {sl3 : Array (Option Value)} {oc3 kV3 dc3 pm3 cd3 ct3 : Value}
    {od4 an4 : Option Addr} {sl4 : Array (Option Value)} {oc4 kV4 dc4 pm4 cd4 ct4 : Value}
    {od5 an5 : Option Addr} {sl5 : Array (Option Value)} {oc5 kV5 dc5 pm5 cd5 ct5 : Value}
    {od6 an6 : Option Addr} {sl6 : Array (Option Value)} {oc6 kV6 dc6 pm6 cd6 ct6 : Value}
    {od7 an7 : Option Addr} {sl7 : Array (Option Value)} {oc7 kV7 dc7 pm7 cd7 ct7 : Value}
    {od8 an8 : Option Addr} {sl8 : Array (Option Value)} {oc8 kV8 dc8 pm8 cd8 ct8 : Value}
    {od9 an9 : Option Addr} {sl9 : Array (Option Value)} {oc9 kV9 dc9 pm9 cd9 ct9 : Value}
    {od10 an10 : Option Addr} {sl10 : Array (Option Value)} {oc10 kV10 dc10 pm10 cd10 ct10 : Value}
    {od11 an11 : Option Addr} {sl11 : Array (Option Value)} {oc11 kV11 dc11 pm11 cd11 ct11 : Value}
    {od12 an12 : Option Addr} {sl12 : Array (Option Value)} {oc12 kV12 dc12 pm12 cd12 ct12 : Value}
    {od13 an13 : Option Addr} {sl13 : Array (Option Value)} {oc13 kV13 dc13 pm13 cd13 ct13 : Value}
    {od14 an14 : Option Addr} {sl14 : Array (Option Value)} {oc14 kV14 dc14 pm14 cd14 ct14 : Value}
    {od15 an15 : Option Addr} {sl15 : Array (Option Value)} {oc15 kV15 dc15 pm15 cd15 ct15 : Value}
    {od16 an16 : Option Addr} {sl16 : Array (Option Value)} {oc16 kV16 dc16 pm16 cd16 ct16 : Value}
    {od99 an99 : Option Addr} {sl99 : Array (Option Value)} {oc99 kV99 dc99 pm99 cd99 ct99 : Value}
    {od2 an2 : Option Addr} {sl2 : Array (Option Value)} {oc2 dc2 pm2 cd2 ct2 : Value} {f2 D2 : Addr}
    {CE CF fI : Addr} {nm q : Str} {N' : Addr} {bs : List Value} {sn : List Str} {sub : List Value} {ab : Bool} {col : Option Bool} {dd : Option Addr} {m0 m1 m2 m3 m5 : Option Value} {odI anI : Option Addr} {slI : Array (Option Value)} {ocI dcI pmI cdI ctI : Value}
    (X : K.In h) (G : h.Ns mainGlobals mg) (hfa : mg "law" = some (.ref fa))
    (a1 : PySem.W.nsIn K mainGlobals "has_two_steps" = some (some (.ref f1)))
    (l1 : K.lookup f1 = some ⟨oc1, od1, .func (PySem.W.fnOf "has_two_steps" "has_two_steps" (defArgs sTwo) (defBody sTwo) (defScope sTwo) .none kV1 dc1 pm1 an1 cd1 ct1), sl1⟩)
    (c1 : PySem.W.codeIn K cd1 "has_two_steps" = true)
    (k1 : PySem.W.keepIn K (.ref f1) = true)
    (a3 : PySem.W.nsIn K mainGlobals "steps_of" = some (some (.ref f3)))
    (l3 : K.lookup f3 = some ⟨oc3, od3, .func (PySem.W.fnOf "steps_of" "steps_of" (defArgs sSteps) (defBody sSteps) (defScope sSteps) .none kV3 dc3 pm3 an3 cd3 ct3), sl3⟩)
    (c3 : PySem.W.codeIn K cd3 "steps_of" = true)
    (k3 : PySem.W.keepIn K (.ref f3) = true)
    (a4 : PySem.W.nsIn K mainGlobals "begin_of" = some (some (.ref f4)))
    (l4 : K.lookup f4 = some ⟨oc4, od4, .func (PySem.W.fnOf "begin_of" "begin_of" (defArgs sBegin) (defBody sBegin) (defScope sBegin) .none kV4 dc4 pm4 an4 cd4 ct4), sl4⟩)
    (c4 : PySem.W.codeIn K cd4 "begin_of" = true)
    (k4 : PySem.W.keepIn K (.ref f4) = true)
    (a5 : PySem.W.nsIn K mainGlobals "end_of" = some (some (.ref f5)))
    (l5 : K.lookup f5 = some ⟨oc5, od5, .func (PySem.W.fnOf "end_of" "end_of" (defArgs sEnd) (defBody sEnd) (defScope sEnd) .none kV5 dc5 pm5 an5 cd5 ct5), sl5⟩)
    (c5 : PySem.W.codeIn K cd5 "end_of" = true)
    (k5 : PySem.W.keepIn K (.ref f5) = true)
    (a6 : PySem.W.nsIn K mainGlobals "about" = some (some (.ref f6)))
    (l6 : K.lookup f6 = some ⟨oc6, od6, .func (PySem.W.fnOf "about" "about" (defArgs sAbout) (defBody sAbout) (defScope sAbout) .none kV6 dc6 pm6 an6 cd6 ct6), sl6⟩)
    (c6 : PySem.W.codeIn K cd6 "about" = true)
    (k6 : PySem.W.keepIn K (.ref f6) = true)
    (a7 : PySem.W.nsIn K mainGlobals "couple" = some (some (.ref f7)))
    (l7 : K.lookup f7 = some ⟨oc7, od7, .func (PySem.W.fnOf "couple" "couple" (defArgs sCouple) (defBody sCouple) (defScope sCouple) .none kV7 dc7 pm7 an7 cd7 ct7), sl7⟩)
    (c7 : PySem.W.codeIn K cd7 "couple" = true)
    (k7 : PySem.W.keepIn K (.ref f7) = true)
    (a8 : PySem.W.nsIn K mainGlobals "_law_bag" = some (some (.ref f8)))
    (l8 : K.lookup f8 = some ⟨oc8, od8, .func (PySem.W.fnOf "_law_bag" "_law_bag" (defArgs sBag) (defBody sBag) (defScope sBag) .none kV8 dc8 pm8 an8 cd8 ct8), sl8⟩)
    (c8 : PySem.W.codeIn K cd8 "_law_bag" = true)
    (k8 : PySem.W.keepIn K (.ref f8) = true)
    (a9 : PySem.W.nsIn K mainGlobals "_law_take" = some (some (.ref f9)))
    (l9 : K.lookup f9 = some ⟨oc9, od9, .func (PySem.W.fnOf "_law_take" "_law_take" (defArgs sTake) (defBody sTake) (defScope sTake) .none kV9 dc9 pm9 an9 cd9 ct9), sl9⟩)
    (c9 : PySem.W.codeIn K cd9 "_law_take" = true)
    (k9 : PySem.W.keepIn K (.ref f9) = true)
    (a10 : PySem.W.nsIn K mainGlobals "_law_alike" = some (some (.ref f10)))
    (l10 : K.lookup f10 = some ⟨oc10, od10, .func (PySem.W.fnOf "_law_alike" "_law_alike" (defArgs sAlike) (defBody sAlike) (defScope sAlike) .none kV10 dc10 pm10 an10 cd10 ct10), sl10⟩)
    (c10 : PySem.W.codeIn K cd10 "_law_alike" = true)
    (k10 : PySem.W.keepIn K (.ref f10) = true)
    (a11 : PySem.W.nsIn K mainGlobals "_law_one" = some (some (.ref f11)))
    (l11 : K.lookup f11 = some ⟨oc11, od11, .func (PySem.W.fnOf "_law_one" "_law_one" (defArgs sOne) (defBody sOne) (defScope sOne) .none kV11 dc11 pm11 an11 cd11 ct11), sl11⟩)
    (c11 : PySem.W.codeIn K cd11 "_law_one" = true)
    (k11 : PySem.W.keepIn K (.ref f11) = true)
    (a12 : PySem.W.nsIn K mainGlobals "_law_kinds" = some (some (.ref f12)))
    (l12 : K.lookup f12 = some ⟨oc12, od12, .func (PySem.W.fnOf "_law_kinds" "_law_kinds" (defArgs sKinds) (defBody sKinds) (defScope sKinds) .none kV12 dc12 pm12 an12 cd12 ct12), sl12⟩)
    (c12 : PySem.W.codeIn K cd12 "_law_kinds" = true)
    (k12 : PySem.W.keepIn K (.ref f12) = true)
    (a13 : PySem.W.nsIn K mainGlobals "_law_begin" = some (some (.ref f13)))
    (l13 : K.lookup f13 = some ⟨oc13, od13, .func (PySem.W.fnOf "_law_begin" "_law_begin" (defArgs sLBegin) (defBody sLBegin) (defScope sLBegin) .none kV13 dc13 pm13 an13 cd13 ct13), sl13⟩)
    (c13 : PySem.W.codeIn K cd13 "_law_begin" = true)
    (k13 : PySem.W.keepIn K (.ref f13) = true)
    (a14 : PySem.W.nsIn K mainGlobals "_law_end" = some (some (.ref f14)))
    (l14 : K.lookup f14 = some ⟨oc14, od14, .func (PySem.W.fnOf "_law_end" "_law_end" (defArgs sLEnd) (defBody sLEnd) (defScope sLEnd) .none kV14 dc14 pm14 an14 cd14 ct14), sl14⟩)
    (c14 : PySem.W.codeIn K cd14 "_law_end" = true)
    (k14 : PySem.W.keepIn K (.ref f14) = true)
    (a15 : PySem.W.nsIn K mainGlobals "_law_steps" = some (some (.ref f15)))
    (l15 : K.lookup f15 = some ⟨oc15, od15, .func (PySem.W.fnOf "_law_steps" "_law_steps" (defArgs sLSteps) (defBody sLSteps) (defScope sLSteps) .none kV15 dc15 pm15 an15 cd15 ct15), sl15⟩)
    (c15 : PySem.W.codeIn K cd15 "_law_steps" = true)
    (k15 : PySem.W.keepIn K (.ref f15) = true)
    (a16 : PySem.W.nsIn K mainGlobals "_law_heard" = some (some (.ref f16)))
    (l16 : K.lookup f16 = some ⟨oc16, od16, .func (PySem.W.fnOf "_law_heard" "_law_heard" (defArgs sHeard) (defBody sHeard) (defScope sHeard) .none kV16 dc16 pm16 an16 cd16 ct16), sl16⟩)
    (c16 : PySem.W.codeIn K cd16 "_law_heard" = true)
    (k16 : PySem.W.keepIn K (.ref f16) = true)
    (a99 : PySem.W.nsIn K mainGlobals "law" = some (some (.ref f99)))
    (l99 : K.lookup f99 = some ⟨oc99, od99, .func (PySem.W.fnOf "law" "law" (defArgs sLaw) (defBody sLaw) (defScope sLaw) .none kV99 dc99 pm99 an99 cd99 ct99), sl99⟩)
    (c99 : PySem.W.codeIn K cd99 "law" = true)
    (k99 : PySem.W.keepIn K (.ref f99) = true)
    (a2 : PySem.W.nsIn K mainGlobals "cart_of" = some (some (.ref f2)))
    (l2 : K.lookup f2 = some ⟨oc2, od2, .func (PySem.W.fnOf "cart_of" "cart_of" (defArgs sCart) (defBody sCart) (defScope sCart) .none (.ref D2) dc2 pm2 an2 cd2 ct2), sl2⟩)
    (c2 : PySem.W.codeIn K cd2 "cart_of" = true)
    (k2 : PySem.W.keepIn K (.ref f2) = true)
    (d2 : PySem.W.nsIn K D2 "turns" = some (some (.bool false)))
    (eE : PySem.W.nsIn K mainGlobals "CartError" = some (some (.ref CE)))
    (eF : PySem.W.nsIn K mainGlobals "Fixed" = some (some (.ref CF)))
    (xL : K.lookup CF = some (excClassObj nm q CF N' bs [.ref CE, .type "ValueError", .type "Exception", .type "BaseException", .type "object"] true sn sub ab col dd m0 m1 m2 m3 m5 "ValueError.__new__"))
    (sa : PySem.W.findIn K (.ref CF) "__setattr__" = some (some (.builtin "object.__setattr__")))
    (ga : PySem.W.findIn K (.ref CF) "__getattribute__" = some (some (.builtin "BaseException.__getattribute__")))
    (gg : PySem.W.findIn K (.ref CF) "__getattr__" = some none)
    (nb : PySem.W.findIn K (.ref CF) "index" = some none)
    (aI : PySem.W.findIn K (.ref CF) "__init__" = some (some (.ref fI)))
    (tI : PySem.W.typeIn K (.ref fI) = some (.type "function"))
    (lI : K.lookup fI = some ⟨ocI, odI, .func (PySem.W.fnOf "__init__" "Fixed.__init__" (defArgs (inClass (top 2) 0)) (defBody (inClass (top 2) 0)) (defScope (inClass (top 2) 0)) .none .none dcI pmI anI cdI ctI), slI⟩)
    (cI : PySem.W.codeIn K cdI "Fixed.__init__" = true)
    (kC : PySem.W.keepIn K (.ref CF) = true)
    (eC : PySem.W.subIn K (.ref CF) (.type "BaseException") = some true)
    (tC : PySem.W.typeIn K (.ref CF) = some (.type "type"))
    (hC : PySem.W.hasDictIn K CF = true)
    (iC : PySem.W.isClsIn K CF = true)
    (sC : PySem.W.subIn K (.ref CF) (.ref CF) = some true)
    (eB : PySem.W.subIn K (.ref CE) (.type "BaseException") = some true)
    (hE : PySem.W.hasDictIn K CE = true)
    (tE : PySem.W.typeIn K (.ref CE) = some (.type "type"))
    (sE : PySem.W.subIn K (.ref CF) (.ref CE) = some true)
    (clF : PySem.W.findIn K (.ref CF) "__class__" = some (some (.builtin "object.__class__")))
    (spF : PySem.W.specialIn K (.builtin "object.__class__") "__get__" = some (some (.builtin "getset_descriptor.__get__")))
    (tkF : PySem.W.takesIn K (.builtin "object.__class__") = some true)
    (mrF : PySem.W.mroIn K CF (.type "object") = some true)
    (z_abs : PySem.W.nsIn K mainGlobals "abs" = some none)
    (z_len : PySem.W.nsIn K mainGlobals "len" = some none)
    (z_int : PySem.W.nsIn K mainGlobals "int" = some none)
    (z_repr : PySem.W.nsIn K mainGlobals "repr" = some none)
    (z_range : PySem.W.nsIn K mainGlobals "range" = some none)
    (z_sorted : PySem.W.nsIn K mainGlobals "sorted" = some none)
    (z_min : PySem.W.nsIn K mainGlobals "min" = some none)
    (z_max : PySem.W.nsIn K mainGlobals "max" = some none)
    (z_isinstance : PySem.W.nsIn K mainGlobals "isinstance" = some none) :
    ∃ fd : FuncData, (∀ (s : Shared) (v : Value), BindsTo s fd ⟨[v], []⟩ [("_law_script", v)]) ∧ ∀ base : Heap, K.In base → base.Ns mainGlobals mg → FnG P w K mg base CX0 5 fa fd ["_law_script"] (spLaw K) := by
  have e := hfa.symm.trans (PySem.W.mg_of X G a99)
  cases e
  have N : ∀ {x : Str}, PySem.W.nsIn K mainGlobals x = some none → mg x = none := fun z => PySem.W.mg_none_of X G z
  have M : ∀ {x : Str} {v : Value}, PySem.W.nsIn K mainGlobals x = some (some v) → mg x = some v := fun z => PySem.W.mg_of X G z
  have fx : PySem.FxX.FxTxt K mg CF fI :=
    { gC := M eF, cls := ⟨nm, q, N', bs, _, sn, sub, ab, col, dd, m0, m1, m2, m3, m5, xL, (show PySem.HandSPX.refsVE [.type "ValueError", .type "Exception", .type "BaseException", .type "object"] = true by decide +kernel)⟩, sa := sa, ga := ga, gg := gg, noN := nb, iC := aI, tC := tI, kC := kC, exC := eC, tyC := tC, hdC := hC, te := PySem.W.exm_ref eC hC tC sC,
      fn := ⟨_, _, _, _, _, _, _, _, _, _, _, _, _, _, lI, cI⟩ }
  have te : TxE K mg CE CF fI := ⟨fx, M eE, PySem.W.exm_ref eB hE tE sE, ⟨ga, gg, eC, hC, clF, spF, tkF, mrF⟩, if_pos (beq_self_eq_true _), N z_isinstance⟩
  have FD : FunD K "cart_of" "cart_of" (defArgs sCart) (defBody sCart) (defScope sCart) [] [("turns", .bl false)] f2 _ :=
    ⟨⟨_, _, _, _, _, _, _, _, _, _, rfl, l2, c2, .inl ⟨rfl, rfl⟩, .inr ⟨D2, rfl, fun p hp => by rw [List.mem_singleton.mp hp]; exact ⟨_, d2, rfl⟩⟩⟩, k2⟩
  have F1 := fun_mk (st := sTwo) l1 c1 k1
  have b1 := F1.binds (ps := ["cart"]) fun _ _ _ _ _ _ us hl => match us, hl with | [_], _ => rfl
  have F3 := fun_mk (st := sSteps) l3 c3 k3
  have b3 := F3.binds (ps := ["cart"]) fun _ _ _ _ _ _ us hl => match us, hl with | [_], _ => rfl
  have F4 := fun_mk (st := sBegin) l4 c4 k4
  have b4 := F4.binds (ps := ["step"]) fun _ _ _ _ _ _ us hl => match us, hl with | [_], _ => rfl
  have F5 := fun_mk (st := sEnd) l5 c5 k5
  have b5 := F5.binds (ps := ["step"]) fun _ _ _ _ _ _ us hl => match us, hl with | [_], _ => rfl
  have F6 := fun_mk (st := sAbout) l6 c6 k6
  have b6 := F6.binds (ps := ["step"]) fun _ _ _ _ _ _ us hl => match us, hl with | [_], _ => rfl
  have F7 := fun_mk (st := sCouple) l7 c7 k7
  have b7 := F7.binds (ps := ["step", "other"]) fun _ _ _ _ _ _ us hl => match us, hl with | [_, _], _ => rfl
  have F8 := fun_mk (st := sBag) l8 c8 k8
  have b8 := F8.binds (ps := ["_law_script"]) fun _ _ _ _ _ _ us hl => match us, hl with | [_], _ => rfl
  have F9 := fun_mk (st := sTake) l9 c9 k9
  have b9 := F9.binds (ps := ["_law_bag_here", "_law_many"]) fun _ _ _ _ _ _ us hl => match us, hl with | [_, _], _ => rfl
  have F10 := fun_mk (st := sAlike) l10 c10 k10
  have b10 := F10.binds (ps := ["_law_found", "_law_due"]) fun _ _ _ _ _ _ us hl => match us, hl with | [_, _], _ => rfl
  have F11 := fun_mk (st := sOne) l11 c11 k11
  have b11 := F11.binds (ps := ["_law_bag_here", "_law_things"]) fun _ _ _ _ _ _ us hl => match us, hl with | [_, _], _ => rfl
  have F12 := fun_mk (st := sKinds) l12 c12 k12
  have b12 := F12.binds (ps := ["_law_bag_here", "_law_many"]) fun _ _ _ _ _ _ us hl => match us, hl with | [_, _], _ => rfl
  have F13 := fun_mk (st := sLBegin) l13 c13 k13
  have b13 := F13.binds (ps := ["_law_step"]) fun _ _ _ _ _ _ us hl => match us, hl with | [_], _ => rfl
  have F14 := fun_mk (st := sLEnd) l14 c14 k14
  have b14 := F14.binds (ps := ["_law_step"]) fun _ _ _ _ _ _ us hl => match us, hl with | [_], _ => rfl
  have F15 := fun_mk (st := sLSteps) l15 c15 k15
  have b15 := F15.binds (ps := ["_law_cart"]) fun _ _ _ _ _ _ us hl => match us, hl with | [_], _ => rfl
  have F16 := fun_mk (st := sHeard) l16 c16 k16
  have b16 := F16.binds (ps := ["_law_step"]) fun _ _ _ _ _ _ us hl => match us, hl with | [_], _ => rfl
  have F99 := fun_mk (st := sLaw) l99 c99 k99
  exact ⟨_, fun s v => .of_eq rfl, fun base _ _ => ok_law F99
    { b := ⟨N z_abs, N z_len, N z_int⟩, k := ⟨N z_range, N z_sorted⟩, a := ⟨N z_repr⟩, e := te, n_min := N z_min, n_max := N z_max, g2 := M a2, F2 := FD,
      g1 := M a1, F1 := F1, b1 := b1, g3 := M a3, F3 := F3, b3 := b3, g4 := M a4, F4 := F4, b4 := b4, g5 := M a5, F5 := F5, b5 := b5, g6 := M a6, F6 := F6, b6 := b6, g7 := M a7, F7 := F7, b7 := b7, g8 := M a8, F8 := F8, b8 := b8, g9 := M a9, F9 := F9, b9 := b9, g10 := M a10, F10 := F10, b10 := b10, g11 := M a11, F11 := F11, b11 := b11, g12 := M a12, F12 := F12, b12 := b12, g13 := M a13, F13 := F13, b13 := b13, g14 := M a14, F14 := F14, b14 := b14, g15 := M a15, F15 := F15, b15 := b15, g16 := M a16, F16 := F16, b16 := b16 }⟩
end K12
open PySem PySem.W PyProof.Rows in
set_option maxRecDepth 100000 in
set_option maxHeartbeats 0 in
theorem PySem.Challenge.cw_hookcarts_k12_carts_and_steps_holds : PySem.Challenge.rw_hookcarts_k12_carts_and_steps.Holds := by
  w_on; o_law; k_head; (case hw => w_witness2)
  k_fill
  refine HK.walkG (l := PySem.Challenge.rw_hookcarts_k12_carts_and_steps) (n := 63) (k := 5) (x := "_law_script") (sp := K12.spLaw) rfl (by decide) rfl ⟨rfl, by decide, by decide⟩ (fun w h Y => PySem.W.kIn_of Y) ?F (fun K H a ns hl _ _ hS => ⟨a, ns, rfl, hS, hl, fun _ => rfl⟩)
  case F =>
    intro w mg fa h KX G hmg
    refine' K12.all_mk KX G hmg ?a1 ?l1 ?c1 ?k1 ?a3 ?l3 ?c3 ?k3 ?a4 ?l4 ?c4 ?k4 ?a5 ?l5 ?c5 ?k5 ?a6 ?l6 ?c6 ?k6 ?a7 ?l7 ?c7 ?k7 ?a8 ?l8 ?c8 ?k8 ?a9 ?l9 ?c9 ?k9 ?a10 ?l10 ?c10 ?k10 ?a11 ?l11 ?c11 ?k11 ?a12 ?l12 ?c12 ?k12 ?a13 ?l13 ?c13 ?k13 ?a14 ?l14 ?c14 ?k14 ?a15 ?l15 ?c15 ?k15 ?a16 ?l16 ?c16 ?k16 ?a99 ?l99 ?c99 ?k99 ?a2 ?l2 ?c2 ?k2 ?d2 ?eE ?eF ?xL ?sa ?ga ?gg ?nb ?aI ?tI ?lI ?cI ?kC ?eC ?tC ?hC ?iC ?sC ?eB ?hE ?tE ?sE ?clF ?spF ?tkF ?mrF ?z_abs ?z_len ?z_int ?z_repr ?z_range ?z_sorted ?z_min ?z_max ?z_isinstance
    (case a1 => k_is)
    (case l1 => k_is)
    (case c1 => k_is)
    (case k1 => k_is)
    (case a3 => k_is)
    (case l3 => k_is)
    (case c3 => k_is)
    (case k3 => k_is)
    (case a4 => k_is)
    (case l4 => k_is)
    (case c4 => k_is)
    (case k4 => k_is)
    (case a5 => k_is)
    (case l5 => k_is)
    (case c5 => k_is)
    (case k5 => k_is)
    (case a6 => k_is)
    (case l6 => k_is)
    (case c6 => k_is)
    (case k6 => k_is)
    (case a7 => k_is)
    (case l7 => k_is)
    (case c7 => k_is)
    (case k7 => k_is)
    (case a8 => k_is)
    (case l8 => k_is)
    (case c8 => k_is)
    (case k8 => k_is)
    (case a9 => k_is)
    (case l9 => k_is)
    (case c9 => k_is)
    (case k9 => k_is)
    (case a10 => k_is)
    (case l10 => k_is)
    (case c10 => k_is)
    (case k10 => k_is)
    (case a11 => k_is)
    (case l11 => k_is)
    (case c11 => k_is)
    (case k11 => k_is)
    (case a12 => k_is)
    (case l12 => k_is)
    (case c12 => k_is)
    (case k12 => k_is)
    (case a13 => k_is)
    (case l13 => k_is)
    (case c13 => k_is)
    (case k13 => k_is)
    (case a14 => k_is)
    (case l14 => k_is)
    (case c14 => k_is)
    (case k14 => k_is)
    (case a15 => k_is)
    (case l15 => k_is)
    (case c15 => k_is)
    (case k15 => k_is)
    (case a16 => k_is)
    (case l16 => k_is)
    (case c16 => k_is)
    (case k16 => k_is)
    (case a99 => k_is)
    (case l99 => k_is)
    (case c99 => k_is)
    (case k99 => k_is)
    (case a2 => k_is)
    (case l2 => k_is)
    (case c2 => k_is)
    (case k2 => k_is)
    (case d2 => k_is)
    (case eE => k_is)
    (case eF => k_is)
    (case xL => k_is)
    (case sa => k_is)
    (case ga => k_is)
    (case gg => k_is)
    (case nb => k_is)
    (case aI => k_is)
    (case tI => k_is)
    (case lI => k_is)
    (case cI => k_is)
    (case kC => k_is)
    (case eC => k_is)
    (case tC => k_is)
    (case hC => k_is)
    (case iC => k_is)
    (case sC => k_is)
    (case eB => k_is)
    (case hE => k_is)
    (case tE => k_is)
    (case sE => k_is)
    (case clF => k_is)
    (case spF => k_is)
    (case tkF => k_is)
    (case mrF => k_is)
    (case z_abs => k_is)
    (case z_len => k_is)
    (case z_int => k_is)
    (case z_repr => k_is)
    (case z_range => k_is)
    (case z_sorted => k_is)
    (case z_min => k_is)
    (case z_max => k_is)
    (case z_isinstance => k_is)
#print axioms PySem.Challenge.cw_hookcarts_k12_carts_and_steps_holds
