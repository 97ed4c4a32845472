import PyProof.Rows.All
import Wide.All
import OpenK.AllK
import Wide.FinOn
import HandS.ForMost
import HandS.EndBits
import HandS.Wide
import PyProof.Ascii
import HandS.Codes
import HandS.IsInst
import HandS.More
import HandS.Zip
import PySem.Challenge.RW_hookcarts_k14_trains_judged
set_option Elab.async false
set_option linter.all false
set_option maxRecDepth 100000
set_option maxHeartbeats 4000000
namespace HK
open PySem PySem.Spec PyProof.Rows L2
/-! ### promises of defs that are called where no repr runs (they may call repr themselves) -/
/-- nothing is being shown around -/
abbrev Quiet (A : Around) : Prop := A.guards = some []
theorem quiet_deeper {A : Around} {env : Env} (h : Quiet A) : Quiet (A.deeper env) := by
  first
    | exact h
    | (unfold Quiet at *; simp [Around.deeper, h])
structure FnG (P : Program) (w : World) (K : PySem.W.Frag) (mg : Str → Option Value) (base : Heap) (CX : CXT) (k : Nat) (f : Addr) (fd : FuncData) (ps : List Str) (sp : Sp) : Prop where
  len : ∀ vs H Q E, sp vs H Q E → vs.length = ps.length
  go : ∀ (A : Around) (outer : List Env) (s : Shared) (H : Hp) (args : Args) (us : List Value) (vs : List V) (Q : VK) (E : XK), Quiet A → Room k A → Env0 P w K mg base A outer s H →
    BindsTo s fd args (ps.zip us) → Vals vs us → sp vs H Q E → codeAny (model P w) A (.call (.ref f) args) (CR CX outer P w H s Q E) s
section
variable {P : Program} {w : World} {K : PySem.W.Frag} {mg : Str → Option Value} {base : Heap} {CX : CXT} {k : Nat}
theorem FnG.of {f : Addr} {fd : FuncData} {ps : List Str} {sp : Sp} (F : FnOk P w K mg base CX k f fd ps sp) : FnG P w K mg base CX k f fd ps sp :=
  ⟨F.len, fun A outer s H args us vs Q E _ => F.run A outer s H args us vs Q E⟩
/-- a def of the text whose body may show things -/
theorem fnG {x qual : Str} {st : Stmt} {f : Addr} {fd : FuncData} {N ps : List Str} {sp : Sp} (F : Fun K x qual st f fd) (S : FnScope N ps (defScope st)) (len : ∀ vs H Q E, sp vs H Q E → vs.length = ps.length)
    (hbody : ∀ (cdv : Value) (A : Around) (outer : List Env) (s : Shared) (H : Hp) (vs : List V) (Q : VK) (E : XK), Quiet (A.deeper (envOfC qual (defScope st) s.heap.objs.size f cdv)) → Room k (A.deeper (envOfC qual (defScope st) s.heap.objs.size f cdv)) →
      sp vs H Q E → ∃ t, PSs (cxOf CX P w K mg base N qual (defScope st) f cdv A outer s H E).nox (defBody st) t ∧ t { nx := fun _ H' => Q .non H', rt := Q } (start N vs) H) :
    FnG P w K mg base CX (k + 1) f fd ps sp := by
  obtain ⟨oc, od, kV, doc, pm, an, cdv, ct, osl, rfl, lk, hcd⟩ := F.ex
  refine ⟨len, fun A outer s H args us vs Q E hq hr e0 hb r hs => ?_⟩
  have KX : K.In s.heap := e0.mod.kin.keeps fun _ _ e => (e0.bs _ _ e).1
  have hkind : ∀ y ∈ ps.zip us, (defScope st).names.lookup y.1 = some .local ∨
      ((defScope st).names.lookup y.1 = some .cell ∧ ((cellsFrom (s.heap.objs.size + 1) (defScope st).names []).lookup y.1).isSome = true) := by
    rintro ⟨n, v⟩ hy
    exact (S.par n (List.of_mem_zip hy).1).imp id fun q => ⟨q, PySem.W.cellsFrom_some _ _ _ (.inl q)⟩
  refine codeAny_call_function hr.depth (KX _ _ lk) rfl S.co S.gen rfl (PySem.W.codeRec_of KX hcd) (hb _ _ _ _ (wpAny_newFunctionEnv_cells S.kind hkind ?_))
  rintro env rfl s1 x
  have lim : s.heap.NoLimit := e0.mod.nolimit.keeps fun _ _ e => (e0.bs _ _ e).1
  obtain ⟨t, ht, q⟩ := hbody cdv A outer s H vs Q E (quiet_deeper hq) (hr.deeper _) hs
  have I := inv_start (CX := CX) (E := E) (cd := cdv) (f := f) (qual := qual) S hr.hd e0 (len _ _ _ _ hs) r x
  refine ⟨lim.keeps x.toInCall.keep, codeAny_func (wpAny_mono (ht.nox.run [] s1 (start N vs) H _ I q) (fun fl s' h => ?_) fun _ _ z => z)⟩
  cases fl with
  | ret u => exact let ⟨v, _, H', J, rv, q⟩ := h; ⟨v, H', J.os, J.bare, J.base, J.hok, rv, q⟩
  | next => exact let ⟨_, H', J, q⟩ := h; ⟨V.non, H', J.os, J.bare, J.base, J.hok, (rfl : Value.none = Value.none), q⟩
  | brk => exact let ⟨_, _, _, q⟩ := h; q.elim
  | cont => exact let ⟨_, _, _, q⟩ := h; q.elim
end
section
variable {X : Cx} {CX : CXT} {k : Nat} {f : Addr} {fd : FuncData} {ps : List Str} {sp : Sp} {E : XK} {x : Str} {p pos : Pos} {e : Expr} {es : List Expr} {t : TA}
/-- f(a, ..) of such a def, without defaults -/
theorem pe_callG (F : FnG X.prog X.w X.K X.mg X.base CX k f fd ps sp) (hq : Quiet X.A) (hr : Room k X.A) (hg : Gl X x) (hm : X.mg x = some (.ref f)) (hk : PySem.W.keepIn X.K (.ref f) = true) (hb : Binds X.K fd ps []) (hx : Passes CX X E) (ha : PA X (e :: es) t)
    (hdb : (x == ("__debug__" : Str)) = false := by decide) (he : starEach (e :: es) X.env = (false, eval e X.env) :: starEach es X.env := by rfl) (hpl : (backTo pos (starEach es X.env)).any (·.1) = false := by rfl) :
    PE X (.Call (.Name x p) (e :: es) [] pos) (tCall sp [] E t) := by
  refine ⟨fun pins s σ H Q I h => wpAny_Call_Name_kw (ld_glob I hg hm (PySem.W.callWith_K (h₀ := X.base) I.ok.mod.kin hk (thn (ha.run pos pins s σ H _ I h) fun us s1 z => ?_) he hpl) hdb)⟩
  obtain ⟨vs, H1, I1, r, q⟩ := z
  refine ⟨I1.kIn, wpAny_call (codeAny_mono (F.go X.A X.stack s1 H1 ⟨us, []⟩ us vs Q E hq hr I1.env0 ?_ r ?_) fun res s' h => ?_)⟩
  · have hl : (us ++ ([] : List Value)).length = ps.length := by
      rw [List.append_nil, ← r.length]
      exact F.len vs H1 Q E (by simpa using q)
    simpa using hb s1 us I1.kIn hl
  · simpa using q
  · match res, h with
    | .error _, h => exact hx pins σ H1 s1 _ s' I1 h
    | .ok (.ret _), h => exact I1.after h
    | .ok .next, h => exact False.elim h
    | .ok .brk, h => exact False.elim h
    | .ok .cont, h => exact False.elim h
end

/-! ### the end of a law whose def is called quietly -/
section
variable {P : Program} {w : World} {K : PySem.W.Frag} {mg mb : Str → Option Value} {k : Nat} {fa a : Addr} {fd : FuncData} {x : Str} {sp : Sp} {s₁ : Shared} {vs : List Value} {ns : List Int}
/-- what is told of the call's end -/
abbrev Ended (s₁ : Shared) (r : Result) (s' : Shared) : Prop := r = .ok (.ret (.bool true)) ∧ OldK s₁.heap s'.heap ∧ s'.os = s₁.os ∧ AllBare s'.gens
theorem core_end (KX : K.In s₁.heap) (hns : s₁.heap.Ns mainGlobals mg) (hb : s₁.heap.Ns builtinsNs mb) (hbb : ∀ y : Str, y ≠ "__name__" → mb y = bootBuiltins y) (hlim : s₁.heap.NoLimit) (hg : s₁.gens = #[])
    (ha : s₁.heap.get? a = some { cls := .type "list", data := .seq vs.toArray }) (hr : Room k callerA)
    (F : ∀ base : Heap, K.In base → base.Ns mainGlobals mg → FnG P w K mg base CX0 k fa fd [x] sp) (hbind : ∀ (s : Shared) (u : Value), BindsTo s fd ⟨[u], []⟩ [(x, u)])
    (H : Hp) (hO : Only H) (hS : sp [.ref a] H (fun v _ => v = .bl true) fun _ _ _ => False) (hok : HOk P w H s₁.heap) (hA : ∀ b u, H b = some u → b = a ∧ K.lookup a = none) :
    codeAny (model P w) callerA (.call (.ref fa) ⟨[.ref a], []⟩) (Ended s₁) s₁ := by
  have none_of : ∀ {b : Addr} {o : Obj}, s₁.heap.get? b = some o → (b = a → K.lookup a = none → False) → H b = none := fun {b o} _ n => by
    cases q : H b with
    | none => rfl
    | some u => exact (n (hA b u q).1 (hA b u q).2).elim
  have nsK : ∀ {b : Addr} {m : Str → Option Value}, s₁.heap.Ns b m → (hidT s₁.heap H).Ns b m := by
    rintro b m ⟨o, es, ep, e, d, r⟩
    refine ⟨o, es, ep, hidT_get e (none_of e fun z _ => ?_), d, r⟩
    subst z
    rw [ha] at e
    cases e
    cases (d : Data.seq vs.toArray _ = Data.dict es ep)
  have hKb : K.In (hidT s₁.heap H) := fun b o e => hidT_get (KX b o e) (none_of (KX b o e) fun z n => by
    subst z
    rw [n] at e
    cases e)
  have hM : Mod K mg (hidT s₁.heap H) := ⟨hKb, nsK hns, ⟨mb, nsK hb, hbb⟩, hlim.elim fun mc z => ⟨mc, nsK z.1, z.2⟩⟩
  have e0 : Env0 P w K mg (hidT s₁.heap H) callerA [] s₁ H := ⟨rfl, hM, fun _ _ e => of_hidT e, Nat.le_of_eq (hidT_size _ _), trivial, fun b hb => absurd hb (by show b ∉ ([] : List Addr); simp), hok, .of_eq hg⟩
  refine codeAny_mono ((F _ hKb (nsK hns)).go callerA [] s₁ H ⟨[.ref a], []⟩ [.ref a] [.ref a] _ _ rfl hr e0 (hbind s₁ (.ref a)) (.cons rfl .nil) hS) fun r s' h => ?_
  match r, h with
  | .error _, h => exact h.elim
  | .ok .next, h => exact False.elim h
  | .ok .brk, h => exact False.elim h
  | .ok .cont, h => exact False.elim h
  | .ok (.ret u), h =>
    obtain ⟨v, H', os, bare, un, hok', r', q⟩ := h
    obtain rfl : v = .bl true := q
    obtain rfl : u = Value.bool true := r'
    refine ⟨rfl, OldK.of_keep fun b o e => ?_, os, bare⟩
    rcases hO b with z | ⟨ob, xs, z⟩
    · exact un.keep b o e z (by show b ∉ ([] : List Addr); simp) (by simp)
    · have e1 := (hok b _ z).1
      have e2 := (hok' b _ (un.frzs b ob _ z)).1
      rw [e] at e1
      cases e1
      exact e2
theorem law_end (KX : K.In s₁.heap) (hns : s₁.heap.Ns mainGlobals mg) (hb : s₁.heap.Ns builtinsNs mb) (hbb : ∀ y : Str, y ≠ "__name__" → mb y = bootBuiltins y) (hlim : s₁.heap.NoLimit) (hg : s₁.gens = #[])
    (ha : s₁.heap.get? a = some { cls := .type "list", data := .seq vs.toArray }) (hi : IntsAre vs ns) (hl : ns.length ≤ sizeLine) (hr : Room k callerA)
    (F : ∀ base : Heap, K.In base → base.Ns mainGlobals mg → FnG P w K mg base CX0 k fa fd [x] sp) (hbind : ∀ (s : Shared) (u : Value), BindsTo s fd ⟨[u], []⟩ [(x, u)])
    (hsp : ∀ H : Hp, Only H → SqL K H a (ns.map V.int) → sp [.ref a] H (fun v _ => v = .bl true) fun _ _ _ => False) :
    codeAny (model P w) callerA (.call (.ref fa) ⟨[.ref a], []⟩) (Ended s₁) s₁ := by
  have rv := vals_ints hi
  cases hk : K.lookup a with
  | some o =>
    have e := (KX a o hk).symm.trans ha
    cases e
    exact core_end KX hns hb hbb hlim hg ha hr F hbind (fun _ => none) (fun _ => .inl rfl)
      (hsp _ (fun _ => .inl rfl) (.inr ⟨_, vs.toArray, _, hk, rfl, rfl, rfl, by rw [List.size_toArray, hi.length]; exact hl, by simpa using rv⟩)) (fun b u z => nomatch z) fun b u z => nomatch z
  | none =>
    let H0 : Hp := fun b => if b = a then some (.frz { cls := .type "list", data := .seq vs.toArray } (.lst (ns.map V.int))) else none
    have at_ : ∀ b, b = a → H0 b = some (.frz { cls := .type "list", data := .seq vs.toArray } (.lst (ns.map V.int))) := fun b z => if_pos z
    have off : ∀ b, b ≠ a → H0 b = none := fun b z => if_neg z
    have hO : Only H0 := fun b => (Classical.em (b = a)).elim (fun z => .inr ⟨_, _, at_ b z⟩) fun z => .inl (off b z)
    refine core_end KX hns hb hbb hlim hg ha hr F hbind H0 hO (hsp H0 hO (.inl (.inr ⟨_, at_ a rfl⟩))) (fun b u z => ?_) fun b u z => ⟨?_, hk⟩
    · by_cases hb : b = a
      · rw [at_ b hb] at z
        cases z
        subst hb
        exact ⟨ha, by rw [List.length_map]; exact hl, vs, _, rv, ha⟩
      · rw [off b hb] at z
        cases z
    · by_cases hb : b = a
      · exact hb
      · rw [off b hb] at z
        cases z
end
/-- the goal that k_head leaves, from the quiet promise of the law's def; the script's bits told -/
theorem walkG {l : PySem.W.OpenLaw} {n k : Nat} {q : Program} {loose : List Str} {XP : (Str → Option Value) → Heap → Prop} {YP : World → Heap → Prop} {d : DefRec} {K : Params → PySem.W.Frag} {sp : PySem.W.Frag → Sp} {x : Str}
    (hn : l.most = some n) (hn2 : n ≤ sizeLine) (hdf : d.params.defaults = []) (hr : Room k callerA) (hY : ∀ (w : World) (h : Heap), YP w h → (K w.params).In h)
    (F : ∀ (w : World) (mg : Str → Option Value) (fa : Addr) (h : Heap), (K w.params).In h → h.Ns mainGlobals mg → mg d.name = some (.ref fa) → ∃ fd : FuncData, (∀ (s : Shared) (u : Value), BindsTo s fd ⟨[u], []⟩ [(x, u)]) ∧
      ∀ base : Heap, (K w.params).In base → base.Ns mainGlobals mg → FnG l.prog w (K w.params) mg base CX0 k fa fd [x] (sp (K w.params)))
    (hsp : ∀ (K : PySem.W.Frag) (H : Hp) (a : Addr) (ns : List Int), ns.length ≤ n → (∀ z ∈ ns, Builtin.Int.intBits z ≤ 1048576) → Only H → SqL K H a (ns.map V.int) → sp K [.ref a] H (fun v _ => v = .bl true) fun _ _ _ => False) :
    PySem.W.WalkO q loose XP YP l.row.toRowW d [] (fun f vs => PySem.call f vs) := by
  refine Att.attach_callB hn hdf fun w s₀ s₁ mg mb fa o pm cd doc a vs ns G Y ho hd hcd hmg hobj hints hlen hbits hg => ?_
  obtain ⟨fd, hb, hF⟩ := F w mg fa _ (hY w _ Y) G.T.g hmg
  exact law_end (hY w _ Y) G.T.g G.T.b G.T.builtins G.T.nolimit hg hobj hints (Nat.le_trans hlen hn2) hr hF hb fun H hO hS => hsp _ H a ns hlen hbits hO hS
end HK

namespace HK
open PySem PySem.Spec PyProof.Rows L2
/-! ### max, min of two texts -/
theorem cmp_str_gt {prog : Program} {w : World} {A : Around} {P : Nat → Value → Prop} (val : Nat → Str) (hv : ∀ i v, P i v → ∃ t, v = .str (val i) t) : CmpOf prog w A .Gt P (fun i j => decide ((val j).cps.toList < (val i).cps.toList)) := by
  intro i j vi vj s Q E hi hj h
  obtain ⟨t, rfl⟩ := hv i vi hi
  obtain ⟨u, rfl⟩ := hv j vj hj
  exact richCompare_gives (op := .Gt) (typeIs_str s _ t) (typeIs_str s _ u) F.slot_str_gt F.entry_str_gt (F.args_str_gt_2 _ _) (gives_str_gt _ _ t u) (fun z => nomatch z) h
theorem cmp_str_lt {prog : Program} {w : World} {A : Around} {P : Nat → Value → Prop} (val : Nat → Str) (hv : ∀ i v, P i v → ∃ t, v = .str (val i) t) : CmpOf prog w A .Lt P (fun i j => decide ((val i).cps.toList < (val j).cps.toList)) := by
  intro i j vi vj s Q E hi hj h
  obtain ⟨t, rfl⟩ := hv i vi hi
  obtain ⟨u, rfl⟩ := hv j vj hj
  exact richCompare_gives (op := .Lt) (typeIs_str s _ t) (typeIs_str s _ u) F.slot_str_lt F.entry_str_lt (F.args_str_lt_2 _ _) (gives_str_lt _ _ t u) (fun z => nomatch z) h
def pairAt (a b : Str) (i : Nat) : Str := if i = 0 then a else b
theorem pair_at {a b : Str} {t u : Tok} : ∀ (i : Nat) (v : Value), #[Value.str a t, Value.str b u][i]? = some v → ∃ t', v = .str (pairAt a b i) t'
  | 0, v, h => ⟨t, by simpa [pairAt, eq_comm] using h⟩
  | 1, v, h => ⟨u, by simpa [pairAt, eq_comm] using h⟩
  | n + 2, v, h => by simp at h
section
variable {prog : Program} {w : World} {A : Around} {E : Value → Shared → Prop} {s : Shared} {a b : Str} {t u : Tok} {Q : Value → Shared → Prop}
theorem pair_best {x : Value} (bt : Nat → Nat → Bool) (h : #[Value.str a t, Value.str b u][argBest bt (2 - 1)]? = some x) : x = if bt 1 0 = true then Value.str b u else Value.str a t := by
  by_cases g : bt 1 0 = true
  · rw [if_pos g]
    have e : argBest bt (2 - 1) = 1 := by simp [argBest, g]
    rw [e] at h
    simpa [eq_comm] using h
  · rw [if_neg g]
    have e : argBest bt (2 - 1) = 0 := by simp [argBest, g]
    rw [e] at h
    simpa [eq_comm] using h
theorem strs_max (hh : A.handled = none) (h : ∀ h' tk, (∀ c o, s.heap.get? c = some o → h'.get? c = some o) → Q (if decide (a.cps.toList < b.cps.toList) = true then .str b u else .str a t) { s with heap := h', toks := tk }) :
    wpAny (model prog w) A (call (.builtin "max") [.str a t, .str b u]) Q E s := by
  have hT : (s.heap.push { cls := .type "tuple", data := .seq #[.str a t, .str b u] }).IsTuple s.heap.objs.size #[.str a t, .str b u] := ⟨_, Heap.get?_push_size _ rfl, rfl, 0, rfl⟩
  have z1 : (s.heap.push { cls := .type "tuple", data := .seq #[Value.str a t, .str b u] }).objs.size = s.heap.objs.size + 1 := Heap.size_push ..
  refine call_max_two (wpAny_pyIter_tuple hT ?_)
  refine ⟨_, [_, s.heap.objs.size], [_], 2, _, _, _, rfl, Walks.tuple (A := A.in1) hh _ s.heap.objs.size (by rw [z1]; exact Nat.ne_of_lt (Nat.lt_succ_self _)) #[.str a t, .str b u], ⟨⟨_, Heap.get?_push_size _ rfl, rfl, rfl⟩, hT.push _⟩, fun c hc => ?_, by decide, cmp_str_gt (pairAt a b) pair_at, fun v h' tk hP hk => ?_⟩
  · show c < ((s.heap.push _).push _).objs.size
    rw [Heap.size_push, z1]
    rcases List.mem_cons.mp hc with rfl | hc
    · rw [z1]; exact Nat.lt_succ_self _
    · rw [List.mem_singleton.mp hc]; exact Nat.lt_succ_of_lt (Nat.lt_succ_self _)
  · rw [pair_best _ hP]
    refine h h' tk fun c o e => hk c o (fun hm => ?_) (Heap.get?_push_of_some _ (Heap.get?_push_of_some _ e))
    have z := Heap.lt_size e
    rw [List.mem_singleton.mp hm, z1] at z
    exact Nat.lt_irrefl _ (Nat.lt_of_succ_lt z)
theorem strs_min (hh : A.handled = none) (h : ∀ h' tk, (∀ c o, s.heap.get? c = some o → h'.get? c = some o) → Q (if decide (b.cps.toList < a.cps.toList) = true then .str b u else .str a t) { s with heap := h', toks := tk }) :
    wpAny (model prog w) A (call (.builtin "min") [.str a t, .str b u]) Q E s := by
  have hT : (s.heap.push { cls := .type "tuple", data := .seq #[.str a t, .str b u] }).IsTuple s.heap.objs.size #[.str a t, .str b u] := ⟨_, Heap.get?_push_size _ rfl, rfl, 0, rfl⟩
  have z1 : (s.heap.push { cls := .type "tuple", data := .seq #[Value.str a t, .str b u] }).objs.size = s.heap.objs.size + 1 := Heap.size_push ..
  refine call_min_two (wpAny_pyIter_tuple hT ?_)
  refine ⟨_, [_, s.heap.objs.size], [_], 2, _, _, _, rfl, Walks.tuple (A := A.in1) hh _ s.heap.objs.size (by rw [z1]; exact Nat.ne_of_lt (Nat.lt_succ_self _)) #[.str a t, .str b u], ⟨⟨_, Heap.get?_push_size _ rfl, rfl, rfl⟩, hT.push _⟩, fun c hc => ?_, by decide, cmp_str_lt (pairAt a b) pair_at, fun v h' tk hP hk => ?_⟩
  · show c < ((s.heap.push _).push _).objs.size
    rw [Heap.size_push, z1]
    rcases List.mem_cons.mp hc with rfl | hc
    · rw [z1]; exact Nat.lt_succ_self _
    · rw [List.mem_singleton.mp hc]; exact Nat.lt_succ_of_lt (Nat.lt_succ_self _)
  · rw [pair_best _ hP]
    refine h h' tk fun c o e => hk c o (fun hm => ?_) (Heap.get?_push_of_some _ (Heap.get?_push_of_some _ e))
    have z := Heap.lt_size e
    rw [List.mem_singleton.mp hm, z1] at z
    exact Nat.lt_irrefl _ (Nat.lt_of_succ_lt z)
end
def maxS (a b : Str) : Str := if a.cps.toList < b.cps.toList then b else a
def minS (a b : Str) : Str := if b.cps.toList < a.cps.toList then b else a
section
variable {X : Cx}
theorem call_maxS (hc : X.calm = true) : CallR X (.builtin "max") (fun xs H Q => ∃ a b, xs = [.str a, .str b] ∧ Q (.str (maxS a b)) H) := by
  intro pins s σ H xs us Q I r h
  obtain ⟨a, b, rfl, q⟩ := h
  obtain ⟨u, v, rfl, ⟨t, rfl⟩, ⟨t', rfl⟩⟩ := vals2 r
  refine strs_max (I.ok.hd hc) fun h' tk k => ⟨_, H, I.kept k, ?_, q⟩
  unfold maxS
  by_cases g : a.cps.toList < b.cps.toList
  · rw [if_pos (decide_eq_true g), if_pos g]; exact ⟨_, rfl⟩
  · rw [decide_eq_false g, if_neg Bool.false_ne_true, if_neg g]; exact ⟨_, rfl⟩
theorem call_minS (hc : X.calm = true) : CallR X (.builtin "min") (fun xs H Q => ∃ a b, xs = [.str a, .str b] ∧ Q (.str (minS a b)) H) := by
  intro pins s σ H xs us Q I r h
  obtain ⟨a, b, rfl, q⟩ := h
  obtain ⟨u, v, rfl, ⟨t, rfl⟩, ⟨t', rfl⟩⟩ := vals2 r
  refine strs_min (I.ok.hd hc) fun h' tk k => ⟨_, H, I.kept k, ?_, q⟩
  unfold minS
  by_cases g : b.cps.toList < a.cps.toList
  · rw [if_pos (decide_eq_true g), if_pos g]; exact ⟨_, rfl⟩
  · rw [decide_eq_false g, if_neg Bool.false_ne_true, if_neg g]; exact ⟨_, rfl⟩
/-! ### orders of texts -/
theorem op_gtS : OpR X (compareOp .Gt) (fun x y H Q => ∃ i j, x = .str i ∧ y = .str j ∧ Q (.bl (decide (j.cps.toList < i.cps.toList))) H) := by
  intro pins s σ H x y v u Q I rx ry h
  obtain ⟨i, j, rfl, rfl, q⟩ := h
  obtain ⟨t, rfl⟩ := rx
  obtain ⟨t', rfl⟩ := ry
  exact compareOp_gives (op := .Gt) (typeIs_str s i t) (typeIs_str s j t') F.slot_str_gt F.entry_str_gt (F.args_str_gt_2 _ _) (gives_str_gt i j t t') (fun e => nomatch e) ⟨.bl _, H, I, rfl, q⟩
/-! ### repr of data -/
/-- data whose text has room -/
def Tells (d : PyData) : Prop := d.showable = true ∧ d.hasDict = false ∧ d.shown.length ≤ sizeLine ∧ d.depth ≤ 60
theorem call_reprD (hq : Quiet X.A) (hu : X.A.units + 64 < cLine) : CallR X (.builtin "repr") (fun xs H Q => ∃ x d, xs = [x] ∧ Dp X.K H x d ∧ Tells d ∧ Q (.str d.shown) H) := by
  intro pins s σ H xs us Q I r h
  obtain ⟨x, d, rfl, hd, ⟨t1, t2, t3, t4⟩, q⟩ := h
  obtain ⟨u, rfl, ru⟩ := vals1 r
  obtain ⟨as, rd⟩ := Dp.reads I d x u hd ru
  cases hd with
  | non =>
    obtain rfl : u = Value.none := ru
    exact PySem.P.repr_of_none ⟨.str "None", H, I.tok _, ⟨_, rfl⟩, q⟩
  | bl b =>
    obtain rfl : u = Value.bool b := ru
    refine PySem.P.repr_of_bool ⟨.str (if b then "True" else "False"), H, I.tok _, ⟨_, rfl⟩, ?_⟩
    simpa only [PyData.shown] using q
  | int i =>
    obtain ⟨t, rfl⟩ := ru
    refine PySem.P.repr_of_int (by simpa [PyData.showable] using t1) ⟨.str (toString i), H, I.tok _, ⟨_, rfl⟩, ?_⟩
    simpa only [PyData.shown] using q
  | str y =>
    obtain ⟨t, rfl⟩ := ru
    simp only [PyData.shown] at q t3
    exact PySem.P.repr_of_str ⟨.str _, H, I.tok _, ⟨_, rfl⟩, q⟩ t3
  | lst h1 h2 =>
    obtain rfl : u = Value.ref _ := ru
    exact repr_of_reads' rd t1 (PyData.noDict_hsm t2) hq (by omega) (fun _ _ e => e) (fun h' u tk k => ⟨.str _, H, I.kept k, ⟨_, rfl⟩, q⟩) t3
  | tup h1 h2 =>
    obtain rfl : u = Value.ref _ := ru
    exact repr_of_reads' rd t1 (PyData.noDict_hsm t2) hq (by omega) (fun _ _ e => e) (fun h' u tk k => ⟨.str _, H, I.kept k, ⟨_, rfl⟩, q⟩) t3
end
end HK

namespace HK
open PySem PySem.Spec PyProof.Rows L2
/-! ### heaps: all is kept, but what stands at b -/
def Keep (b : Addr) (H H' : Hp) : Prop := ∀ c o, c ≠ b → H c = some o → H' c = some o
theorem Keep.refl (b : Addr) (H : Hp) : Keep b H H := fun _ _ _ h => h
theorem Keep.trans {b : Addr} {H H1 H2 : Hp} (x : Keep b H H1) (y : Keep b H1 H2) : Keep b H H2 := fun c o n h => y c o n (x c o n h)
theorem Keep.of {b : Addr} {H H' : Hp} (x : Same H H') : Keep b H H' := fun c o _ h => x c o h
theorem Same.new {H : Hp} {p : Addr} {o : HO} (n : H p = none) : Same H (upd H p o) := fun c u h => by
  rw [upd_ne (ne_of_none h n)]
  exact h
/-- a thing that was new is changed -/
theorem Same.newer {H H1 : Hp} {p : Addr} {o : HO} (x : Same H H1) (n : H p = none) : Same H (upd H1 p o) := fun c u h => by
  rw [upd_ne (ne_of_none h n)]
  exact x c u h
theorem Keep.newer {b : Addr} {H H1 : Hp} {p : Addr} {o : HO} (x : Keep b H H1) (n : H p = none) : Keep b H (upd H1 p o) := fun c u nb h => by
  rw [upd_ne (ne_of_none h n)]
  exact x c u nb h
theorem Keep.free {b : Addr} {H H' : Hp} (x : Keep b H H') {l : Addr} (nb : l ≠ b) (h : H' l = none) : H l = none := by
  cases q : H l with
  | none => rfl
  | some o =>
    rw [x l o nb q] at h
    cases h
/-! ### data that stands apart from b -/
mutual
inductive D (b : Addr) (H : Hp) : V → PyData → Prop
  | non : D b H .non .none
  | bl (x : Bool) : D b H (.bl x) (.bool x)
  | int (i : Int) : D b H (.int i) (.int i)
  | str (x : Str) : D b H (.str x) (.str x)
  | lst {a : Addr} {xs : List V} {ds : List PyData} : a ≠ b → H a = some (.lst xs) → DAll b H xs ds → D b H (.ref a) (.list ds)
  | tup {a : Addr} {xs : List V} {ds : List PyData} : a ≠ b → H a = some (.tup xs) → DAll b H xs ds → D b H (.ref a) (.tuple ds)
inductive DAll (b : Addr) (H : Hp) : List V → List PyData → Prop
  | nil : DAll b H [] []
  | cons {v : V} {vs : List V} {d : PyData} {ds : List PyData} : D b H v d → DAll b H vs ds → DAll b H (v :: vs) (d :: ds)
end
section
variable {b : Addr} {H H' : Hp}
mutual
theorem D.keep (k : Keep b H H') : ∀ {v : V} (d : PyData), D b H v d → D b H' v d
  | _, .none, .non => .non
  | _, .bool _, .bl x => .bl x
  | _, .int _, .int i => .int i
  | _, .str _, .str x => .str x
  | _, .list ds, .lst n h r => .lst n (k _ _ n h) (DAll.keep k ds r)
  | _, .tuple ds, .tup n h r => .tup n (k _ _ n h) (DAll.keep k ds r)
theorem DAll.keep (k : Keep b H H') : ∀ {vs : List V} (ds : List PyData), DAll b H vs ds → DAll b H' vs ds
  | _, [], .nil => .nil
  | _, d :: ds, .cons x r => .cons (D.keep k d x) (DAll.keep k ds r)
end
mutual
theorem D.dp {K : PySem.W.Frag} : ∀ {v : V} (d : PyData), D b H v d → Dp K H v d
  | _, .none, .non => .non
  | _, .bool _, .bl x => .bl x
  | _, .int _, .int i => .int i
  | _, .str _, .str x => .str x
  | _, .list ds, .lst n h r => .lst (SqL.of h) (DAll.dp ds r)
  | _, .tuple ds, .tup n h r => .tup (SqT.of h) (DAll.dp ds r)
theorem DAll.dp {K : PySem.W.Frag} : ∀ {vs : List V} (ds : List PyData), DAll b H vs ds → DpAll K H vs ds
  | _, [], .nil => .nil
  | _, d :: ds, .cons x r => .cons (D.dp d x) (DAll.dp ds r)
end
theorem D.same {v : V} {d : PyData} (h : D b H v d) (s : Same H H') : D b H' v d := D.keep (Keep.of s) d h
theorem D.kept {v : V} {d : PyData} (h : D b H v d) (k : Keep b H H') : D b H' v d := D.keep k d h
theorem DAll.same {v : List V} {d : List PyData} (h : DAll b H v d) (s : Same H H') : DAll b H' v d := DAll.keep (Keep.of s) d h
theorem DAll.kept {v : List V} {d : List PyData} (h : DAll b H v d) (k : Keep b H H') : DAll b H' v d := DAll.keep k d h
theorem DAll.len : ∀ {vs : List V} {ds : List PyData}, DAll b H vs ds → vs.length = ds.length
  | _, _, .nil => rfl
  | _, _, .cons _ r => congrArg Nat.succ (DAll.len r)
theorem DAll.get : ∀ {vs : List V} {ds : List PyData} {i : Nat} {v : V}, DAll b H vs ds → vs[i]? = some v → ∃ d, ds[i]? = some d ∧ D b H v d
  | _, _, i, v, .nil, h => by simp at h
  | _, _, 0, v, .cons x r, h => by
    simp only [List.getElem?_cons_zero, Option.some.injEq] at h
    subst h
    exact ⟨_, rfl, x⟩
  | _, _, i + 1, v, .cons x r, h => DAll.get (i := i) r (by simpa using h)
theorem DAll.append : ∀ {vs ws : List V} {ds es : List PyData}, DAll b H vs ds → DAll b H ws es → DAll b H (vs ++ ws) (ds ++ es)
  | _, _, _, _, .nil, s => s
  | _, _, _, _, .cons x r, s => .cons x (DAll.append r s)
/-- new tuples and lists of data -/
theorem D.newT {p : Addr} {xs : List V} {ds : List PyData} (nb : p ≠ b) (n : H p = none) (h : DAll b H xs ds) : D b (upd H p (.tup xs)) (.ref p) (.tuple ds) := .tup nb upd_same (h.same (Same.new n))
theorem D.newL {p : Addr} {xs : List V} {ds : List PyData} (nb : p ≠ b) (n : H p = none) (h : DAll b H xs ds) : D b (upd H p (.lst xs)) (.ref p) (.list ds) := .lst nb upd_same (h.same (Same.new n))
end
/-! ### how much room the text of data wants -/
structure Sm (d : PyData) (n m : Nat) : Prop where
  lay : d.canLay0 = true
  sh : d.intsShort 40 = true
  ok : d.showable = true
  w : d.weight ≤ n
  dp : d.depth ≤ m
structure SmA (ds : List PyData) (n m : Nat) : Prop where
  lay : PyData.canLayAll0 ds = true
  sh : PyData.intsShortAll 40 ds = true
  ok : PyData.showableAll ds = true
  w : PyData.weightAll ds ≤ n
  dp : PyData.depthAll ds ≤ m
/-- a short text of signs -/
structure Sh (x : Str) (n : Nat) : Prop where
  len : x.cps.size ≤ n
  cps : PyData.strOk x = true
theorem Sm.str {x : Str} {n : Nat} (h : Sh x n) : Sm (.str x) n 0 := ⟨by simpa only [PyData.canLay0] using h.cps, rfl, rfl, h.len, by simp [PyData.depth]⟩
theorem Sm.bool (x : Bool) : Sm (.bool x) 0 0 := ⟨rfl, rfl, rfl, Nat.le_refl _, by simp [PyData.depth]⟩
theorem Sm.none : Sm .none 0 0 := ⟨rfl, rfl, rfl, Nat.le_refl _, by simp [PyData.depth]⟩
theorem SmA.nil : SmA [] 0 0 := ⟨rfl, rfl, rfl, Nat.le_refl _, by simp [PyData.depthAll]⟩
theorem SmA.mono {ds : List PyData} {n m i j : Nat} (h : SmA ds n i) (a : n ≤ m) (c : i ≤ j) : SmA ds m j := ⟨h.lay, h.sh, h.ok, Nat.le_trans h.w a, Nat.le_trans h.dp c⟩
theorem Sm.mono {d : PyData} {n m i j : Nat} (h : Sm d n i) (a : n ≤ m) (c : i ≤ j) : Sm d m j := ⟨h.lay, h.sh, h.ok, Nat.le_trans h.w a, Nat.le_trans h.dp c⟩
theorem SmA.cons {d : PyData} {ds : List PyData} {n m i j : Nat} (h : Sm d n i) (r : SmA ds m j) : SmA (d :: ds) (n + 1 + m) (max i j) :=
  ⟨by simp only [PyData.canLayAll0, h.lay, r.lay, Bool.and_self], by simp only [PyData.intsShortAll, h.sh, r.sh, Bool.and_self], by simp only [PyData.showableAll, h.ok, r.ok, Bool.and_self],
    by have := h.w; have := r.w; simp only [PyData.weightAll]; omega, by have := h.dp; have := r.dp; simp only [PyData.depthAll]; omega⟩
theorem Sm.tuple {ds : List PyData} {n m : Nat} (h : SmA ds n m) : Sm (.tuple ds) n (m + 1) := ⟨by simpa only [PyData.canLay0] using h.lay, by simpa only [PyData.intsShort] using h.sh, by simpa only [PyData.showable] using h.ok,
  by simpa only [PyData.weight] using h.w, by have := h.dp; simp only [PyData.depth]; omega⟩
theorem Sm.list {ds : List PyData} {n m : Nat} (h : SmA ds n m) : Sm (.list ds) n (m + 1) := ⟨by simpa only [PyData.canLay0] using h.lay, by simpa only [PyData.intsShort] using h.sh, by simpa only [PyData.showable] using h.ok,
  by simpa only [PyData.weight] using h.w, by have := h.dp; simp only [PyData.depth]; omega⟩
theorem Sm.tells {d : PyData} {n m : Nat} (h : Sm d n m) (a : n ≤ 300000) (c : m ≤ 60) : Tells d := by
  have z := PyData.shown_le 40 (by decide) d (PyData.leavesShort_of_canLay0 40 d h.lay h.sh)
  have w := h.w
  refine ⟨h.ok, PyData.hasDict_of_canLay d h.lay, ?_, Nat.le_trans h.dp c⟩
  rw [sizeLine_eq]
  omega
theorem Sm.shaped {d : PyData} {n m : Nat} (h : Sm d n m) (c : m ≤ 60) : SeqAt.shaped d = true := by
  unfold SeqAt.shaped
  rw [h.lay, decide_eq_true (Nat.le_trans h.dp (Nat.le_trans c (by decide)))]
  rfl
/-- data that may be compared and shown -/
def Fine (d : PyData) : Prop := Tells d ∧ SeqAt.shaped d = true ∧ d.canLay0 = true
theorem Sm.fine {d : PyData} {n m : Nat} (h : Sm d n m) (a : n ≤ 300000) (c : m ≤ 60) : Fine d := ⟨h.tells a c, h.shaped c, h.lay⟩
/-- o[i] of a list, by values (for o[i] op= e) -/
theorem get_list {X : Cx} : PGet X (rIxL X.K) := by
  intro pins s σ H o i ov iv Q I ro ri h
  obtain ⟨p, xs, k, z, rfl, rfl, hq, he, q⟩ := h
  cases ro
  obtain ⟨t, rfl⟩ := ri
  obtain ⟨its, r, pl, hz⟩ := I.list hq
  obtain ⟨j, h1, h2, h3, h4, h5⟩ := atI_get he
  obtain ⟨w, ew, rw'⟩ := r.get h2
  have hl := r.length
  have hn := line63
  have fin : EP X pins σ Q w s := ⟨z, H, I, rw', q⟩
  by_cases h0 : 0 ≤ k
  · have hj : k.toNat = j := Option.some.inj ((seqIndex_of h0 h5).symm.trans h1)
    exact wpAny_getItem_list pl.isList h0 (by omega) (by rw [hj]; simpa using ew) fin
  · have hj : (k + (its.toArray.size : Int)).toNat = j := by
      rw [List.size_toArray, ← hl]
      exact Option.some.inj ((seqIndex_neg (by omega) h4).symm.trans h1)
    exact wpAny_getItem_list_neg pl.isList (by omega) (by rw [List.size_toArray] <;> omega) (by omega) (by rw [hj]; simpa using ew) fin
end HK

namespace HK
open PySem PySem.Spec PyProof.Rows L2
/-- the address of the table of modules is told, so that nothing new stands there -/
def Mk (H : Hp) : Prop := ∃ o u, H sysModules = some (.frz o u)
theorem Mk.same {H H' : Hp} (m : Mk H) (s : Same H H') : Mk H' := by
  obtain ⟨o, u, h⟩ := m
  exact ⟨o, u, s _ _ h⟩
theorem Mk.kept {b : Addr} {H H' : Hp} (m : Mk H) (k : Keep b H H') (hb : ∃ xs, H b = some (.lst xs)) : Mk H' := by
  obtain ⟨o, u, h⟩ := m
  obtain ⟨xs, hb⟩ := hb
  exact ⟨o, u, k _ _ (ne_of h hb (by intro z; cases z)) h⟩
section
variable {P : Program} {w : World} {K : PySem.W.Frag} {mg mb : Str → Option Value} {k : Nat} {fa a : Addr} {fd : FuncData} {x : Str} {sp : Sp} {s₁ : Shared} {vs : List Value} {ns : List Int}
theorem core_endM (KX : K.In s₁.heap) (hns : s₁.heap.Ns mainGlobals mg) (hb : s₁.heap.Ns builtinsNs mb) (hbb : ∀ y : Str, y ≠ "__name__" → mb y = bootBuiltins y) (hlim : s₁.heap.NoLimit) (hg : s₁.gens = #[]) (hr : Room k callerA)
    (F : ∀ base : Heap, K.In base → base.Ns mainGlobals mg → FnG P w K mg base CX0 k fa fd [x] sp) (hbind : ∀ (s : Shared) (u : Value), BindsTo s fd ⟨[u], []⟩ [(x, u)])
    (H : Hp) (hO : ∀ c u, H c = some u → ∃ o v, u = .frz o v) (hS : sp [.ref a] H (fun v _ => v = .bl true) fun _ _ _ => False) (hok : HOk P w H s₁.heap) (hA : ∀ c u, H c = some u → K.lookup c = none ∧ c ≠ mainGlobals ∧ c ≠ builtinsNs ∧ c ≠ cStatics) :
    codeAny (model P w) callerA (.call (.ref fa) ⟨[.ref a], []⟩) (Ended s₁) s₁ := by
  have nsK : ∀ {c : Addr} {m : Str → Option Value}, (c = mainGlobals ∨ c = builtinsNs ∨ c = cStatics) → s₁.heap.Ns c m → (hidT s₁.heap H).Ns c m := by
    rintro c m hc ⟨o, es, ep, e, d, r⟩
    refine ⟨o, es, ep, hidT_get e ?_, d, r⟩
    cases q : H c with
    | none => rfl
    | some u =>
      obtain ⟨_, n1, n2, n3⟩ := hA c u q
      rcases hc with z | z | z
      · exact absurd z n1
      · exact absurd z n2
      · exact absurd z n3
  have hKb : K.In (hidT s₁.heap H) := fun c o e => hidT_get (KX c o e) (by
    cases q : H c with
    | none => rfl
    | some u =>
      rw [(hA c u q).1] at e
      cases e)
  have hM : Mod K mg (hidT s₁.heap H) := ⟨hKb, nsK (.inl rfl) hns, ⟨mb, nsK (.inr (.inl rfl)) hb, hbb⟩, hlim.elim fun mc z => ⟨mc, nsK (.inr (.inr rfl)) z.1, z.2⟩⟩
  have e0 : Env0 P w K mg (hidT s₁.heap H) callerA [] s₁ H := ⟨rfl, hM, fun _ _ e => of_hidT e, Nat.le_of_eq (hidT_size _ _), trivial, fun c hc => absurd hc (by show c ∉ ([] : List Addr); simp), hok, .of_eq hg⟩
  refine codeAny_mono ((F _ hKb (nsK (.inl rfl) hns)).go callerA [] s₁ H ⟨[.ref a], []⟩ [.ref a] [.ref a] _ _ rfl hr e0 (hbind s₁ (.ref a)) (.cons rfl .nil) hS) fun r s' h => ?_
  match r, h with
  | .error _, h => exact h.elim
  | .ok .next, h => exact False.elim h
  | .ok .brk, h => exact False.elim h
  | .ok .cont, h => exact False.elim h
  | .ok (.ret u), h =>
    obtain ⟨v, H', os, bare, un, hok', r', q⟩ := h
    obtain rfl : v = .bl true := q
    obtain rfl : u = Value.bool true := r'
    refine ⟨rfl, OldK.of_keep fun c o e => ?_, os, bare⟩
    cases z : H c with
    | none => exact un.keep c o e z (by show c ∉ ([] : List Addr); simp) (by simp)
    | some t =>
      obtain ⟨ob, v, rfl⟩ := hO c t z
      have e1 := (hok c _ z).1
      have e2 := (hok' c _ (un.frzs c ob _ z)).1
      rw [e] at e1
      cases e1
      exact e2
theorem ns_dict {h : Heap} {c : Addr} {m : Str → Option Value} {vs : Array Value} {n : Nat} (x : h.Ns c m) (e : h.get? c = some { cls := .type "list", data := .seq vs n }) : False := by
  obtain ⟨o, es, ep, e', d, r⟩ := x
  rw [e] at e'
  cases e'
  cases d
theorem law_endM (KX : K.In s₁.heap) (k1 : K.lookup sysModules = none) (hns : s₁.heap.Ns mainGlobals mg) (hb : s₁.heap.Ns builtinsNs mb) (hbb : ∀ y : Str, y ≠ "__name__" → mb y = bootBuiltins y) (hlim : s₁.heap.NoLimit) (hse : s₁.heap.NoSeer) (hg : s₁.gens = #[])
    (ha : s₁.heap.get? a = some { cls := .type "list", data := .seq vs.toArray }) (hi : IntsAre vs ns) (hl : ns.length ≤ sizeLine) (hr : Room k callerA)
    (F : ∀ base : Heap, K.In base → base.Ns mainGlobals mg → FnG P w K mg base CX0 k fa fd [x] sp) (hbind : ∀ (s : Shared) (u : Value), BindsTo s fd ⟨[u], []⟩ [(x, u)])
    (hsp : ∀ H : Hp, Mk H → SqL K H a (ns.map V.int) → sp [.ref a] H (fun v _ => v = .bl true) fun _ _ _ => False) :
    codeAny (model P w) callerA (.call (.ref fa) ⟨[.ref a], []⟩) (Ended s₁) s₁ := by
  have rv := vals_ints hi
  obtain ⟨mm, hmods, _⟩ := hse.mods
  obtain ⟨o1, es1, ep1, e1, d1, _⟩ := id hmods
  have na : a ≠ sysModules := fun z => ns_dict (m := mm) (by rw [z]; exact hmods) ha
  have ng : ∀ {c m}, s₁.heap.Ns c m → a ≠ c := fun {c m} z q => ns_dict (m := m) (by rw [q]; exact z) ha
  obtain ⟨mc, hmc, _⟩ := id hlim
  have ext : ObjOk P w (fun _ => none) s₁.heap sysModules (.frz o1 (.ext fun _ => True)) := ⟨e1, trivial, ⟨_, e1⟩, fun _ _ _ _ => trivial⟩
  cases hk : K.lookup a with
  | some o =>
    have e := (KX a o hk).symm.trans ha
    cases e
    let H0 : Hp := fun c => if c = sysModules then some (.frz o1 (.ext fun _ => True)) else none
    have at_ : H0 sysModules = some (.frz o1 (.ext fun _ => True)) := if_pos rfl
    have on : ∀ c u, H0 c = some u → c = sysModules ∧ u = .frz o1 (.ext fun _ => True) := fun c u z => by
      by_cases q : c = sysModules
      · subst q
        rw [at_] at z
        cases z
        exact ⟨rfl, rfl⟩
      · rw [show H0 c = none from if_neg q] at z
        cases z
    refine core_endM KX hns hb hbb hlim hg hr F hbind H0 (fun c u z => ⟨_, _, (on c u z).2⟩)
      (hsp _ ⟨_, _, at_⟩ (.inr ⟨_, vs.toArray, _, hk, rfl, rfl, rfl, by rw [List.size_toArray, hi.length]; exact hl, by simpa using rv⟩)) (fun c u z => ?_) fun c u z => ?_
    · obtain ⟨rfl, rfl⟩ := on c u z
      exact ⟨e1, trivial, ⟨_, e1⟩, fun _ _ _ _ => trivial⟩
    · obtain ⟨rfl, rfl⟩ := on c u z
      exact ⟨k1, by decide, by decide, by decide⟩
  | none =>
    let H0 : Hp := fun c => if c = a then some (.frz { cls := .type "list", data := .seq vs.toArray } (.lst (ns.map V.int))) else if c = sysModules then some (.frz o1 (.ext fun _ => True)) else none
    have at_a : H0 a = some (.frz { cls := .type "list", data := .seq vs.toArray } (.lst (ns.map V.int))) := if_pos rfl
    have at_s : H0 sysModules = some (.frz o1 (.ext fun _ => True)) := (if_neg na.symm).trans (if_pos rfl)
    have on : ∀ c u, H0 c = some u → (c = a ∧ u = .frz { cls := .type "list", data := .seq vs.toArray } (.lst (ns.map V.int))) ∨ (c = sysModules ∧ u = .frz o1 (.ext fun _ => True)) := fun c u z => by
      by_cases q : c = a
      · subst q
        rw [at_a] at z
        cases z
        exact .inl ⟨rfl, rfl⟩
      · by_cases q2 : c = sysModules
        · subst q2
          rw [at_s] at z
          cases z
          exact .inr ⟨rfl, rfl⟩
        · rw [show H0 c = none from (if_neg q).trans (if_neg q2)] at z
          cases z
    refine core_endM KX hns hb hbb hlim hg hr F hbind H0 (fun c u z => ?_) (hsp H0 ⟨_, _, at_s⟩ (.inl (.inr ⟨_, at_a⟩))) (fun c u z => ?_) fun c u z => ?_
    · rcases on c u z with ⟨_, e⟩ | ⟨_, e⟩ <;> exact ⟨_, _, e⟩
    · rcases on c u z with ⟨rfl, rfl⟩ | ⟨rfl, rfl⟩
      · exact ⟨ha, by rw [List.length_map]; exact hl, vs, _, rv, ha⟩
      · exact ⟨e1, trivial, ⟨_, e1⟩, fun _ _ _ _ => trivial⟩
    · rcases on c u z with ⟨rfl, rfl⟩ | ⟨rfl, rfl⟩
      · exact ⟨hk, ng hns, ng hb, ng hmc⟩
      · exact ⟨k1, by decide, by decide, by decide⟩
end
theorem walkM {l : PySem.W.OpenLaw} {n k : Nat} {q : Program} {loose : List Str} {XP : (Str → Option Value) → Heap → Prop} {YP : World → Heap → Prop} {d : DefRec} {K : Params → PySem.W.Frag} {sp : PySem.W.Frag → Sp} {x : Str}
    (hn : l.most = some n) (hn2 : n ≤ sizeLine) (hdf : d.params.defaults = []) (hr : Room k callerA) (him : importsNone q = true) (hY : ∀ (w : World) (h : Heap), YP w h → (K w.params).In h)
    (F : ∀ (w : World) (mg : Str → Option Value) (fa : Addr) (h : Heap), (K w.params).In h → h.Ns mainGlobals mg → mg d.name = some (.ref fa) → (K w.params).lookup sysModules = none ∧ ∃ fd : FuncData, (∀ (s : Shared) (u : Value), BindsTo s fd ⟨[u], []⟩ [(x, u)]) ∧
      ∀ base : Heap, (K w.params).In base → base.Ns mainGlobals mg → FnG l.prog w (K w.params) mg base CX0 k fa fd [x] (sp (K w.params)))
    (hsp : ∀ (K : PySem.W.Frag) (H : Hp) (a : Addr) (ns : List Int), ns.length ≤ n → (∀ z ∈ ns, Builtin.Int.intBits z ≤ 1048576) → Mk H → SqL K H a (ns.map V.int) → sp K [.ref a] H (fun v _ => v = .bl true) fun _ _ _ => False) :
    PySem.W.WalkO q loose XP YP l.row.toRowW d [] (fun f vs => PySem.call f vs) := by
  refine Att.attach_callB hn hdf fun w s₀ s₁ mg mb fa o pm cd doc a vs ns G Y ho hd hcd hmg hobj hints hlen hbits hg => ?_
  obtain ⟨k1, fd, hb, hF⟩ := F w mg fa _ (hY w _ Y) G.T.g hmg
  exact law_endM (hY w _ Y) k1 G.T.g G.T.b G.T.builtins G.T.nolimit (G.T.seer him) hg hobj hints (Nat.le_trans hlen hn2) hr hF hb fun H hO hS => hsp _ H a ns hlen hbits hO hS
/-! ### data with empty dicts -/
mutual
inductive DX (b : Addr) (H : Hp) : V → PyData → Prop
  | non : DX b H .non .none
  | bl (x : Bool) : DX b H (.bl x) (.bool x)
  | int (i : Int) : DX b H (.int i) (.int i)
  | str (x : Str) : DX b H (.str x) (.str x)
  | lst {a : Addr} {xs : List V} {ds : List PyData} : a ≠ b → H a = some (.lst xs) → DXs b H xs ds → DX b H (.ref a) (.list ds)
  | tup {a : Addr} {xs : List V} {ds : List PyData} : a ≠ b → H a = some (.tup xs) → DXs b H xs ds → DX b H (.ref a) (.tuple ds)
  | dct {a : Addr} : a ≠ b → H a = some (.dK []) → DX b H (.ref a) (.dict [])
inductive DXs (b : Addr) (H : Hp) : List V → List PyData → Prop
  | nil : DXs b H [] []
  | cons {v : V} {vs : List V} {d : PyData} {ds : List PyData} : DX b H v d → DXs b H vs ds → DXs b H (v :: vs) (d :: ds)
end
section
variable {b : Addr} {H H' : Hp}
mutual
theorem DX.keep (k : Keep b H H') : ∀ {v : V} (d : PyData), DX b H v d → DX b H' v d
  | _, .none, .non => .non
  | _, .bool _, .bl x => .bl x
  | _, .int _, .int i => .int i
  | _, .str _, .str x => .str x
  | _, .list ds, .lst n h r => .lst n (k _ _ n h) (DXs.keep k ds r)
  | _, .tuple ds, .tup n h r => .tup n (k _ _ n h) (DXs.keep k ds r)
  | _, .dict _, .dct n h => .dct n (k _ _ n h)
theorem DXs.keep (k : Keep b H H') : ∀ {vs : List V} (ds : List PyData), DXs b H vs ds → DXs b H' vs ds
  | _, [], .nil => .nil
  | _, d :: ds, .cons x r => .cons (DX.keep k d x) (DXs.keep k ds r)
end
theorem DX.kept {v : V} {d : PyData} (h : DX b H v d) (k : Keep b H H') : DX b H' v d := DX.keep k d h
theorem DX.same {v : V} {d : PyData} (h : DX b H v d) (s : Same H H') : DX b H' v d := DX.keep (Keep.of s) d h
theorem DXs.kept {v : List V} {d : List PyData} (h : DXs b H v d) (k : Keep b H H') : DXs b H' v d := DXs.keep k d h
theorem DXs.same {v : List V} {d : List PyData} (h : DXs b H v d) (s : Same H H') : DXs b H' v d := DXs.keep (Keep.of s) d h
theorem DXs.len : ∀ {vs : List V} {ds : List PyData}, DXs b H vs ds → vs.length = ds.length
  | _, _, .nil => rfl
  | _, _, .cons _ r => congrArg Nat.succ (DXs.len r)
theorem DXs.get : ∀ {vs : List V} {ds : List PyData} {i : Nat} {v : V}, DXs b H vs ds → vs[i]? = some v → ∃ d, ds[i]? = some d ∧ DX b H v d
  | _, _, i, v, .nil, h => by simp at h
  | _, _, 0, v, .cons x r, h => by
    simp only [List.getElem?_cons_zero, Option.some.injEq] at h
    subst h
    exact ⟨_, rfl, x⟩
  | _, _, i + 1, v, .cons x r, h => DXs.get (i := i) r (by simpa using h)
theorem DXs.append : ∀ {vs ws : List V} {ds es : List PyData}, DXs b H vs ds → DXs b H ws es → DXs b H (vs ++ ws) (ds ++ es)
  | _, _, _, _, .nil, s => s
  | _, _, _, _, .cons x r, s => .cons x (DXs.append r s)
theorem DXs.set {v : V} {d : PyData} (x : DX b H v d) : ∀ {vs : List V} {ds : List PyData} (i : Nat), DXs b H vs ds → DXs b H (vs.set i v) (ds.set i d)
  | _, _, _, .nil => .nil
  | _, _, 0, .cons _ t => .cons x t
  | _, _, i + 1, .cons q t => .cons q (DXs.set x i t)
theorem DXs.take : ∀ {vs : List V} {ds : List PyData} (n : Nat), DXs b H vs ds → DXs b H (vs.take n) (ds.take n)
  | _, _, 0, _ => .nil
  | _, _, _ + 1, .nil => .nil
  | _, _, n + 1, .cons r t => .cons r (DXs.take n t)
theorem DXs.drop : ∀ {vs : List V} {ds : List PyData} (n : Nat), DXs b H vs ds → DXs b H (vs.drop n) (ds.drop n)
  | _, _, 0, r => r
  | _, _, _ + 1, .nil => .nil
  | _, _, n + 1, .cons _ t => DXs.drop n t
theorem DX.newT {p : Addr} {xs : List V} {ds : List PyData} (nb : p ≠ b) (n : H p = none) (h : DXs b H xs ds) : DX b (upd H p (.tup xs)) (.ref p) (.tuple ds) := .tup nb upd_same (h.same (Same.new n))
theorem DX.newL {p : Addr} {xs : List V} {ds : List PyData} (nb : p ≠ b) (n : H p = none) (h : DXs b H xs ds) : DX b (upd H p (.lst xs)) (.ref p) (.list ds) := .lst nb upd_same (h.same (Same.new n))
mutual
theorem D.dx : ∀ {v : V} (d : PyData), D b H v d → DX b H v d
  | _, .none, .non => .non
  | _, .bool _, .bl x => .bl x
  | _, .int _, .int i => .int i
  | _, .str _, .str x => .str x
  | _, .list ds, .lst n h r => .lst n h (DAll.dx ds r)
  | _, .tuple ds, .tup n h r => .tup n h (DAll.dx ds r)
theorem DAll.dx : ∀ {vs : List V} (ds : List PyData), DAll b H vs ds → DXs b H vs ds
  | _, [], .nil => .nil
  | _, d :: ds, .cons x r => .cons (D.dx d x) (DAll.dx ds r)
end
end
section
variable {X : Cx} {pins : List (Addr × Obj)} {σ : L2.St} {H : Hp} {s : Shared} {b : Addr}
mutual
/-- such data is read, and not by the table of modules -/
theorem DX.reads (I : Inv X pins σ H s) (M : Mk H) : ∀ (d : PyData) (v : V) (u : Value), DX b H v d → RelV v u → ∃ as, Reads s.heap u d as ∧ sysModules ∉ as
  | .none, _, _, .non, r => by
    cases r
    exact ⟨_, .none, by simp⟩
  | .bool _, _, _, .bl _, r => by
    cases r
    exact ⟨_, .bool _, by simp⟩
  | .int _, _, _, .int i, r => by
    obtain ⟨t, rfl⟩ := r
    exact ⟨_, .int i t, by simp⟩
  | .str _, _, _, .str x, r => by
    obtain ⟨t, rfl⟩ := r
    exact ⟨_, .str x t, by simp⟩
  | .list ds, _, _, .lst (a := a) n h ha, r => by
    cases r
    obtain ⟨its, rv, ⟨o, n, ho, hc, _, hd⟩, _⟩ := I.list (SqL.of h)
    obtain ⟨as, hr, hn⟩ := DXs.reads I M ds _ its ha rv
    obtain ⟨om, um, hm⟩ := M
    exact ⟨_, .list ho hc hd hr, by rw [List.mem_cons]; rintro (z | z); exact ne_of hm h (by intro z; cases z) z; exact hn z⟩
  | .tuple ds, _, _, .tup n h ha, r => by
    cases r
    obtain ⟨its, rv, ⟨o, ho, hc, n, hd⟩, _⟩ := I.tuple (SqT.of h)
    obtain ⟨as, hr, hn⟩ := DXs.reads I M ds _ its ha rv
    exact ⟨_, .tuple ho hc hd hr, hn⟩
  | .dict _, _, _, .dct (a := a) n h, r => by
    cases r
    obtain ⟨_, _, vs, kv, o, es, ep, e1, e2, e3, _, e4⟩ := (show ObjOk X.prog X.w H s.heap a (.dK []) from I.hok a _ h)
    obtain ⟨om, um, hm⟩ := M
    have ev : vs = [] := by cases kv; rfl
    subst ev
    have ees : es.toList = [] := by
      have z := e4.1
      generalize es.toList = l at z
      cases z
      rfl
    refine ⟨_, .dict (as := []) (bs := []) e1 e2.1 e3 (by rw [ees]; exact .nil) (by rw [ees]; exact .nil), ?_⟩
    simp only [List.append_nil, List.mem_singleton]
    exact ne_of hm h (by intro z; cases z)
theorem DXs.reads (I : Inv X pins σ H s) (M : Mk H) : ∀ (ds : List PyData) (vs : List V) (us : List Value), DXs b H vs ds → Vals vs us → ∃ as, ReadsAll s.heap us ds as ∧ sysModules ∉ as
  | [], _, _, .nil, r => by
    cases r
    exact ⟨_, .nil, by simp⟩
  | d :: ds, _, _, .cons h1 h2, r => by
    cases r with
    | cons r1 r2 =>
      obtain ⟨as, q1, n1⟩ := DX.reads I M d _ _ h1 r1
      obtain ⟨bs, q2, n2⟩ := DXs.reads I M ds _ _ h2 r2
      exact ⟨_, .cons q1 q2, by rw [List.mem_append]; rintro (z | z); exact n1 z; exact n2 z⟩
end
end
/-- room for the text of such data -/
structure TX (d : PyData) : Prop where
  ok : d.showable = true
  fit : d.shown.length ≤ sizeLine
  dp : d.depth ≤ 60
section
variable {X : Cx}
theorem call_reprX (hq : Quiet X.A) (hu : X.A.units + 64 < cLine) : CallR X (.builtin "repr") (fun xs H Q => ∃ b x d, xs = [x] ∧ Mk H ∧ DX b H x d ∧ TX d ∧ Q (.str d.shown) H) := by
  intro pins s σ H xs us Q I r h
  obtain ⟨b, x, d, rfl, M, hd, ⟨t1, t3, t4⟩, q⟩ := h
  obtain ⟨u, rfl, ru⟩ := vals1 r
  obtain ⟨as, rd, nm⟩ := DX.reads I M d x u hd ru
  cases hd with
  | non =>
    obtain rfl : u = Value.none := ru
    exact PySem.P.repr_of_none ⟨.str "None", H, I.tok _, ⟨_, rfl⟩, q⟩
  | bl y =>
    obtain rfl : u = Value.bool y := ru
    refine PySem.P.repr_of_bool ⟨.str (if y then "True" else "False"), H, I.tok _, ⟨_, rfl⟩, ?_⟩
    simpa only [PyData.shown] using q
  | int i =>
    obtain ⟨t, rfl⟩ := ru
    refine PySem.P.repr_of_int (by simpa [PyData.showable] using t1) ⟨.str (toString i), H, I.tok _, ⟨_, rfl⟩, ?_⟩
    simpa only [PyData.shown] using q
  | str y =>
    obtain ⟨t, rfl⟩ := ru
    simp only [PyData.shown] at q t3
    exact PySem.P.repr_of_str ⟨.str _, H, I.tok _, ⟨_, rfl⟩, q⟩ t3
  | lst h0 h1 h2 =>
    obtain rfl : u = Value.ref _ := ru
    exact repr_of_reads' rd t1 (fun _ => nm) hq (by omega) (fun _ _ e => e) (fun h' u tk k => ⟨.str _, H, I.kept k, ⟨_, rfl⟩, q⟩) t3
  | tup h0 h1 h2 =>
    obtain rfl : u = Value.ref _ := ru
    exact repr_of_reads' rd t1 (fun _ => nm) hq (by omega) (fun _ _ e => e) (fun h' u tk k => ⟨.str _, H, I.kept k, ⟨_, rfl⟩, q⟩) t3
  | dct h0 h1 =>
    obtain rfl : u = Value.ref _ := ru
    exact repr_of_reads' rd t1 (fun _ => nm) hq (by omega) (fun _ _ e => e) (fun h' u tk k => ⟨.str _, H, I.kept k, ⟨_, rfl⟩, q⟩) t3
end
end HK

namespace HK
open PySem PySem.Spec PyProof.Rows L2
def Asc (x : Str) : Prop := ∀ c ∈ x.cps.toList, c < 128
theorem Asc.app {x y : Str} (h : Asc x) (k : Asc y) : Asc (x ++ y) := fun c hc => by
  have e : (x ++ y).cps = x.cps ++ y.cps := rfl
  rw [e, Array.toList_append] at hc
  rcases List.mem_append.mp hc with z | z
  · exact h c z
  · exact k c z
def ascB (x : Str) : Bool := x.cps.toList.all fun c => decide (c < 128)
theorem Asc.by {x : Str} (h : ascB x = true) : Asc x := fun c hc => of_decide_eq_true (List.all_eq_true.mp h c hc)
theorem Asc.ok {x : Str} (h : Asc x) : PyData.strOk x = true := by
  unfold PyData.strOk
  rw [← Array.all_toList, List.all_eq_true]
  intro c hc
  have := h c hc
  exact decide_eq_true (by omega)
theorem rc_asc : ∀ c < 128, ∀ q ∈ [34, 39], ((Builtin.Str.reprChar q c).all fun d => decide (d < 128)) = true := by decide +kernel
theorem fold_asc {q : Nat} (hq : q ∈ [34, 39]) : ∀ (l : List Nat) (acc : Array Nat), (∀ c ∈ l, c < 128) → (∀ c ∈ acc.toList, c < 128) → ∀ c ∈ (l.foldl (fun out c => out ++ (Builtin.Str.reprChar q c).toArray) acc).toList, c < 128
  | [], acc, _, h => h
  | x :: r, acc, hl, h => fold_asc hq r _ (fun c hc => hl c (List.mem_cons_of_mem _ hc)) fun c hc => by
    rw [Array.toList_append] at hc
    rcases List.mem_append.mp hc with z | z
    · exact h c z
    · exact of_decide_eq_true (List.all_eq_true.mp (rc_asc x (hl x List.mem_cons_self) q hq) c z)
theorem quote_is (x : Str) : reprQuote x ∈ [34, 39] := by
  unfold reprQuote
  split <;> simp
theorem Asc.repr {x : Str} (h : Asc x) : Asc (reprText x) := fun c hc => by
  have q := quote_is x
  have q128 : reprQuote x < 128 := by
    simp only [List.mem_cons, List.not_mem_nil, or_false] at q
    omega
  unfold reprText at hc
  rw [← Array.foldl_toList, Array.toList_push] at hc
  rcases List.mem_append.mp hc with z | z
  · refine fold_asc q x.cps.toList #[reprQuote x] h (fun c hc => ?_) c z
    have e : c = reprQuote x := by simpa using hc
    omega
  · rw [List.mem_singleton.mp z]
    exact q128
theorem join_asc {sep : Str} (hs : Asc sep) : ∀ ts : List Str, (∀ t ∈ ts, Asc t) → Asc (Str.join sep ts)
  | [], _ => fun c hc => by simp [Str.join, Str.empty] at hc
  | [x], h => h x List.mem_cons_self
  | x :: y :: r, h => ((h x List.mem_cons_self).app hs).app (join_asc hs (y :: r) fun t ht => h t (List.mem_cons_of_mem _ ht))
theorem from_asc : ∀ (ts : List Str) (k : Nat) (acc : Str), Asc acc → (∀ t ∈ ts, Asc t) → Asc (textFrom k acc ts)
  | [], _, _, h, _ => h
  | t :: r, k, acc, h, hr => from_asc r (k + 1) _ ((h.app (by split <;> exact Asc.by (by decide +kernel))).app (hr t List.mem_cons_self)) fun u hu => hr u (List.mem_cons_of_mem _ hu)
mutual
def ascD : PyData → Bool
  | .none | .bool _ | .int _ => true
  | .str x => ascB x
  | .list xs | .tuple xs => ascDs xs
  | .dict kvs => kvs.isEmpty
def ascDs : List PyData → Bool
  | [] => true
  | x :: xs => ascD x && ascDs xs
end
theorem int_asc (i : Int) : Asc (toString i : String) := fun c hc => by
  rw [Str.ofString_eq_toList] at hc
  simp only [List.mem_map] at hc
  obtain ⟨d, hd, rfl⟩ := hc
  exact int_ascii i d hd
mutual
theorem shown_asc : ∀ d : PyData, ascD d = true → Asc d.shown
  | .none, _ => Asc.by (by decide +kernel)
  | .bool true, _ => Asc.by (by decide +kernel)
  | .bool false, _ => Asc.by (by decide +kernel)
  | .int i, _ => by
    simp only [PyData.shown]
    exact int_asc i
  | .str x, h => by
    simp only [PyData.shown]
    exact Asc.repr (Asc.by (by simpa only [ascD] using h))
  | .list xs, h => by
    simp only [PyData.shown]
    exact Asc.app (from_asc _ _ _ (Asc.by (by decide +kernel)) (showns_asc xs (by simpa only [ascD] using h))) (Asc.by (by decide +kernel))
  | .tuple xs, h => by
    simp only [PyData.shown]
    unfold tupleText
    refine Asc.app (Asc.app (Asc.by (by decide +kernel)) (join_asc (Asc.by (by decide +kernel)) _ (showns_asc xs (by simpa only [ascD] using h)))) ?_
    split <;> exact Asc.by (by decide +kernel)
  | .dict kvs, h => by
    have e : kvs = [] := by simpa only [ascD, List.isEmpty_iff] using h
    subst e
    exact Asc.by (by decide +kernel)
theorem showns_asc : ∀ ds : List PyData, ascDs ds = true → ∀ t ∈ PyData.shownAll ds, Asc t
  | [], _ => fun t ht => by simp [PyData.shownAll] at ht
  | d :: ds, h => fun t ht => by
    have h' : ascD d = true ∧ ascDs ds = true := by simpa only [ascDs, Bool.and_eq_true] using h
    simp only [PyData.shownAll, List.mem_cons] at ht
    rcases ht with rfl | ht
    · exact shown_asc d h'.1
    · exact showns_asc ds h'.2 t ht
end
/-! ### room -/
structure SX (d : PyData) (n m : Nat) : Prop where
  asc : ascD d = true
  sh : d.leavesShort 40 = true
  ok : d.showable = true
  w : d.weight ≤ n
  dp : d.depth ≤ m
/-- the same of many, n all together -/
structure SXs (ds : List PyData) (n m : Nat) : Prop where
  each : ∀ d ∈ ds, ascD d = true ∧ d.leavesShort 40 = true ∧ d.showable = true ∧ d.depth ≤ m
  w : (ds.map fun d => d.weight + 1).sum ≤ n
theorem ascDs_all : ∀ {ds : List PyData}, (∀ d ∈ ds, ascD d = true) → ascDs ds = true
  | [], _ => rfl
  | d :: ds, h => by simp only [ascDs, h d List.mem_cons_self, ascDs_all fun e he => h e (List.mem_cons_of_mem _ he), Bool.and_self]
theorem shortAll_all : ∀ {ds : List PyData}, (∀ d ∈ ds, d.leavesShort 40 = true) → PyData.leavesShortAll 40 ds = true
  | [], _ => rfl
  | d :: ds, h => by simp only [PyData.leavesShortAll, h d List.mem_cons_self, shortAll_all fun e he => h e (List.mem_cons_of_mem _ he), Bool.and_self]
theorem showAll_all : ∀ {ds : List PyData}, (∀ d ∈ ds, d.showable = true) → PyData.showableAll ds = true
  | [], _ => rfl
  | d :: ds, h => by simp only [PyData.showableAll, h d List.mem_cons_self, showAll_all fun e he => h e (List.mem_cons_of_mem _ he), Bool.and_self]
theorem depthAll_all : ∀ {ds : List PyData} {m : Nat}, (∀ d ∈ ds, d.depth ≤ m) → PyData.depthAll ds ≤ m
  | [], _, _ => Nat.zero_le _
  | d :: ds, m, h => by
    have h1 := h d List.mem_cons_self
    have h2 := depthAll_all (ds := ds) fun e he => h e (List.mem_cons_of_mem _ he)
    simp only [PyData.depthAll]
    omega
theorem weightAll_sum : ∀ ds : List PyData, PyData.weightAll ds = (ds.map fun d => d.weight + 1).sum
  | [] => rfl
  | d :: ds => by simp only [PyData.weightAll, List.map_cons, List.sum_cons, weightAll_sum ds]
theorem SXs.list {ds : List PyData} {n m : Nat} (h : SXs ds n m) : SX (.list ds) n (m + 1) :=
  ⟨by simpa only [ascD] using ascDs_all fun d hd => (h.each d hd).1, by simpa only [PyData.leavesShort] using shortAll_all fun d hd => (h.each d hd).2.1, by simpa only [PyData.showable] using showAll_all fun d hd => (h.each d hd).2.2.1,
    by simp only [PyData.weight, weightAll_sum]; exact h.w, by have := depthAll_all fun d hd => (h.each d hd).2.2.2; simp only [PyData.depth]; omega⟩
theorem SXs.tuple {ds : List PyData} {n m : Nat} (h : SXs ds n m) : SX (.tuple ds) n (m + 1) :=
  ⟨by simpa only [ascD] using ascDs_all fun d hd => (h.each d hd).1, by simpa only [PyData.leavesShort] using shortAll_all fun d hd => (h.each d hd).2.1, by simpa only [PyData.showable] using showAll_all fun d hd => (h.each d hd).2.2.1,
    by simp only [PyData.weight, weightAll_sum]; exact h.w, by have := depthAll_all fun d hd => (h.each d hd).2.2.2; simp only [PyData.depth]; omega⟩
theorem all_ascDs : ∀ {ds : List PyData}, ascDs ds = true → ∀ d ∈ ds, ascD d = true
  | d :: ds, h, e, he => by
    have h' : ascD d = true ∧ ascDs ds = true := by simpa only [ascDs, Bool.and_eq_true] using h
    rcases List.mem_cons.mp he with rfl | he
    · exact h'.1
    · exact all_ascDs h'.2 e he
theorem all_short : ∀ {ds : List PyData}, PyData.leavesShortAll 40 ds = true → ∀ d ∈ ds, d.leavesShort 40 = true
  | d :: ds, h, e, he => by
    have h' : d.leavesShort 40 = true ∧ PyData.leavesShortAll 40 ds = true := by simpa only [PyData.leavesShortAll, Bool.and_eq_true] using h
    rcases List.mem_cons.mp he with rfl | he
    · exact h'.1
    · exact all_short h'.2 e he
theorem all_show : ∀ {ds : List PyData}, PyData.showableAll ds = true → ∀ d ∈ ds, d.showable = true
  | d :: ds, h, e, he => by
    have h' : d.showable = true ∧ PyData.showableAll ds = true := by simpa only [PyData.showableAll, Bool.and_eq_true] using h
    rcases List.mem_cons.mp he with rfl | he
    · exact h'.1
    · exact all_show h'.2 e he
theorem all_depth : ∀ {ds : List PyData} {m : Nat}, PyData.depthAll ds ≤ m → ∀ d ∈ ds, d.depth ≤ m
  | d :: ds, m, h, e, he => by
    simp only [PyData.depthAll] at h
    rcases List.mem_cons.mp he with rfl | he
    · omega
    · exact all_depth (ds := ds) (by omega) e he
/-- what a list or a tuple holds -/
theorem SX.items {ds : List PyData} {n m : Nat} (h : SX (.list ds) n m ∨ SX (.tuple ds) n m) : 1 ≤ m ∧ SXs ds n (m - 1) := by
  rcases h with h | h
  all_goals
    have a := h.asc
    have b := h.sh
    have c := h.ok
    have w := h.w
    have dp := h.dp
    simp only [ascD, PyData.leavesShort, PyData.showable, PyData.weight, PyData.depth, weightAll_sum] at a b c w dp
    exact ⟨by omega, fun d hd => ⟨all_ascDs a d hd, all_short b d hd, all_show c d hd, all_depth (ds := ds) (by omega) d hd⟩, w⟩
theorem SXs.nil {m : Nat} : SXs [] 0 m := ⟨fun d hd => (List.not_mem_nil hd).elim, Nat.le_refl _⟩
theorem SXs.cons {d : PyData} {ds : List PyData} {n k m : Nat} (h : SX d n m) (r : SXs ds k m) : SXs (d :: ds) (n + 1 + k) m :=
  ⟨fun e he => by
    rcases List.mem_cons.mp he with rfl | he
    · exact ⟨h.asc, h.sh, h.ok, h.dp⟩
    · exact r.each e he, by have := h.w; have := r.w; simp only [List.map_cons, List.sum_cons]; omega⟩
theorem SXs.mono {ds : List PyData} {n k m j : Nat} (h : SXs ds n m) (a : n ≤ k) (c : m ≤ j) : SXs ds k j := ⟨fun d hd => let ⟨x, y, z, t⟩ := h.each d hd; ⟨x, y, z, Nat.le_trans t c⟩, Nat.le_trans h.w a⟩
theorem SX.mono {d : PyData} {n k m j : Nat} (h : SX d n m) (a : n ≤ k) (c : m ≤ j) : SX d k j := ⟨h.asc, h.sh, h.ok, Nat.le_trans h.w a, Nat.le_trans h.dp c⟩
theorem sum_le_mem : ∀ {ds : List PyData} {d : PyData}, d ∈ ds → d.weight + 1 ≤ (ds.map fun d => d.weight + 1).sum
  | e :: ds, d, h => by
    simp only [List.map_cons, List.sum_cons]
    rcases List.mem_cons.mp h with rfl | h
    · omega
    · have := sum_le_mem h
      omega
theorem SXs.get {ds : List PyData} {n m : Nat} (h : SXs ds n m) {d : PyData} (hd : d ∈ ds) : SX d (n - 1) m := by
  obtain ⟨a, b, c, e⟩ := h.each d hd
  have := sum_le_mem hd
  have := h.w
  exact ⟨a, b, c, by omega, e⟩
theorem sum_set : ∀ {ds : List PyData} {i : Nat} {d : PyData}, ((ds.set i d).map fun d => d.weight + 1).sum ≤ (ds.map fun d => d.weight + 1).sum + (d.weight + 1)
  | [], i, d => by simp
  | e :: ds, 0, d => by simp only [List.set_cons_zero, List.map_cons, List.sum_cons]; omega
  | e :: ds, i + 1, d => by
    have := sum_set (ds := ds) (i := i) (d := d)
    simp only [List.set_cons_succ, List.map_cons, List.sum_cons]
    omega
theorem sum_set_of : ∀ {ds : List PyData} {i : Nat} {d e : PyData}, ds[i]? = some e → ((ds.set i d).map fun d => d.weight + 1).sum + e.weight = (ds.map fun d => d.weight + 1).sum + d.weight
  | [], i, d, e, h => by simp at h
  | x :: ds, 0, d, e, h => by
    have z : x = e := by simpa using h
    subst z
    simp only [List.set_cons_zero, List.map_cons, List.sum_cons]
    omega
  | x :: ds, i + 1, d, e, h => by
    have := sum_set_of (ds := ds) (i := i) (d := d) (e := e) (by simpa using h)
    simp only [List.set_cons_succ, List.map_cons, List.sum_cons]
    omega
theorem SXs.append {ds es : List PyData} {n k m : Nat} (h : SXs ds n m) (r : SXs es k m) : SXs (ds ++ es) (n + k) m :=
  ⟨fun d hd => (List.mem_append.mp hd).elim (h.each d) (r.each d), by have := h.w; have := r.w; rw [List.map_append, List.sum_append]; omega⟩
theorem sub_sum : ∀ {es ds : List PyData}, es.Sublist ds → (es.map fun d => d.weight + 1).sum ≤ (ds.map fun d => d.weight + 1).sum
  | _, _, .slnil => Nat.le_refl _
  | _, _, .cons a h => by
    have := sub_sum h
    simp only [List.map_cons, List.sum_cons]
    omega
  | _, _, .cons₂ a h => by
    have := sub_sum h
    simp only [List.map_cons, List.sum_cons]
    omega
theorem SXs.sub {ds es : List PyData} {n m : Nat} (h : SXs ds n m) (s : es.Sublist ds) : SXs es n m :=
  ⟨fun d hd => h.each d (s.subset hd), Nat.le_trans (sub_sum s) h.w⟩
theorem SX.none : SX .none 0 0 := ⟨rfl, rfl, rfl, Nat.le_refl _, by simp [PyData.depth]⟩
theorem SX.bool (x : Bool) : SX (.bool x) 0 0 := ⟨rfl, rfl, rfl, Nat.le_refl _, by simp [PyData.depth]⟩
theorem SX.str {x : Str} {n : Nat} (h : Asc x) (l : x.cps.size ≤ n) : SX (.str x) n 0 :=
  ⟨List.all_eq_true.mpr fun c hc => decide_eq_true (h c hc), by simp only [PyData.leavesShort, List.all_eq_true, decide_eq_true_eq]; exact fun c hc => Nat.lt_trans (h c hc) (by decide), rfl, l, by simp [PyData.depth]⟩
theorem SX.empty : SX (.dict []) 0 1 := ⟨rfl, rfl, rfl, Nat.le_refl _, by simp [PyData.depth, PyData.depthKv]⟩
theorem SX.int {i : Int} (h : i.natAbs < 10 ^ 39) : SX (.int i) 130 0 := by
  have l2 : i.natAbs.log2 < 130 := by
    by_cases z : i.natAbs = 0
    · rw [z]; decide
    · exact (Nat.log2_lt z).mpr (Nat.lt_trans h (by decide))
  refine ⟨rfl, ?_, by simp only [PyData.showable, decide_eq_true_eq]; omega, ?_, by simp [PyData.depth]⟩
  · have e := int_text_length_le10 (k := 39) (by decide) h
    show decide ((Str.ofString (toString i)).length ≤ 40) = true
    refine decide_eq_true ?_
    rw [PySem.ofString_length]
    exact e
  · simp only [PyData.weight]
    split <;> omega
theorem SX.tx {d : PyData} {n m : Nat} (h : SX d n m) (a : n ≤ 300000) (c : m ≤ 60) : TX d := by
  have z := PyData.shown_le 40 (by decide) d h.sh
  have w := h.w
  refine ⟨h.ok, ?_, Nat.le_trans h.dp c⟩
  rw [sizeLine_eq]
  omega
/-- the text of it, as data -/
theorem SX.said {d : PyData} {n m : Nat} (h : SX d n m) : Sm (.str d.shown) (42 * n + 40) 0 := by
  have z := PyData.shown_le 40 (by decide) d h.sh
  have w := h.w
  exact Sm.str ⟨by show d.shown.length ≤ _; omega, (shown_asc d h.asc).ok⟩
end HK

namespace K14
open PySem PySem.Spec PyProof.Rows L2 HK
def top (i : Nat) : Stmt := PySem.Challenge.pw_hookcarts_k14_trains_judged.main.body.getD i (.Pass ⟨0, 0, 0, 0⟩)
abbrev sBag : Stmt := top 19
abbrev sTake : Stmt := top 20
abbrev sAlike : Stmt := top 21
abbrev sOne : Stmt := top 22
abbrev sKinds : Stmt := top 24
theorem yes_ok {σ : L2.St} {H : Hp} {A B : Hp → Prop} (h : A H) : tYes σ H (fun b H3 => if b = true then A H3 else B H3) := by
  show (if true = true then A H else B H)
  rw [if_pos rfl]
  exact h
theorem fm {x m : Int} (h : 0 < m) : 0 ≤ x.fmod m ∧ x.fmod m < m := by
  rw [Int.fmod_eq_emod_of_nonneg _ (by omega)]
  exact ⟨Int.emod_nonneg _ (by omega), Int.emod_lt_of_pos _ h⟩
theorem nz {b : Int} (h : b ≠ 0) : b ≠ 0 := h
/-! ### the bag of draws -/
def Bag (b : Addr) (H : Hp) : Prop := ∃ (r s i : Int) (l : Addr) (ns : List Int), H b = some (.lst [.int r, .int s, .int i, .ref l]) ∧ H l = some (.lst (ns.map V.int)) ∧ l ≠ b ∧ 0 ≤ r ∧ 0 ≤ s ∧ s < 2147483647 ∧ 0 ≤ i ∧ ∀ n ∈ ns, 0 ≤ n
theorem Bag.same {b : Addr} {H H' : Hp} (g : Bag b H) (s : Same H H') : Bag b H' := by
  obtain ⟨r, s', i, l, ns, h1, h2, z⟩ := g
  exact ⟨r, s', i, l, ns, s _ _ h1, s _ _ h2, z⟩
theorem Bag.ne {b p : Addr} {H : Hp} (g : Bag b H) (n : H p = none) : p ≠ b := by
  obtain ⟨r, s', i, l, ns, h1, h2, z⟩ := g
  exact (ne_of_none h1 n).symm
def BagL (b l : Addr) (H : Hp) : Prop := ∃ (r s i : Int) (ns : List Int), H b = some (.lst [.int r, .int s, .int i, .ref l]) ∧ H l = some (.lst (ns.map V.int)) ∧ l ≠ b ∧ 0 ≤ r ∧ 0 ≤ s ∧ s < 2147483647 ∧ 0 ≤ i ∧ ∀ n ∈ ns, 0 ≤ n
theorem BagL.bag {b l : Addr} {H : Hp} (g : BagL b l H) : Bag b H := by
  obtain ⟨r, s, i, ns, h1, h2, z⟩ := g
  exact ⟨r, s, i, l, ns, h1, h2, z⟩
theorem Bag.L {b : Addr} {H : Hp} (g : Bag b H) : ∃ l, BagL b l H := by
  obtain ⟨r, s, i, l, ns, h1, h2, z⟩ := g
  exact ⟨l, r, s, i, ns, h1, h2, z⟩
theorem BagL.same {b l : Addr} {H H' : Hp} (g : BagL b l H) (s : Same H H') : BagL b l H' := by
  obtain ⟨r, s', i, ns, h1, h2, z⟩ := g
  exact ⟨r, s', i, ns, s _ _ h1, s _ _ h2, z⟩
theorem BagL.upd {b l p : Addr} {H H' : Hp} {o : HO} (g : BagL b l H') (g0 : BagL b l H) (n : H p = none) : BagL b l (upd H' p o) := by
  obtain ⟨r, s', i, ns, h1, h2, z⟩ := g
  obtain ⟨_, _, _, _, e1, e2, _⟩ := g0
  exact ⟨r, s', i, ns, by rw [upd_ne (ne_of_none e1 n)]; exact h1, by rw [upd_ne (ne_of_none e2 n)]; exact h2, z⟩
/-- what a draw keeps: all but the bag's own list, where the bag's cells stand, what is told -/
structure Keep (b : Addr) (H H' : Hp) : Prop where
  k : HK.Keep b H H'
  g : ∀ l, BagL b l H → BagL b l H'
  on : ∀ q, H q ≠ none → H' q ≠ none
instance {b : Addr} {H H' : Hp} : CoeFun (Keep b H H') (fun _ => ∀ c o, c ≠ b → H c = some o → H' c = some o) := ⟨fun k => k.k⟩
instance {b : Addr} {H H' : Hp} : Coe (Keep b H H') (HK.Keep b H H') := ⟨fun k => k.k⟩
theorem on_same {H H' : Hp} (s : Same H H') : ∀ q, H q ≠ none → H' q ≠ none := fun q h => by
  cases e : H q with
  | none => exact absurd e h
  | some o => rw [s _ _ e]; exact fun z => nomatch z
theorem on_upd {H H' : Hp} {p : Addr} {o : HO} (x : ∀ q, H q ≠ none → H' q ≠ none) : ∀ q, H q ≠ none → (upd H' p o) q ≠ none := fun q h => by
  by_cases e : q = p
  · subst e
    rw [upd_same]
    exact fun z => nomatch z
  · rw [upd_ne e]
    exact x q h
theorem Keep.refl (b : Addr) (H : Hp) : Keep b H H := ⟨HK.Keep.refl b H, fun _ h => h, fun _ h => h⟩
theorem Keep.trans {b : Addr} {H H1 H2 : Hp} (x : Keep b H H1) (y : Keep b H1 H2) : Keep b H H2 := ⟨HK.Keep.trans x.k y.k, fun l h => y.g l (x.g l h), fun q h => y.on q (x.on q h)⟩
theorem Keep.of {b : Addr} {H H' : Hp} (x : Same H H') : Keep b H H' := ⟨HK.Keep.of x, fun l h => h.same x, on_same x⟩
theorem Keep.newer {b : Addr} {H H1 : Hp} {p : Addr} {o : HO} (x : Keep b H H1) (n : H p = none) : Keep b H (upd H1 p o) := ⟨HK.Keep.newer x.k n, fun l h => (x.g l h).upd h n, on_upd x.on⟩
theorem Keep.bag {b : Addr} {H H1 : Hp} {p : Addr} {o : HO} (x : Keep b H H1) (g : Bag b H) (n : H p = none) : Bag b (upd H1 p o) := by
  obtain ⟨l, h⟩ := g.L
  exact ((x.g l h).upd h n).bag
theorem Keep.free {b : Addr} {H H' : Hp} (x : Keep b H H') {l : Addr} (nb : l ≠ b) (h : H' l = none) : H l = none := HK.Keep.free x.k nb h
theorem Keep.at {b l : Addr} {r s i : Int} {H : Hp} {o : HO} (h1 : H b = some (.lst [.int r, .int s, .int i, .ref l])) (g : BagL b l (upd H b o)) : Keep b H (upd H b o) :=
  ⟨fun x u n q => by rw [upd_ne n]; exact q, fun l0 g0 => by
    obtain ⟨_, _, _, _, e, _⟩ := g0
    rw [h1] at e
    cases e
    exact g, on_upd fun _ h => h⟩
structure TxB (mg : Str → Option Value) : Prop where
  n_abs : mg "abs" = none
  n_len : mg "len" = none
  n_int : mg "int" = none
def spBag (K : PySem.W.Frag) : Sp := fun vs H Q _ => ∃ (a : Addr) (ns : List Int), vs = [.ref a] ∧ SqL K H a (ns.map V.int) ∧ ns.length ≤ 63 ∧ ∀ b H', Same H H' → H b = none → Bag b H' → Q (.ref b) H'
section
variable {P : Program} {w : World} {K : PySem.W.Frag} {mg : Str → Option Value} {base : Heap}
theorem cut_map {ns : List Int} {lo hi : Option Int} : ∃ ms : List Int, cutV (ns.map V.int) lo hi = ms.map V.int ∧ ms.length ≤ ns.length := by
  refine ⟨((ns.drop (HT.sIx (ns.map V.int).length 0 lo)).take (HT.sIx (ns.map V.int).length (ns.map V.int).length hi - HT.sIx (ns.map V.int).length 0 lo)), ?_, ?_⟩
  · unfold cutV
    rw [List.map_take, List.map_drop]
  · rw [List.length_take, List.length_drop]
    omega
theorem scBag : FnScope ["_law_script", "_law_cell"] ["_law_script"] (defScope sBag) := ⟨rfl, rfl, rfl, by decide +kernel, rfl, by decide +kernel, by decide +kernel⟩
theorem ok_bag {f : Addr} {fd : FuncData} (F : Fun K "_law_bag" "_law_bag" sBag f fd) (T : TxB mg) : FnOk P w K mg base CX0 1 f fd ["_law_script"] (spBag K) := by
  refine F.ok scBag (fun vs H Q E h => ?_) (fun cdv A outer s H vs Q E hr h => ?_)
  · obtain ⟨a, ns, rfl, _⟩ := h
    rfl
  · obtain ⟨a, ns, rfl, hS, hl, k⟩ := h
    have nd := scBag.nd
    refine ⟨_, (pss_one (ps_ret (pe_lst (pa_cons pe_int (pa_cons pe_int (pa_cons pe_int (pa_cons (pe_lc (own := [("_law_cell", 1)]) (g := (gName 1)) (tt := tYes) rfl nd (pi_list (pe_slice sl_list (pv 0) po_none (po_some pe_int))) (blkOk_by (N := ["_law_script", "_law_cell"]) (sc := defScope sBag) (by decide +kernel)) (fun _ _ _ _ _ => (pg_name (i := 1) nd rfl (Or.inl rfl))) (fun _ _ _ _ _ => pts_nil) (fun _ _ _ _ _ => (pe_callB call_abs (by rfl) T.n_abs (by decide +kernel) (pa_cons (pv 1) pa_nil)))) pa_nil))))))), ?_⟩
    refine ⟨_, rfl, 63, rfl, a, _, rfl, hS, fun p np => ?_⟩
    obtain ⟨ms, em, lm⟩ := cut_map (ns := ns) (lo := none) (hi := some 63)
    rw [em]
    refine ⟨p, rfl, ⟨_, SqL.of upd_same⟩, fun D nD => ?_⟩
    refine lc_list (K := K) (a := p) (xs := ms.map V.int) (fun i H' => Same H H' ∧ H' p = some (.lst (ms.map V.int)) ∧ ∃ acc : List Int, acc.length = i ∧ (∀ n ∈ acc, 0 ≤ n) ∧ H' D = some (.lst (acc.map V.int))) ?_ (fun i H' _ z => SqL.of z.2.1) ?_ ?_
    · exact ⟨Same.newer (Same.new np) ((Same.new np).free nD), by rw [upd_ne (ne_of_none upd_same nD), upd_same], [], rfl, fun n hn => (List.not_mem_nil hn).elim, upd_same⟩
    · rintro i x H' hi ⟨sm, hp', acc, la, nn, hD⟩
      obtain ⟨z, hz, rfl⟩ : ∃ z, ms[i]? = some z ∧ V.int z = x := by simpa [List.getElem?_map] using hi
      have li : i < ms.length := (List.getElem?_eq_some_iff.mp hz).1
      refine ⟨rfl, ?_⟩
      refine yes_ok ?_
      refine ⟨_, rfl, z, rfl, acc.map V.int, hD, small1000 (by rw [List.length_map]; omega), ?_⟩
      have npD : p ≠ D := ne_of_none upd_same nD
      refine ⟨Same.newer sm ((Same.new np).free nD), by rw [upd_ne npD]; exact hp', acc ++ [if z < 0 then -z else z], by simp [la], fun n hn => ?_, by rw [upd_same, List.map_append]; rfl⟩
      rcases List.mem_append.mp hn with hn | hn
      · exact nn n hn
      · rw [List.mem_singleton.mp hn]
        split <;> omega
    · rintro H' ⟨sm, hp', acc, la, nn, hD⟩
      refine ⟨by show 4 ≤ sizeLine; decide, fun b nb => k b _ (Same.newer sm (sm.free nb)) (sm.free nb) ?_⟩
      exact ⟨0, 1234567891, 0, D, acc, upd_same, by rw [upd_ne (ne_of_none hD nb)]; exact hD, ne_of_none hD nb, by decide, by decide, by decide, by decide, nn⟩
/-! ### a draw -/
def spTake : Sp := fun vs H Q _ => ∃ (b : Addr) (m : Int), vs = [.ref b, .int m] ∧ Bag b H ∧ 1 ≤ m ∧ m < 1073741824 ∧ ∀ r H', 0 ≤ r → r < m → Bag b H' → Keep b H H' → Q (.int r) H'
theorem scTake : FnScope ["_law_bag_here", "_law_many", "_law_cell", "_law_mixed_here", "_law_drawn", "_law_early", "_law_second"] ["_law_bag_here", "_law_many"] (defScope sTake) := ⟨rfl, rfl, rfl, by decide +kernel, rfl, by decide +kernel, by decide +kernel⟩
theorem ok_take {f : Addr} {fd : FuncData} (F : Fun K "_law_take" "_law_take" sTake f fd) (T : TxB mg) : FnOk P w K mg base CX0 1 f fd ["_law_bag_here", "_law_many"] spTake := by
  refine F.ok scTake (fun vs H Q E h => ?_) (fun cdv A outer s H vs Q E hr h => ?_)
  · obtain ⟨b, m, rfl, _⟩ := h
    rfl
  · obtain ⟨b, m, rfl, g, m1, m2, k⟩ := h
    have nd := scTake.nd
    refine ⟨_, (C8.pss_cut (ps_if (pt_cmpR op_eq (pe_ix ix_list (pv 0) pe_int (fun _ _ => rfl)) pe_int (nomark _))
      (pss_cons (ps_set (i := 2) nd rfl (Or.inl rfl) pe_int)
      (C8.pss_cut (ps_if (pt_cmpR op_lt (pe_ix ix_list (pv 0) pe_int (fun _ _ => rfl)) (pe_callB call_len_seq (by rfl) T.n_len (by decide +kernel) (pa_cons (pe_ix ix_list (pv 0) pe_int (fun _ _ => rfl)) pa_nil)) (nomark _))
        (pss_one (ps_set (i := 2) nd rfl (Or.inl rfl) (pe_ix ix_list (pe_ix ix_list (pv 0) pe_int (fun _ _ => rfl)) (pe_ix ix_list (pv 0) pe_int (fun _ _ => rfl)) (fun _ _ => rfl))))
         pss_nil)
      (pss_cons (ps_augS (pv 0) pe_int get_list pe_int ip_add set_list)
      (C8.pss_cut (ps_if (pt_cmpR op_ge (pv 2) pe_int (nomark _))
        (pss_one (ps_asg (pv 2) (pg_sub (pv 0) pe_int set_list)))
         pss_nil)
      (pss_cons (ps_set (i := 3) nd rfl (Or.inl rfl) (pe_op op_add (pe_op op_add (pe_op op_mul (pe_ix ix_list (pv 0) pe_int (fun _ _ => rfl)) pe_int) (pe_op op_modN (pe_callTy call_int1 (by rfl) T.n_int (by decide +kernel) (pa_cons (pv 2) pa_nil)) pe_int)) (pe_op op_mul pe_int (pe_ix ix_list (pv 0) pe_int (fun _ _ => rfl)))))
      (pss_one (ps_asg (pe_op op_modN (pe_callTy call_int1 (by rfl) T.n_int (by decide +kernel) (pa_cons (pv 3) pa_nil)) pe_int) (pg_sub (pv 0) pe_int set_list))))))))
       pss_nil)
    (pss_cons (ps_if (pt_cmpR op_gt (pe_ix ix_list (pv 0) pe_int (fun _ _ => rfl)) pe_int (nomark _))
      (pss_cons (ps_set (i := 4) nd rfl (Or.inl rfl) (pe_op op_modN (pe_callTy call_int1 (by rfl) T.n_int (by decide +kernel) (pa_cons (pe_ix ix_list (pv 0) pe_int (fun _ _ => rfl)) pa_nil)) (pv 1)))
      (pss_cons (ps_asg (pe_op op_fdivN (pe_ix ix_list (pv 0) pe_int (fun _ _ => rfl)) (pv 1)) (pg_sub (pv 0) pe_int set_list))
      (pss_one (ps_ret (pv 4)))))
       pss_nil)
    (pss_cons (ps_set (i := 5) nd rfl (Or.inl rfl) (pe_op op_modN (pe_callTy call_int1 (by rfl) T.n_int (by decide +kernel) (pa_cons (pe_op op_mul (pe_op op_add (pe_ix ix_list (pv 0) pe_int (fun _ _ => rfl)) pe_int) pe_int) pa_nil)) pe_int))
    (pss_cons (ps_set (i := 6) nd rfl (Or.inl rfl) (pe_op op_modN (pe_callTy call_int1 (by rfl) T.n_int (by decide +kernel) (pa_cons (pe_op op_mul (pe_op op_modN (pe_callTy call_int1 (by rfl) T.n_int (by decide +kernel) (pa_cons (pe_op op_mul (pv 5) (pv 5)) pa_nil)) pe_int) pe_int) pa_nil)) pe_int))
    (pss_one (ps_ret (pe_op op_modN (pe_callTy call_int1 (by rfl) T.n_int (by decide +kernel) (pa_cons (pe_op op_fdivN (pv 6) pe_int) pa_nil)) (pv 1)))))))), ?_⟩
    have g' := g
    obtain ⟨r, s0, i, l, ns, h1, h2, nl, r0, s1, s2, i0, nn⟩ := g'
    -- ahead of the second part: the bag again, with some r
    refine ⟨fun σ H1 => Bag b H1 ∧ Keep b H H1 ∧ ∃ c d, σ = [some (.ref b), some (.int m), c, d, none, none, none], ?_, ?_⟩
    · refine ⟨_, rfl, b, _, _, _, rfl, rfl, SqL.of h1, rfl, rfl, _, rfl, ?_⟩
      refine ite2 (fun z => ?_) (fun z => ?_)
      · refine ⟨fun σ H1 => H1 = H ∧ ∃ c : Int, 0 ≤ c ∧ σ = [some (.ref b), some (.int m), some (.int c), none, none, none, none], ?_, ?_⟩
        · refine ⟨_, rfl, b, _, _, _, rfl, rfl, SqL.of h1, rfl, _, rfl, b, _, _, _, rfl, rfl, SqL.of h1, rfl, l, _, rfl, .inl (SqL.of h2), _, _, rfl, rfl, _, rfl, ?_⟩
          refine ite2 (fun lt => ?_) (fun _ => ⟨rfl, 0, by decide, rfl⟩)
          have lt' : i < ((ns.map V.int).length : Int) := of_decide_eq_true lt
          rw [List.length_map] at lt'
          have hi : i.toNat < ns.length := by omega
          have hz : (ns.map V.int)[i.toNat]? = some (.int ns[i.toNat]) := by rw [List.getElem?_map, List.getElem?_eq_getElem hi]; rfl
          have hz' := atI_nat hz
          rw [Int.toNat_of_nonneg i0] at hz'
          refine ⟨_, rfl, b, _, _, _, rfl, rfl, SqL.of h1, rfl, _, rfl, b, _, _, _, rfl, rfl, SqL.of h1, rfl, l, _, _, _, rfl, rfl, SqL.of h2, hz', ?_⟩
          exact ⟨rfl, _, nn _ (List.getElem_mem hi), rfl⟩
        · rintro σ H1 ⟨rfl, c, c0, rfl⟩
          refine ⟨_, rfl, b, _, _, _, rfl, rfl, SqL.of h1, rfl, _, _, rfl, rfl, b, _, _, _, rfl, rfl, h1, rfl, ?_⟩
          refine ⟨fun σ H2 => ∃ r', 0 ≤ r' ∧ H2 = upd H1 b (.lst [.int r', .int s0, .int (i + 1), .ref l]) ∧ σ = [some (.ref b), some (.int m), some (.int c), none, none, none, none], ?_, ?_⟩
          · refine ⟨_, rfl, _, _, rfl, rfl, _, rfl, ?_⟩
            refine ite2 (fun _ => ?_) (fun _ => ⟨r, r0, rfl, rfl⟩)
            refine ⟨_, rfl, _, rfl, b, _, _, _, rfl, rfl, upd_same, rfl, c, c0, ?_, rfl⟩
            rw [upd_upd]
            rfl
          · rintro σ H2 ⟨r', r0', rfl, rfl⟩
            refine ⟨_, rfl, b, _, _, _, rfl, rfl, SqL.of upd_same, rfl, _, _, rfl, rfl, .inr ⟨by decide, by decide⟩, ?_⟩
            refine ⟨_, rfl, .inl ⟨_, rfl, _, _, rfl, rfl, nz (by decide), _, _, rfl, rfl, ?_⟩⟩
            refine ⟨_, rfl, b, _, _, _, rfl, rfl, SqL.of upd_same, rfl, _, _, rfl, rfl, .inl ⟨by decide, by decide⟩, _, _, rfl, rfl, ?_⟩
            refine ⟨_, rfl, .inl ⟨_, rfl, _, _, rfl, rfl, nz (by decide), _, rfl, b, _, _, _, rfl, rfl, upd_same, rfl, ?_⟩⟩
            rw [upd_upd]
            refine (fun gl : BagL b l _ => ⟨gl.bag, Keep.at h1 gl, _, _, rfl⟩) ⟨r', _, i + 1, ns, upd_same, by rw [upd_ne nl]; exact h2, nl, r0', ?_, ?_, by omega, nn⟩
            · exact (fm (by decide)).1
            · exact (fm (by decide)).2
      · exact ⟨g, Keep.refl _ _, none, none, rfl⟩
    · rintro σ H1 ⟨g1, kp, c, d, rfl⟩
      obtain ⟨r, s0, i, l, ns, h1, h2, nl, r0, s1, s2, i0, nn⟩ := id g1
      refine ⟨_, rfl, b, _, _, _, rfl, rfl, SqL.of h1, rfl, _, _, rfl, rfl, _, rfl, ?_⟩
      refine ite2 (fun _ => ?_) (fun _ => ?_)
      · refine ⟨_, rfl, b, _, _, _, rfl, rfl, SqL.of h1, rfl, .inl ⟨_, rfl, _, rfl, _, _, rfl, rfl, nz (by omega), ?_⟩⟩
        refine ⟨_, rfl, b, _, _, _, rfl, rfl, SqL.of h1, rfl, _, rfl, _, _, rfl, rfl, ⟨by omega, by omega⟩, _, rfl, b, _, _, _, rfl, rfl, h1, rfl, _, rfl, ?_⟩
        refine (fun gl : BagL b l _ => k (r.fmod m) _ (fm (by omega)).1 (fm (by omega)).2 gl.bag (kp.trans (Keep.at h1 gl))) ⟨_, s0, i, ns, upd_same, by rw [upd_ne nl]; exact h2, nl, ?_, s1, s2, i0, nn⟩
        rw [Int.fdiv_eq_ediv_of_nonneg _ (by omega)]
        exact Int.ediv_nonneg r0 (by omega)
      · refine ⟨_, rfl, b, _, _, _, rfl, rfl, SqL.of h1, rfl, _, _, rfl, rfl, _, _, rfl, rfl, .inr ⟨by decide, by decide⟩, .inl ⟨_, rfl, _, _, rfl, rfl, nz (by decide), ?_⟩⟩
        have he' := fm (x := (s0 + 1) * 39373) (m := 1000000007) (by decide)
        have big : (2 : Int) ^ 64 = 18446744073709551616 := by decide
        refine ⟨_, rfl, _, rfl, _, _, rfl, rfl, .inl ⟨by rw [big]; omega, by rw [big]; omega⟩, .inl ⟨_, rfl, _, _, rfl, rfl, nz (by decide), _, _, rfl, rfl, .inr ⟨by decide, by decide⟩, .inl ⟨_, rfl, _, _, rfl, rfl, nz (by decide), ?_⟩⟩⟩
        refine ⟨_, rfl, _, _, rfl, rfl, ⟨by decide, by decide⟩, .inl ⟨_, rfl, _, rfl, _, _, rfl, rfl, nz (by omega), ?_⟩⟩
        exact k _ _ (fm (by omega)).1 (fm (by omega)).2 g1 kp
/-! ### one of several -/
def spOne : Sp := fun vs H Q _ => ∃ (b a : Addr) (xs : List V), vs = [.ref b, .ref a] ∧ Bag b H ∧ a ≠ b ∧ H a = some (.lst xs) ∧ 1 ≤ xs.length ∧ xs.length < 1073741824 ∧ ∀ (i : Nat) (v : V) H', xs[i]? = some v → Bag b H' → Keep b H H' → Q v H'
theorem scOne : FnScope ["_law_bag_here", "_law_things"] ["_law_bag_here", "_law_things"] (defScope sOne) := ⟨rfl, rfl, rfl, by decide +kernel, rfl, by decide +kernel, by decide +kernel⟩
theorem ok_one {f fT : Addr} {fd fdT : FuncData} (F : Fun K "_law_one" "_law_one" sOne f fd) (T : TxB mg) (gT : mg "_law_take" = some (.ref fT)) (FT : Fun K "_law_take" "_law_take" sTake fT fdT) (bT : Binds K fdT ["_law_bag_here", "_law_many"] []) :
    FnOk P w K mg base CX0 2 f fd ["_law_bag_here", "_law_things"] spOne := by
  have GT : FnOk P w K mg base CX0 1 fT fdT _ spTake := ok_take FT T
  refine F.ok scOne (fun vs H Q E h => ?_) (fun cdv A outer s H vs Q E hr h => ?_)
  · obtain ⟨b, a, xs, rfl, _⟩ := h
    rfl
  · obtain ⟨b, a, xs, rfl, g, nab, hx, l1, l2, k⟩ := h
    refine ⟨_, (pss_one (ps_ret (pe_ix ix_list (pv 1) (pe_call GT hr rfl gT FT.kp bT .nil pass0 (pa_cons (pv 0) (pa_cons (pe_callB call_len_seq (by rfl) T.n_len (by decide +kernel) (pa_cons (pv 1) pa_nil)) pa_nil))) (fun _ _ => rfl)))), ?_⟩
    refine ⟨_, rfl, _, rfl, _, rfl, a, _, rfl, .inl (SqL.of hx), b, _, rfl, g, by omega, by omega, fun r H' r0 r1 g' kp => ?_⟩
    have hi : r.toNat < xs.length := by omega
    have hz := atI_nat (List.getElem?_eq_getElem hi)
    rw [Int.toNat_of_nonneg r0] at hz
    exact ⟨a, _, _, _, rfl, rfl, SqL.of (kp _ _ nab hx), hz, k _ _ _ (List.getElem?_eq_getElem hi) g' kp⟩
/-! ### alike -/
structure TxA (mg : Str → Option Value) : Prop where
  n_repr : mg "repr" = none
def spAlike (K : PySem.W.Frag) : Sp := fun vs H Q _ => ∃ (x y : V) (d : PyData), vs = [x, y] ∧ Dp K H x d ∧ Dp K H y d ∧ Fine d ∧ Q (.bl true) H
theorem scAlike : FnScope ["_law_found", "_law_due"] ["_law_found", "_law_due"] (defScope sAlike) := ⟨rfl, rfl, rfl, by decide +kernel, rfl, by decide +kernel, by decide +kernel⟩
theorem ok_alike {f : Addr} {fd : FuncData} (F : Fun K "_law_alike" "_law_alike" sAlike f fd) (T : TxA mg) : FnG P w K mg base CX0 1 f fd ["_law_found", "_law_due"] (spAlike K) := by
  refine fnG F scAlike (fun vs H Q E h => ?_) (fun cdv A outer s H vs Q E hq hr h => ?_)
  · obtain ⟨x, y, d, rfl, _⟩ := h
    rfl
  · obtain ⟨x, y, d, rfl, hx, hy, ⟨ht, hs, hl⟩, k⟩ := h
    refine ⟨_, (pss_one (ps_ret (pe_and (pe_cmpR (op_eqD hr.units) (pv 0) (pv 1) (nomark _)) (pe_one (pe_cmpR op_eq (pe_callB (call_reprD hq hr.units) (by rfl) T.n_repr (by decide +kernel) (pa_cons (pv 0) pa_nil)) (pe_callB (call_reprD hq hr.units) (by rfl) T.n_repr (by decide +kernel) (pa_cons (pv 1) pa_nil)) (nomark _)))))), ?_⟩
    refine ⟨_, rfl, _, rfl, d, d, hx, hy, hs, hs, true, congrArg V.bl (SeqAt.eqv_refl d hl), ?_⟩
    refine iteT ⟨_, rfl, x, d, rfl, hx, ht, _, rfl, y, d, rfl, hy, ht, rfl, ?_⟩
    have e : V.bl (decide (V.str d.shown = V.str d.shown)) = V.bl true := by rw [decide_eq_true rfl]
    show Q (V.bl (decide (V.str d.shown = V.str d.shown))) H
    rw [e]
    exact k
/-! ### kinds -/
structure TxK (mg : Str → Option Value) : Prop where
  n_range : mg "range" = none
  n_sorted : mg "sorted" = none
structure KindS (k : Str) : Prop where
  lo : 1 ≤ k.cps.size
  hi : k.cps.size ≤ 8
  let' : ∀ c ∈ k.cps.toList, 97 ≤ c ∧ c ≤ 122
def spKinds : Sp := fun vs H Q _ => ∃ (b : Addr) (n : Int), vs = [.ref b, .int n] ∧ Bag b H ∧ 1 ≤ n ∧ n ≤ 8 ∧ ∀ (ks : List Str) p H', (ks.length : Int) = n → (∀ k ∈ ks, KindS k) → H p = none → H' p = some (.lst (ks.map V.str)) → Bag b H' → Keep b H H' → Q (.ref p) H'
def menu : List Str := ["a", "aa", "b", "ab", "ba", "z", "zz", "hook", "end", "zzzzzzzz", "true", "mm"]
def abc8 : List Str := ["a", "b", "c", "d", "e", "f", "g", "h"]
def isKindS (k : Str) : Bool := decide (1 ≤ k.cps.size) && decide (k.cps.size ≤ 8) && k.cps.toList.all fun c => decide (97 ≤ c) && decide (c ≤ 122)
theorem kind_by {k : Str} (h : isKindS k = true) : KindS k := by
  unfold isKindS at h
  simp only [Bool.and_eq_true, decide_eq_true_eq, List.all_eq_true] at h
  exact ⟨h.1.1, h.1.2, h.2⟩
theorem kinds_by {l : List Str} (h : l.all isKindS = true) : ∀ k ∈ l, KindS k := fun k hk => kind_by (List.all_eq_true.mp h k hk)
theorem menu_kinds : ∀ k ∈ menu ++ menu, KindS k := kinds_by (by decide +kernel)
theorem abc8_kinds : ∀ k ∈ abc8, KindS k := kinds_by (by decide +kernel)
def cutG {α : Type} (l : List α) (lo hi : Option Int) : List α := (l.drop (HT.sIx l.length 0 lo)).take (HT.sIx l.length l.length hi - HT.sIx l.length 0 lo)
theorem cut_str (l : List Str) (lo hi : Option Int) : cutV (l.map V.str) lo hi = (cutG l lo hi).map V.str := by
  unfold cutV cutG
  rw [List.map_take, List.map_drop, List.length_map]
theorem cutG_mem {α : Type} {l : List α} {lo hi : Option Int} : ∀ x ∈ cutG l lo hi, x ∈ l := fun x hx => List.mem_of_mem_drop (List.mem_of_mem_take hx)
theorem cutG_len {α : Type} {l : List α} {lo hi : Int} (h0 : 0 ≤ lo) (h1 : lo ≤ hi) (h2 : hi ≤ (l.length : Int)) : ((cutG l (some lo) (some hi)).length : Int) = hi - lo ∧ ∀ x ∈ cutG l (some lo) (some hi), x ∈ l := by
  refine ⟨?_, cutG_mem⟩
  obtain ⟨a, rfl⟩ := Int.eq_ofNat_of_zero_le h0
  obtain ⟨c, rfl⟩ := Int.eq_ofNat_of_zero_le (Int.le_trans h0 h1)
  unfold cutG
  rw [HT.sIx_nat, HT.sIx_nat, List.length_take, List.length_drop]
  omega
theorem cutG_len0 {α : Type} {l : List α} {hi : Int} (h0 : 0 ≤ hi) (h2 : hi ≤ (l.length : Int)) : ((cutG l none (some hi)).length : Int) = hi ∧ ∀ x ∈ cutG l none (some hi), x ∈ l := by
  refine ⟨?_, cutG_mem⟩
  obtain ⟨c, rfl⟩ := Int.eq_ofNat_of_zero_le h0
  unfold cutG
  rw [HT.sIx_nat, HT.sIx_none, List.length_take, List.length_drop]
  omega
theorem stem_ok {r : Int} (h0 : 0 ≤ r) (h1 : r < 3) : (cutS (Str.ofString "xq") none (some r)).cps.size ≤ 2 ∧ ∀ c ∈ (cutS (Str.ofString "xq") none (some r)).cps.toList, 97 ≤ c ∧ c ≤ 122 := by
  have e : r = 0 ∨ r = 1 ∨ r = 2 := by omega
  rcases e with rfl | rfl | rfl
  · exact ⟨by decide +kernel, by decide +kernel⟩
  · exact ⟨by decide +kernel, by decide +kernel⟩
  · exact ⟨by decide +kernel, by decide +kernel⟩
theorem letters_all : ("abcdefghijklmnopqrstuvwxyz" : Str).cps.toList.length = 26 ∧ ∀ c ∈ ("abcdefghijklmnopqrstuvwxyz" : Str).cps.toList, 97 ≤ c ∧ c ≤ 122 := ⟨by decide +kernel, by decide +kernel⟩
theorem letter_at {i : Int} (h0 : 0 ≤ i) (h1 : i < 26) : ∃ c, atI ("abcdefghijklmnopqrstuvwxyz" : Str).cps.toList i = some c ∧ 97 ≤ c ∧ c ≤ 122 := by
  have hi : i.toNat < ("abcdefghijklmnopqrstuvwxyz" : Str).cps.toList.length := by rw [letters_all.1]; omega
  have hz := atI_nat (List.getElem?_eq_getElem hi)
  rw [Int.toNat_of_nonneg h0] at hz
  exact ⟨_, hz, letters_all.2 _ (List.getElem_mem hi)⟩
theorem scKinds : FnScope ["_law_bag_here", "_law_many", "_law_way", "_law_turn", "_law_menu", "_law_stem", "_law_k"] ["_law_bag_here", "_law_many"] (defScope sKinds) := ⟨rfl, rfl, rfl, by decide +kernel, rfl, by decide +kernel, by decide +kernel⟩
theorem ok_kinds {f fT : Addr} {fd fdT : FuncData} (F : Fun K "_law_kinds" "_law_kinds" sKinds f fd) (T : TxB mg) (TK : TxK mg) (gT : mg "_law_take" = some (.ref fT)) (FT : Fun K "_law_take" "_law_take" sTake fT fdT) (bT : Binds K fdT ["_law_bag_here", "_law_many"] []) :
    FnOk P w K mg base CX0 2 f fd ["_law_bag_here", "_law_many"] spKinds := by
  have GT : FnOk P w K mg base CX0 1 fT fdT _ spTake := ok_take FT T
  refine F.ok scKinds (fun vs H Q E h => ?_) (fun cdv A outer s H vs Q E hr h => ?_)
  · obtain ⟨b, n, rfl, _⟩ := h
    rfl
  · obtain ⟨b, n, rfl, g, n1, n8, k⟩ := h
    have nd := scKinds.nd
    refine ⟨_, (pss_cons (ps_asg (pe_tup (pa_cons (pe_call GT hr rfl gT FT.kp bT .nil pass0 (pa_cons (pv 0) (pa_cons pe_int pa_nil))) (pa_cons (pe_call GT hr rfl gT FT.kp bT .nil pass0 (pa_cons (pv 0) (pa_cons pe_int pa_nil))) pa_nil))) (pg_tup (by rfl) (pgs_cons (pg_name (i := 2) nd rfl (Or.inl rfl)) (pgs_cons (pg_name (i := 3) nd rfl (Or.inr rfl)) pgs_nil))))
    (C8.pss_cut (ps_set (i := 4) nd rfl (Or.inl rfl) (pe_lst (pa_cons pe_str (pa_cons pe_str (pa_cons pe_str (pa_cons pe_str (pa_cons pe_str (pa_cons pe_str (pa_cons pe_str (pa_cons pe_str (pa_cons pe_str (pa_cons pe_str (pa_cons pe_str (pa_cons pe_str pa_nil))))))))))))))
    (pss_cons (ps_if (pt_cmpR op_eq (pv 2) pe_int (nomark _))
      (pss_one (ps_ret (pe_callB cr_sortedS (by rfl) TK.n_sorted (by decide +kernel) (pa_cons (pe_slice sl_list (pe_op op_cat (pv 4) (pv 4)) (po_some (pv 3)) (po_some (pe_op op_add (pv 3) (pv 1)))) pa_nil))))
       pss_nil)
    (pss_cons (ps_if (pt_cmpR op_eq (pv 2) pe_int (nomark _))
      (pss_one (ps_ret (pe_slice sl_list (pe_lst (pa_cons pe_str (pa_cons pe_str (pa_cons pe_str (pa_cons pe_str (pa_cons pe_str (pa_cons pe_str (pa_cons pe_str (pa_cons pe_str pa_nil))))))))) po_none (po_some (pv 1)))))
       pss_nil)
    (pss_cons (ps_set (i := 5) nd rfl (Or.inr rfl) (pe_slice sl_str pe_str po_none (po_some (pe_call GT hr rfl gT FT.kp bT .nil pass0 (pa_cons (pv 0) (pa_cons pe_int pa_nil))))))
    (pss_one (ps_ret (pe_callB cr_sortedS (by rfl) TK.n_sorted (by decide +kernel) (pa_cons (pe_lc (own := [("_law_k", 6)]) (g := (gName 6)) (tt := tYes) rfl nd (pi_range1 (by rfl) TK.n_range (pa_cons (pv 1) pa_nil)) (blkOk_by (N := ["_law_bag_here", "_law_many", "_law_way", "_law_turn", "_law_menu", "_law_stem", "_law_k"]) (sc := defScope sKinds) (by decide +kernel)) (fun _ _ _ _ _ => (pg_name (i := 6) nd rfl (Or.inl rfl))) (fun _ _ _ _ _ => pts_nil) (fun _ _ _ _ _ => (pe_op op_add_str (pv 5) (pe_ix ix_str pe_str (pe_op op_modN (pe_callTy call_int1 (by rfl) T.n_int (by decide +kernel) (pa_cons (pe_op op_add (pe_op op_mul pe_int (pv 3)) (pe_op op_mul pe_int (pv 6))) pa_nil)) pe_int) (fun _ _ => rfl))))) pa_nil))))))))), ?_⟩
    refine ⟨_, rfl, b, 4, rfl, g, by decide, by decide, fun way H1 w0 w1 g1 k1 => ?_⟩
    refine ⟨_, rfl, b, 12, rfl, g1, by decide, by decide, fun turn H2 t0 t1 g2 k2 => ?_⟩
    refine ⟨by show 2 ≤ sizeLine; decide, fun t nt => ⟨t, _, rfl, SqT.of upd_same, rfl, _, _, rfl, _, _, rfl, rfl, ?_⟩⟩
    refine ⟨fun σ H3 => ∃ me, H3 me = some (.lst (menu.map V.str)) ∧ Bag b H3 ∧ Keep b H H3 ∧ σ = [some (.ref b), some (.int n), some (.int way), some (.int turn), some (.ref me), none, none], ?_, ?_⟩
    · refine ⟨by show 12 ≤ sizeLine; decide, fun me nme => ⟨me, upd_same, ?_, ?_, rfl⟩⟩
      · exact g2.same (Same.newer (Same.new nt) ((Same.new nt).free nme))
      · exact (k1.trans k2).trans (Keep.of (Same.newer (Same.new nt) ((Same.new nt).free nme)))
    rintro σ H3 ⟨me, hme, g3, k3, rfl⟩
    have room : (24 : Nat) ≤ sizeLine := by decide
    refine ⟨_, rfl, rfl, _, rfl, ?_⟩
    refine ite2 (fun _ => ?_) (fun _ => ?_)
    · refine ⟨_, rfl, _, rfl, me, me, _, _, rfl, rfl, hme, hme, (by show 12 + 12 ≤ sizeLine; decide), fun p np => ?_⟩
      refine ⟨_, rfl, turn, rfl, _, rfl, _, rfl, _, _, rfl, rfl, _, rfl, p, _, rfl, SqL.of upd_same, fun q nq => ?_⟩
      rw [← List.map_append, cut_str]
      obtain ⟨cl, cm⟩ := cutG_len (l := menu ++ menu) (lo := turn) (hi := turn + n) t0 (by omega) (by show turn + n ≤ (24 : Int); omega)
      refine ⟨q, _, rfl, SqL.of upd_same, (by omega), fun ys z perm srt nz => ?_⟩
      have s1 : Same H3 (upd (upd H3 p (HO.lst (List.map V.str (menu ++ menu)))) q (HO.lst (List.map V.str (cutG (menu ++ menu) (some turn) (some (turn + n)))))) := Same.newer (Same.new np) ((Same.new np).free nq)
      have s2 := Same.newer (o := HO.lst (ys.map V.str)) s1 (s1.free nz)
      exact k ys z _ (by have e := perm.length_eq; omega) (fun y hy => menu_kinds y (cm y (perm.mem_iff.mp hy))) (k3.free (g3.ne (s1.free nz)) (s1.free nz)) upd_same (g3.same s2) (k3.trans (Keep.of s2))
    · refine ⟨_, rfl, rfl, _, rfl, ?_⟩
      refine ite2 (fun _ => ?_) (fun _ => ?_)
      · refine ⟨by show 8 ≤ sizeLine; decide, fun p np => ?_⟩
        refine ⟨_, rfl, n, rfl, p, abc8.map V.str, rfl, SqL.of upd_same, fun q nq => ?_⟩
        rw [cut_str]
        obtain ⟨cl, cm⟩ := cutG_len0 (l := abc8) (hi := n) (by omega) (by show n ≤ (8 : Int); omega)
        have s1 : Same H3 (upd (upd H3 p (HO.lst (List.map V.str abc8))) q (HO.lst (List.map V.str (cutG abc8 none (some n))))) := Same.newer (Same.new np) ((Same.new np).free nq)
        have fq := (Same.new np).free nq
        exact k _ q _ cl (fun y hy => abc8_kinds y (cm y hy)) (k3.free (g3.ne fq) fq) upd_same (g3.same s1) (k3.trans (Keep.of s1))
      · refine ⟨_, rfl, b, 3, rfl, g3, by decide, by decide, fun r H4 r0 r1 g4 k4 => ⟨r, rfl, _, rfl, by decide, ?_⟩⟩
        have k5 := k3.trans k4
        obtain ⟨z1, z2⟩ := stem_ok r0 r1
        generalize cutS (Str.ofString "xq") none (some r) = stem at z1 z2 ⊢
        refine ⟨_, rfl, n, rfl, (by omega), (by omega), fun D nD => ?_⟩
        refine lc_range (lo := 0) (n := n.toNat) (fun i H' => Same H4 H' ∧ ∃ acc : List Str, acc.length = i ∧ (∀ y ∈ acc, KindS y) ∧ H' D = some (.lst (acc.map V.str))) ⟨Same.new nD, [], rfl, fun _ h => (List.not_mem_nil h).elim, upd_same⟩ ?_ ?_
        · rintro i H' hi ⟨sm, acc, la, ka, hD⟩
          refine ⟨rfl, yes_ok ?_⟩
          obtain ⟨c, hc, c1, c2⟩ := letter_at (fm (x := 2 * turn + 3 * (0 + (i : Int))) (m := 26) (by decide)).1 (fm (by decide)).2
          refine ⟨_, rfl, _, rfl, _, _, rfl, rfl, .inl ⟨by decide, by decide⟩, _, rfl, _, _, rfl, rfl, .inl ⟨by decide, by decide⟩, _, _, rfl, rfl, .inl ⟨_, rfl, _, _, rfl, rfl, nz (by decide), ?_⟩⟩
          refine ⟨_, _, c, rfl, rfl, (by show 26 ≤ sizeLine; decide), hc, _, _, rfl, rfl, ?_, acc.map V.str, hD, small1000 (by rw [List.length_map]; omega), ?_⟩
          · show stem.cps.size + 1 ≤ sizeLine
            have : (3 : Nat) ≤ sizeLine := by decide
            omega
          · refine ⟨Same.newer sm nD, acc ++ [stem ++ ⟨#[c]⟩], by rw [List.length_append, la]; rfl, fun y hy => ?_, by rw [upd_same, List.map_append]; rfl⟩
            rcases List.mem_append.mp hy with hy | hy
            · exact ka y hy
            · rw [List.mem_singleton.mp hy]
              have e : (stem ++ (⟨#[c]⟩ : Str)).cps = stem.cps ++ #[c] := rfl
              refine ⟨?_, ?_, fun d hd => ?_⟩
              · rw [e, Array.size_append]; show 1 ≤ _ + 1; omega
              · rw [e, Array.size_append]; show _ + 1 ≤ 8; omega
              · rw [e, Array.toList_append] at hd
                rcases List.mem_append.mp hd with hd | hd
                · exact z2 d hd
                · rw [List.mem_singleton.mp hd]
                  exact ⟨c1, c2⟩
        · rintro H' ⟨sm, acc, la, ka, hD⟩
          refine ⟨D, acc, rfl, SqL.of hD, by omega, fun ys z perm srt nz => ?_⟩
          have s2 := Same.newer (o := HO.lst (ys.map V.str)) sm (sm.free nz)
          have fz := sm.free nz
          exact k ys z _ (by have e := perm.length_eq; omega) (fun y hy => ka y (perm.mem_iff.mp hy)) (k5.free (g4.ne fz) fz) upd_same (g4.same s2) (k5.trans (Keep.of s2))
end
end K14

namespace HK
open PySem PySem.Spec PyProof.Rows L2
/-- a comprehension over the signs of a text -/
theorem lc_text {x : Str} {g : TG} {tt : TT} {te : TE} {vs : List Nat} {σ : L2.St} {H1 : Hp} {D : Addr} {Qd : Hp → Prop} (Pv : Nat → Hp → Prop) (h0 : Pv 0 (upd H1 D (.lst [])))
    (hs : ∀ i c H, x.cps[i]? = some c → Pv i H → g (.str ⟨#[c]⟩) (wipe σ vs) H fun σ2 H2 => wipe σ2 vs = wipe σ vs ∧ tt σ2 H2 fun b H3 =>
      if b = true then te σ2 H3 fun y H4 => ∃ acc, H4 D = some (.lst acc) ∧ acc.length < sizeLine ∧ Pv (i + 1) (upd H4 D (.lst (acc ++ [y]))) else Pv (i + 1) H3) (hd : ∀ H, Pv x.cps.size H → Qd H) :
    ∃ W : Nat → Nat → Hp → Prop, (∃ m, W 0 m (upd H1 D (.lst []))) ∧ ∀ i m H, W i m H →
      ((Its x).stop i H ∧ Qd H) ∨ ((Its x).go i H ∧ ∃ Nx : Hp → Prop, (∀ H', Nx H' → ∃ m', m' < m ∧ W (i + 1) m' H') ∧ ∀ v H', (Its x).yld i H v H' → g v (wipe σ vs) H' fun σ2 H2 => wipe σ2 vs = wipe σ vs ∧ tt σ2 H2 fun b H3 =>
        if b = true then te σ2 H3 fun y H4 => ∃ acc, H4 D = some (.lst acc) ∧ acc.length < sizeLine ∧ Nx (upd H4 D (.lst (acc ++ [y]))) else Nx H3) := by
  refine ⟨fun i m H => m = x.cps.size - i ∧ i ≤ x.cps.size ∧ Pv i H, ⟨x.cps.size, by simp, Nat.zero_le _, h0⟩, ?_⟩
  rintro i m H ⟨rfl, hi, p⟩
  by_cases lt : i < x.cps.size
  · refine .inr ⟨lt, Pv (i + 1), fun H' p' => ⟨x.cps.size - (i + 1), by omega, rfl, lt, p'⟩, ?_⟩
    rintro v H' ⟨rfl, c, hc, rfl⟩
    exact hs i c _ hc p
  · have e : i = x.cps.size := by omega
    subst e
    exact .inl ⟨Nat.le_refl _, hd _ p⟩
/-! ### isinstance -/
def tyN : PyData → String
  | .none => "NoneType" | .bool _ => "bool" | .int _ => "int" | .str _ => "str" | .list _ => "list" | .tuple _ => "tuple" | .dict _ => "dict"
theorem DX.ty {K : PySem.W.Frag} {b : Addr} {H : Hp} {v : V} {d : PyData} (h : DX b H v d) : TyX K H v (.type (tyN d)) := by
  cases h with
  | non => exact .base .non
  | bl x => exact .base (.bl x)
  | int i => exact .base (.int i)
  | str x => exact .base (.str x)
  | lst n e r => exact .base (.lst e)
  | tup n e r => exact .base (.tup e)
  | dct n e => exact .base (.dK e)
theorem isi {K : PySem.W.Frag} {b : Addr} {H : Hp} {v : V} {d : PyData} {T : String} {r : Bool} {Q : VK} (h : DX b H v d) (e : kitB (tyN d) T = some r) (q : Q (.bl r) H) : rIsi K [v, .ty T] H Q := ⟨v, .ty T, _, _, r, rfl, .ty T, h.ty, kit_ty e, q⟩
def isStr : PyData → Bool | .str _ => true | _ => false
def isInt : PyData → Bool | .int _ => true | .bool _ => true | _ => false
def isBool : PyData → Bool | .bool _ => true | _ => false
def isTup : PyData → Bool | .tuple _ => true | _ => false
def isLst : PyData → Bool | .list _ => true | _ => false
theorem kit_str : ∀ d : PyData, kitB (tyN d) "str" = some (isStr d)
  | .none => (show kitB "NoneType" "str" = some false by decide +kernel)
  | .bool _ => (show kitB "bool" "str" = some false by decide +kernel)
  | .int _ => (show kitB "int" "str" = some false by decide +kernel)
  | .str _ => (show kitB "str" "str" = some true by decide +kernel)
  | .list _ => (show kitB "list" "str" = some false by decide +kernel)
  | .tuple _ => (show kitB "tuple" "str" = some false by decide +kernel)
  | .dict _ => (show kitB "dict" "str" = some false by decide +kernel)
theorem kit_int : ∀ d : PyData, kitB (tyN d) "int" = some (isInt d)
  | .none => (show kitB "NoneType" "int" = some false by decide +kernel)
  | .bool _ => (show kitB "bool" "int" = some true by decide +kernel)
  | .int _ => (show kitB "int" "int" = some true by decide +kernel)
  | .str _ => (show kitB "str" "int" = some false by decide +kernel)
  | .list _ => (show kitB "list" "int" = some false by decide +kernel)
  | .tuple _ => (show kitB "tuple" "int" = some false by decide +kernel)
  | .dict _ => (show kitB "dict" "int" = some false by decide +kernel)
theorem kit_bool : ∀ d : PyData, kitB (tyN d) "bool" = some (isBool d)
  | .none => (show kitB "NoneType" "bool" = some false by decide +kernel)
  | .bool _ => (show kitB "bool" "bool" = some true by decide +kernel)
  | .int _ => (show kitB "int" "bool" = some false by decide +kernel)
  | .str _ => (show kitB "str" "bool" = some false by decide +kernel)
  | .list _ => (show kitB "list" "bool" = some false by decide +kernel)
  | .tuple _ => (show kitB "tuple" "bool" = some false by decide +kernel)
  | .dict _ => (show kitB "dict" "bool" = some false by decide +kernel)
theorem kit_tup : ∀ d : PyData, kitB (tyN d) "tuple" = some (isTup d)
  | .none => (show kitB "NoneType" "tuple" = some false by decide +kernel)
  | .bool _ => (show kitB "bool" "tuple" = some false by decide +kernel)
  | .int _ => (show kitB "int" "tuple" = some false by decide +kernel)
  | .str _ => (show kitB "str" "tuple" = some false by decide +kernel)
  | .list _ => (show kitB "list" "tuple" = some false by decide +kernel)
  | .tuple _ => (show kitB "tuple" "tuple" = some true by decide +kernel)
  | .dict _ => (show kitB "dict" "tuple" = some false by decide +kernel)
theorem kit_lst : ∀ d : PyData, kitB (tyN d) "list" = some (isLst d)
  | .none => (show kitB "NoneType" "list" = some false by decide +kernel)
  | .bool _ => (show kitB "bool" "list" = some false by decide +kernel)
  | .int _ => (show kitB "int" "list" = some false by decide +kernel)
  | .str _ => (show kitB "str" "list" = some false by decide +kernel)
  | .list _ => (show kitB "list" "list" = some true by decide +kernel)
  | .tuple _ => (show kitB "tuple" "list" = some false by decide +kernel)
  | .dict _ => (show kitB "dict" "list" = some false by decide +kernel)
/-! ### order of texts -/
theorem op_leS {X : Cx} : OpR X (compareOp .LtE) (fun x y H Q => ∃ i j, x = .str i ∧ y = .str j ∧ Q (.bl (!decide (j.cps.toList < i.cps.toList))) H) := by
  intro pins s σ H x y v u Q I rx ry h
  obtain ⟨i, j, rfl, rfl, q⟩ := h
  obtain ⟨t, rfl⟩ := rx
  obtain ⟨t', rfl⟩ := ry
  exact compareOp_gives (op := .LtE) (typeIs_str s i t) (typeIs_str s j t') F.slot_str_le F.entry_str_le (F.args_str_le_2 _ _) (gives_str_le i j t t') (fun e => nomatch e) ⟨.bl _, H, I, rfl, q⟩
end HK
namespace K14
open PySem PySem.Spec PyProof.Rows L2 HK
abbrev sInt : Stmt := top 2
abbrev sNum : Stmt := top 3
abbrev sKind : Stmt := top 4
abbrev sCart : Stmt := top 5
abbrev sTwo : Stmt := top 6
abbrev sStep : Stmt := top 7
abbrev sLNum : Stmt := top 25
abbrev sStepOn : Stmt := top 28
abbrev sLInt : Stmt := top 32
abbrev sLKind : Stmt := top 33
abbrev sLCart : Stmt := top 34
abbrev sLStep : Stmt := top 35
abbrev sOdd : Stmt := top 39
abbrev sBent : Stmt := top 40
abbrev sBegin : Stmt := top 9
abbrev sEnd : Stmt := top 10
abbrev sCouple : Stmt := top 11
abbrev sRow : Stmt := top 13
abbrev sTrain : Stmt := top 15
abbrev sPart : Stmt := top 16
abbrev sPC : Stmt := top 17
abbrev sMixed : Stmt := top 23
abbrev sLBegin : Stmt := top 26
abbrev sLEnd : Stmt := top 27
abbrev sRowFrom : Stmt := top 29
abbrev sRound : Stmt := top 30
abbrev sLTrain : Stmt := top 31
abbrev sLRow : Stmt := top 36
abbrev sLPart : Stmt := top 37
abbrev sLTr : Stmt := top 38
abbrev sLaw : Stmt := top 41
/-! ### what is what -/
def abc : Str := "abcdefghijklmnopqrstuvwxyz"
def mInt : PyData → Bool | .int _ => true | _ => false
def mNum (l : Int) : PyData → Bool | .int i => decide (l ≤ i) | _ => false
def lets (s : Str) : Bool := s.cps.toList.all fun c => decide (c ∈ abc.cps.toList)
def mKind : PyData → Bool | .str s => decide (1 ≤ s.cps.size) && decide (s.cps.size ≤ 8) && lets s | _ => false
structure TxJ (mg : Str → Option Value) : Prop where
  n_isi : mg "isinstance" = none
  n_ty : ∀ x ∈ (["int", "bool", "str", "tuple", "list", "len", "all"] : List Str), mg x = none
  gL : ∃ t, mg "_LETTERS" = some (.str abc t)
section
variable {P : Program} {w : World} {K : PySem.W.Frag} {mg : Str → Option Value} {base : Heap}
/-- a judgement of any data -/
def spJ (m : PyData → Bool) : Sp := fun vs H Q _ => ∃ (b : Addr) (x : V) (d : PyData) (n : Nat), vs = [x] ∧ DX b H x d ∧ SX d n 50 ∧ n ≤ 300000 ∧ ∀ H', Same H H' → Q (.bl (m d)) H'
theorem scInt : FnScope ["thing"] ["thing"] (defScope sInt) := ⟨rfl, rfl, rfl, by decide +kernel, rfl, by decide +kernel, by decide +kernel⟩
theorem ok_int {f : Addr} {fd : FuncData} (F : Fun K "is_integer" "is_integer" sInt f fd) (T : TxJ mg) : FnOk P w K mg base CX0 1 f fd ["thing"] (spJ mInt) := by
  refine F.ok scInt (fun vs H Q E h => ?_) (fun cdv A outer s H vs Q E hr h => ?_)
  · obtain ⟨b, x, d, n, rfl, _⟩ := h
    rfl
  · obtain ⟨b, x, d, n, rfl, hx, hs, hn, k⟩ := h
    refine ⟨_, (pss_one (ps_ret (pe_and (pe_callB call_isi (by rfl) T.n_isi (by decide +kernel) (pa_cons (pv 0) (pa_cons (pe_bltn (v := .ty "int") (by rfl) (T.n_ty "int" (by simp)) (by decide +kernel) rfl) pa_nil))) (pe_one (pe_not (pe_callB call_isi (by rfl) T.n_isi (by decide +kernel) (pa_cons (pv 0) (pa_cons (pe_bltn (v := .ty "bool") (by rfl) (T.n_ty "bool" (by simp)) (by decide +kernel) rfl) pa_nil)))))))), ?_⟩
    refine ⟨_, rfl, x, .ty "int", _, _, _, rfl, .ty _, hx.ty, kit_ty (kit_int d), isInt d, rfl, ?_⟩
    cases h1 : isInt d with
    | false =>
      have e : mInt d = false := by cases d <;> first | rfl | cases h1
      rw [e] at k
      exact iteF (k H (Same.refl H))
    | true =>
      refine iteT ⟨_, rfl, x, .ty "bool", _, _, _, rfl, .ty _, hx.ty, kit_ty (kit_bool d), _, rfl, ?_⟩
      have e : mInt d = !isBool d := by cases d <;> first | rfl | cases h1
      rw [e] at k
      exact k H (Same.refl H)
end
end K14

namespace HK
open PySem PySem.Spec PyProof.Rows L2
theorem DX.tupI {b : Addr} {H : Hp} {v : V} {ds : List PyData} (h : DX b H v (.tuple ds)) : ∃ a xs, v = .ref a ∧ a ≠ b ∧ H a = some (.tup xs) ∧ DXs b H xs ds := by
  cases h with
  | tup n e r => exact ⟨_, _, rfl, n, e, r⟩
theorem DX.lstI {b : Addr} {H : Hp} {v : V} {ds : List PyData} (h : DX b H v (.list ds)) : ∃ a xs, v = .ref a ∧ a ≠ b ∧ H a = some (.lst xs) ∧ DXs b H xs ds := by
  cases h with
  | lst n e r => exact ⟨_, _, rfl, n, e, r⟩
theorem DX.strI {b : Addr} {H : Hp} {v : V} {x : Str} (h : DX b H v (.str x)) : v = .str x := by cases h; rfl
theorem DX.intI {b : Addr} {H : Hp} {v : V} {x : Int} (h : DX b H v (.int x)) : v = .int x := by cases h; rfl
theorem DX.blI {b : Addr} {H : Hp} {v : V} {x : Bool} (h : DX b H v (.bool x)) : v = .bl x := by cases h; rfl
theorem DXs.two {b : Addr} {H : Hp} {xs : List V} {d e : PyData} (h : DXs b H xs [d, e]) : ∃ x y, xs = [x, y] ∧ DX b H x d ∧ DX b H y e := by
  cases h with
  | cons h1 r =>
    cases r with
    | cons h2 r =>
      cases r
      exact ⟨_, _, rfl, h1, h2⟩
theorem DXs.three {b : Addr} {H : Hp} {xs : List V} {d e f : PyData} (h : DXs b H xs [d, e, f]) : ∃ x y z, xs = [x, y, z] ∧ DX b H x d ∧ DX b H y e ∧ DX b H z f := by
  cases h with
  | cons h1 r =>
    obtain ⟨_, _, rfl, h2, h3⟩ := r.two
    exact ⟨_, _, _, rfl, h1, h2, h3⟩
end HK
namespace K14
open PySem PySem.Spec PyProof.Rows L2 HK
def truth : PyData → Bool | .bool b => b | _ => false
def leS : PyData → PyData → Bool | .str a, .str b => !decide (b.cps.toList < a.cps.toList) | _, _ => false
def neS : PyData → PyData → Bool | .str a, .str b => !decide (a = b) | _, _ => false
def mCart : PyData → Bool
  | .tuple [f, k, t] => mKind f && (mKind k && (isBool t && (!truth t || leS f k)))
  | _ => false
def twoD : PyData → Bool
  | .tuple [f, k, t] => truth t && neS f k
  | _ => false
def mStep : PyData → Bool
  | .tuple [c, u] => mCart c && (isBool u && (!truth u || twoD c))
  | _ => false
theorem mCart_len : ∀ {ds : List PyData}, ds.length ≠ 3 → mCart (.tuple ds) = false
  | [], _ => rfl
  | [_], _ => rfl
  | [_, _], _ => rfl
  | [_, _, _], h => absurd rfl h
  | _ :: _ :: _ :: _ :: _, _ => rfl
theorem mStep_len : ∀ {ds : List PyData}, ds.length ≠ 2 → mStep (.tuple ds) = false
  | [], _ => rfl
  | [_], _ => rfl
  | [_, _], h => absurd rfl h
  | _ :: _ :: _ :: _, _ => rfl
theorem mCart_tup {d : PyData} (h : isTup d = false) : mCart d = false := by cases d <;> first | rfl | cases h
theorem mStep_tup {d : PyData} (h : isTup d = false) : mStep d = false := by cases d <;> first | rfl | cases h
theorem mKind_str {d : PyData} (h : isStr d = false) : mKind d = false := by cases d <;> first | rfl | cases h
theorem three_of {ds : List PyData} (h : ds.length = 3) : ∃ f k t, ds = [f, k, t] := by
  match ds, h with
  | [f, k, t], _ => exact ⟨f, k, t, rfl⟩
theorem two_of {ds : List PyData} (h : ds.length = 2) : ∃ c u, ds = [c, u] := by
  match ds, h with
  | [c, u], _ => exact ⟨c, u, rfl⟩
theorem SX.in3 {f k t : PyData} {n : Nat} (h : SX (.tuple [f, k, t]) n 50) : SX f n 50 ∧ SX k n 50 ∧ SX t n 50 := by
  obtain ⟨h1, h2⟩ := SX.items (.inr h)
  exact ⟨(h2.get (by simp)).mono (by omega) (by omega), (h2.get (by simp)).mono (by omega) (by omega), (h2.get (by simp)).mono (by omega) (by omega)⟩
theorem SX.in2 {c u : PyData} {n : Nat} (h : SX (.tuple [c, u]) n 50) : SX c n 50 ∧ SX u n 50 := by
  obtain ⟨h1, h2⟩ := SX.items (.inr h)
  exact ⟨(h2.get (by simp)).mono (by omega) (by omega), (h2.get (by simp)).mono (by omega) (by omega)⟩
section
variable {P : Program} {w : World} {K : PySem.W.Frag} {mg : Str → Option Value} {base : Heap}
/-- the n first judgements' room -/
def spNum : Sp := fun vs H Q _ => ∃ (b : Addr) (l : Int) (x : V) (d : PyData) (n : Nat), vs = [.int l, x] ∧ DX b H x d ∧ SX d n 50 ∧ n ≤ 300000 ∧ ∀ H', Same H H' → Q (.bl (mNum l d)) H'
theorem scNum : FnScope ["least", "thing"] ["least", "thing"] (defScope sNum) := ⟨rfl, rfl, rfl, by decide +kernel, rfl, by decide +kernel, by decide +kernel⟩
theorem ok_num {f fI : Addr} {fd fdI : FuncData} (F : Fun K "is_number" "is_number" sNum f fd) (T : TxJ mg) (gI : mg "is_integer" = some (.ref fI)) (FI : Fun K "is_integer" "is_integer" sInt fI fdI) (bI : Binds K fdI ["thing"] []) : FnOk P w K mg base CX0 2 f fd ["least", "thing"] spNum := by
  have GI : FnOk P w K mg base CX0 1 fI fdI _ (spJ mInt) := ok_int FI T
  refine F.ok scNum (fun vs H Q E h => ?_) (fun cdv A outer s H vs Q E hr h => ?_)
  · obtain ⟨b, l, x, d, n, rfl, _⟩ := h
    rfl
  · obtain ⟨b, l, x, d, n, rfl, hx, hs, hn, k⟩ := h
    refine ⟨_, (pss_one (ps_ret (pe_and (pe_call GI hr rfl gI FI.kp bI .nil pass0 (pa_cons (pv 1) pa_nil)) (pe_one (pe_cmpR op_ge (pv 1) (pv 0) (nomark _)))))), ?_⟩
    refine ⟨_, rfl, b, x, d, n, rfl, hx, hs, hn, fun H' sm => ⟨mInt d, rfl, ?_⟩⟩
    cases h1 : mInt d with
    | false =>
      have e : mNum l d = false := by cases d <;> first | rfl | cases h1
      rw [e] at k
      exact iteF (k H' sm)
    | true =>
      obtain ⟨i, rfl⟩ : ∃ i, d = .int i := by cases d <;> first | exact ⟨_, rfl⟩ | cases h1
      cases hx
      exact iteT ⟨_, rfl, _, rfl, _, _, rfl, rfl, k H' sm⟩
/-! is_kind -/
theorem lets_app {p : List Nat} {c : Nat} : (p ++ [c]).all (fun c => decide (c ∈ abc.cps.toList)) = (p.all (fun c => decide (c ∈ abc.cps.toList)) && decide (c ∈ abc.cps.toList)) := by
  rw [List.all_append]
  simp
theorem take_more {α : Type} {l : List α} {i : Nat} {x : α} (h : l[i]? = some x) : l.take (i + 1) = l.take i ++ [x] := by
  rw [List.take_add_one, h]
  rfl
theorem scKindP : FnScope ["thing", "letter"] ["thing"] (defScope sKind) := ⟨rfl, rfl, rfl, by decide +kernel, rfl, by decide +kernel, by decide +kernel⟩
theorem ok_kind {f : Addr} {fd : FuncData} (F : Fun K "is_kind" "is_kind" sKind f fd) (T : TxJ mg) : FnOk P w K mg base CX0 1 f fd ["thing"] (spJ mKind) := by
  refine F.ok scKindP (fun vs H Q E h => ?_) (fun cdv A outer s H vs Q E hr h => ?_)
  · obtain ⟨b, x, d, n, rfl, _⟩ := h
    rfl
  · obtain ⟨b, x, d, n, rfl, hx, hs, hn, k⟩ := h
    have nd := scKindP.nd
    obtain ⟨tk, gL⟩ := T.gL
    refine ⟨_, (pss_cons (ps_if (PW.pt (pw_or (pt_not (pt_val (pe_callB call_isi (by rfl) T.n_isi (by decide +kernel) (pa_cons (pv 0) (pa_cons (pe_bltn (v := .ty "str") (by rfl) (T.n_ty "str" (by simp)) (by decide +kernel) rfl) pa_nil)))))
        (pw_or1 (pt_not (pt_chain op_le op_le pe_int (pe_callB call_len_str (by rfl) (T.n_ty "len" (by simp)) (by decide +kernel) (pa_cons (pv 0) pa_nil)) pe_int)))))
      (pss_one (ps_ret pe_bl))
       pss_nil)
    (pss_one (ps_ret (pe_callB (cr_all rfl) (by rfl) (T.n_ty "all" (by simp)) (by decide +kernel) (pa_cons (pe_lc (own := [("letter", 1)]) (g := (gName 1)) (tt := tYes) rfl nd (pi_str (pv 0)) (blkOk_by (N := ["thing", "letter"]) (sc := defScope sKind) (by decide +kernel)) (fun _ _ _ _ _ => (pg_name (i := 1) nd rfl (Or.inl rfl))) (fun _ _ _ _ _ => pts_nil) (fun _ _ _ _ _ => (pe_cmpR op_in_sign (pv 1) (pe_glob (v := .str abc) rfl gL ⟨_, rfl⟩) (by rfl)))) pa_nil))))), ?_⟩
    refine ⟨_, rfl, x, .ty "str", _, _, _, rfl, .ty _, hx.ty, kit_ty (kit_str d), isStr d, rfl, ?_⟩
    cases h1 : isStr d with
    | false =>
      rw [mKind_str h1] at k
      exact iteT (iteT (k H (Same.refl H)))
    | true =>
      obtain ⟨x0, rfl⟩ : ∃ x0, d = .str x0 := by cases d <;> first | exact ⟨_, rfl⟩ | cases h1
      cases hx
      have room : x0.cps.size ≤ 300000 := by
        have := hs.w
        simp only [PyData.weight] at this
        omega
      have line : (300000 : Nat) ≤ sizeLine := by decide
      refine iteF ⟨_, rfl, _, rfl, Nat.le_trans room line, _, _, rfl, rfl, _, rfl, ?_⟩
      have eK : mKind (.str x0) = (decide (1 ≤ x0.cps.size) && decide (x0.cps.size ≤ 8) && lets x0) := rfl
      have lz : (x0.length : Int) = (x0.cps.size : Int) := rfl
      refine ite2 (fun z1 => ?_) (fun z1 => ?_)
      · have z1' := of_decide_eq_true z1
        refine ⟨_, _, rfl, rfl, _, rfl, ?_⟩
        refine ite2 (fun z2 => ?_) (fun z2 => ?_)
        · rw [Bool.not_eq_true', decide_eq_false_iff_not] at z2
          rw [eK, decide_eq_false (show ¬ x0.cps.size ≤ 8 by omega), Bool.and_false, Bool.false_and] at k
          exact k H (Same.refl H)
        · rw [Bool.not_eq_true, Bool.not_eq_false', decide_eq_true_iff] at z2
          rw [eK, decide_eq_true (show 1 ≤ x0.cps.size by omega), decide_eq_true (show x0.cps.size ≤ 8 by omega), Bool.true_and, Bool.true_and] at k
          refine ⟨_, rfl, x0, rfl, fun D nD => ?_⟩
          refine lc_text (x := x0) (fun i H' => Same H H' ∧ ∃ acc : List Bool, acc.length = i ∧ acc.all id = (x0.cps.toList.take i).all (fun c => decide (c ∈ abc.cps.toList)) ∧ H' D = some (.lst (acc.map V.bl)))
            ⟨Same.new nD, [], rfl, rfl, upd_same⟩ ?_ ?_
          · rintro i c H' hc ⟨sm, acc, la, ea, hD⟩
            have li : i < x0.cps.size := (Array.getElem?_eq_some_iff.mp hc).1
            refine ⟨rfl, yes_ok ?_⟩
            refine ⟨_, rfl, c, abc, rfl, rfl, acc.map V.bl, hD, small1000 (by rw [List.length_map]; omega), Same.newer sm nD, acc ++ [decide (c ∈ abc.cps.toList)], by rw [List.length_append, la]; rfl, ?_, by rw [upd_same, List.map_append]; rfl⟩
            rw [take_more (x := c) (by rw [Array.getElem?_toList]; exact hc), lets_app, List.all_append, ea]
            simp
          · rintro H' ⟨sm, acc, la, ea, hD⟩
            have et : x0.cps.toList.take x0.cps.size = x0.cps.toList := List.take_of_length_le (by simp)
            rw [et] at ea
            have e : lets x0 = acc.all id := ea.symm
            rw [e] at k
            exact ⟨D, acc, rfl, SqL.of hD, k H' sm⟩
      · rw [decide_eq_true_iff] at z1
        rw [eK, decide_eq_false (show ¬ 1 ≤ x0.cps.size by omega), Bool.false_and, Bool.false_and] at k
        exact ⟨_, rfl, iteT (k H (Same.refl H))⟩
end
end K14

namespace K14
open PySem PySem.Spec PyProof.Rows L2 HK
theorem mKind_is {d : PyData} (h : mKind d = true) : ∃ s, d = .str s := by cases d <;> first | exact ⟨_, rfl⟩ | cases h
theorem isBool_is {d : PyData} (h : isBool d = true) : ∃ s, d = .bool s := by cases d <;> first | exact ⟨_, rfl⟩ | cases h
section
variable {P : Program} {w : World} {K : PySem.W.Frag} {mg : Str → Option Value} {base : Heap}
theorem scCartP : FnScope ["thing", "front", "back", "turns"] ["thing"] (defScope sCart) := ⟨rfl, rfl, rfl, by decide +kernel, rfl, by decide +kernel, by decide +kernel⟩
theorem ok_cart {f fK : Addr} {fd fdK : FuncData} (F : Fun K "is_cart" "is_cart" sCart f fd) (T : TxJ mg) (gK : mg "is_kind" = some (.ref fK)) (FK : Fun K "is_kind" "is_kind" sKind fK fdK) (bK : Binds K fdK ["thing"] []) : FnOk P w K mg base CX0 2 f fd ["thing"] (spJ mCart) := by
  have GK : FnOk P w K mg base CX0 1 fK fdK _ (spJ mKind) := ok_kind FK T
  refine F.ok scCartP (fun vs H Q E h => ?_) (fun cdv A outer s H vs Q E hr h => ?_)
  · obtain ⟨b, x, d, n, rfl, _⟩ := h
    rfl
  · obtain ⟨b, x, d, n, rfl, hx, hs, hn, k⟩ := h
    have nd := scCartP.nd
    refine ⟨_, (pss_cons (ps_if (PW.pt (pw_or (pt_not (pt_val (pe_callB call_isi (by rfl) T.n_isi (by decide +kernel) (pa_cons (pv 0) (pa_cons (pe_bltn (v := .ty "tuple") (by rfl) (T.n_ty "tuple" (by simp)) (by decide +kernel) rfl) pa_nil))))) (pw_or1 (pt_cmpR op_ne (pe_callB call_len_seq (by rfl) (T.n_ty "len" (by simp)) (by decide +kernel) (pa_cons (pv 0) pa_nil)) pe_int (nomark _)))))
      (pss_one (ps_ret pe_bl))
       pss_nil)
    (pss_cons (ps_asg (pv 0) (pg_tup (by rfl) (pgs_cons (pg_name (i := 1) nd rfl (Or.inl rfl)) (pgs_cons (pg_name (i := 2) nd rfl (Or.inl rfl)) (pgs_cons (pg_name (i := 3) nd rfl (Or.inl rfl)) pgs_nil)))))
    (pss_cons (ps_if (PW.pt (pw_or (pt_not (pt_val (pe_call GK hr rfl gK FK.kp bK .nil pass0 (pa_cons (pv 1) pa_nil)))) (pw_or (pt_not (pt_val (pe_call GK hr rfl gK FK.kp bK .nil pass0 (pa_cons (pv 2) pa_nil)))) (pw_or1 (pt_not (pt_val (pe_callB call_isi (by rfl) T.n_isi (by decide +kernel) (pa_cons (pv 3) (pa_cons (pe_bltn (v := .ty "bool") (by rfl) (T.n_ty "bool" (by simp)) (by decide +kernel) rfl) pa_nil)))))))))
      (pss_one (ps_ret pe_bl))
       pss_nil)
    (pss_one (ps_ret (pe_or (pe_not (pv 3)) (pe_one (pe_cmpR op_leS (pv 1) (pv 2) (nomark _))))))))), ?_⟩
    refine ⟨_, rfl, x, .ty "tuple", _, _, _, rfl, .ty _, hx.ty, kit_ty (kit_tup d), isTup d, rfl, ?_⟩
    cases h1 : isTup d with
    | false =>
      rw [mCart_tup h1] at k
      exact iteT (iteT (k H (Same.refl H)))
    | true =>
      obtain ⟨ds, rfl⟩ : ∃ ds, d = .tuple ds := by cases d <;> first | exact ⟨_, rfl⟩ | cases h1
      obtain ⟨a, xs, rfl, na, ha, hxs⟩ := hx.tupI
      refine iteF ⟨_, rfl, a, xs, rfl, .inr (SqT.of ha), rfl, _, rfl, ?_⟩
      have lx := hxs.len
      refine ite2 (fun z => ?_) (fun z => ?_)
      · rw [Bool.not_eq_true', decide_eq_false_iff_not] at z
        have l3 : ds.length ≠ 3 := fun q => z (by rw [lx, q]; rfl)
        rw [mCart_len l3] at k
        exact k H (Same.refl H)
      · rw [Bool.not_eq_true, Bool.not_eq_false', decide_eq_true_iff] at z
        have z' : (xs.length : Int) = 3 := V.int.inj z
        obtain ⟨fD, kD, tD, rfl⟩ := three_of (ds := ds) (by omega)
        obtain ⟨vf, vk, vt, rfl, hf, hk, ht⟩ := hxs.three
        obtain ⟨sf, sk, st⟩ := K14.SX.in3 hs
        have eC : mCart (.tuple [fD, kD, tD]) = (mKind fD && (mKind kD && (isBool tD && (!truth tD || leS fD kD)))) := rfl
        rw [eC] at k
        refine ⟨_, rfl, a, _, rfl, SqT.of ha, rfl, _, _, rfl, _, _, rfl, _, _, rfl, rfl, ?_⟩
        refine ⟨_, rfl, b, vf, fD, n, rfl, hf, sf, hn, fun H1 s1 => ⟨mKind fD, rfl, ?_⟩⟩
        cases e1 : mKind fD with
        | false =>
          rw [e1] at k
          exact iteT (iteT (k H1 s1))
        | true =>
          rw [e1] at k
          refine iteF ⟨_, rfl, b, vk, kD, n, rfl, hk.same s1, sk, hn, fun H2 s2 => ⟨mKind kD, rfl, ?_⟩⟩
          cases e2 : mKind kD with
          | false =>
            rw [e2] at k
            exact iteT (iteT (k H2 (s1.trans s2)))
          | true =>
            rw [e2] at k
            refine iteF ⟨_, rfl, vt, .ty "bool", _, _, _, rfl, .ty _, (ht.same (s1.trans s2)).ty, kit_ty (kit_bool tD), isBool tD, rfl, ?_⟩
            cases e3 : isBool tD with
            | false =>
              rw [e3] at k
              exact iteT (k H2 (s1.trans s2))
            | true =>
              rw [e3] at k
              obtain ⟨f0, rfl⟩ := mKind_is e1
              obtain ⟨k0, rfl⟩ := mKind_is e2
              obtain ⟨t0, rfl⟩ := isBool_is e3
              cases hf.strI
              cases hk.strI
              cases ht.blI
              refine iteF ⟨_, rfl, t0, rfl, !t0, rfl, ?_⟩
              cases t0 with
              | false => exact iteT (k H2 (s1.trans s2))
              | true => exact iteF ⟨_, rfl, _, rfl, f0, k0, rfl, rfl, k H2 (s1.trans s2)⟩
/-! has_two_steps, of carts alone -/
def spTwo : Sp := fun vs H Q _ => ∃ (b : Addr) (x : V) (d : PyData), vs = [x] ∧ DX b H x d ∧ mCart d = true ∧ Q (.bl (twoD d)) H
theorem cart_is {d : PyData} (h : mCart d = true) : ∃ f k t, d = .tuple [.str f, .str k, .bool t] := by
  cases d with
  | tuple ds =>
    by_cases l : ds.length = 3
    · obtain ⟨fD, kD, tD, rfl⟩ := three_of l
      have eC : mCart (.tuple [fD, kD, tD]) = (mKind fD && (mKind kD && (isBool tD && (!truth tD || leS fD kD)))) := rfl
      rw [eC] at h
      simp only [Bool.and_eq_true] at h
      obtain ⟨f0, rfl⟩ := mKind_is h.1
      obtain ⟨k0, rfl⟩ := mKind_is h.2.1
      obtain ⟨t0, rfl⟩ := isBool_is h.2.2.1
      exact ⟨f0, k0, t0, rfl⟩
    · rw [mCart_len l] at h
      cases h
  | _ => cases h
theorem cartX {b : Addr} {H : Hp} {v : V} {f k : Str} {t : Bool} (h : DX b H v (.tuple [.str f, .str k, .bool t])) : ∃ a, v = .ref a ∧ a ≠ b ∧ H a = some (.tup [.str f, .str k, .bl t]) := by
  obtain ⟨a, xs, rfl, n, e, r⟩ := h.tupI
  obtain ⟨_, _, _, rfl, h1, h2, h3⟩ := r.three
  cases h1
  cases h2
  cases h3
  exact ⟨a, rfl, n, e⟩
theorem ne_str {f k : Str} : decide (V.str f = V.str k) = decide (f = k) := by
  by_cases z : f = k
  · rw [decide_eq_true z, decide_eq_true (congrArg V.str z)]
  · rw [decide_eq_false z, decide_eq_false (fun q => z (V.str.inj q))]
theorem scTwo : FnScope ["cart", "front", "back", "turns"] ["cart"] (defScope sTwo) := ⟨rfl, rfl, rfl, by decide +kernel, rfl, by decide +kernel, by decide +kernel⟩
theorem ok_two {f : Addr} {fd : FuncData} (F : Fun K "has_two_steps" "has_two_steps" sTwo f fd) : FnOk P w K mg base CX0 1 f fd ["cart"] spTwo := by
  refine F.ok scTwo (fun vs H Q E h => ?_) (fun cdv A outer s H vs Q E hr h => ?_)
  · obtain ⟨b, x, c, rfl, _⟩ := h
    rfl
  · obtain ⟨b, x, d, rfl, hx, hc, k⟩ := h
    obtain ⟨f0, k0, t0, rfl⟩ := cart_is hc
    obtain ⟨a, rfl, n, e⟩ := cartX hx
    have nd := scTwo.nd
    refine ⟨_, (pss_cons (ps_asg (pv 0) (pg_tup (by rfl) (pgs_cons (pg_name (i := 1) nd rfl (Or.inl rfl)) (pgs_cons (pg_name (i := 2) nd rfl (Or.inl rfl)) (pgs_cons (pg_name (i := 3) nd rfl (Or.inl rfl)) pgs_nil)))))
      (pss_one (ps_ret (pe_and (pv 3) (pe_one (pe_cmpR op_ne (pv 1) (pv 2) (nomark _))))))), ?_⟩
    refine ⟨_, rfl, a, _, rfl, SqT.of e, rfl, _, _, rfl, _, _, rfl, _, _, rfl, rfl, ?_⟩
    refine ⟨_, rfl, t0, rfl, ?_⟩
    cases t0 with
    | false => exact iteF k
    | true =>
      refine iteT ⟨_, rfl, _, rfl, rfl, ?_⟩
      have e3 : twoD (.tuple [.str f0, .str k0, .bool true]) = !decide (V.str f0 = V.str k0) := by
        rw [ne_str]
        rfl
      rw [e3] at k
      exact k
/-! is_step -/
theorem scStepP : FnScope ["thing", "cart", "turned"] ["thing"] (defScope sStep) := ⟨rfl, rfl, rfl, by decide +kernel, rfl, by decide +kernel, by decide +kernel⟩
theorem ok_step {f fK fC fT : Addr} {fd fdK fdC fdT : FuncData} (F : Fun K "is_step" "is_step" sStep f fd) (T : TxJ mg) (gK : mg "is_kind" = some (.ref fK)) (FK : Fun K "is_kind" "is_kind" sKind fK fdK) (bK : Binds K fdK ["thing"] [])
    (gC : mg "is_cart" = some (.ref fC)) (FC : Fun K "is_cart" "is_cart" sCart fC fdC) (bC : Binds K fdC ["thing"] []) (gT : mg "has_two_steps" = some (.ref fT)) (FT : Fun K "has_two_steps" "has_two_steps" sTwo fT fdT) (bT : Binds K fdT ["cart"] []) :
    FnOk P w K mg base CX0 3 f fd ["thing"] (spJ mStep) := by
  have GC : FnOk P w K mg base CX0 2 fC fdC _ (spJ mCart) := ok_cart FC T gK FK bK
  have GT : FnOk P w K mg base CX0 1 fT fdT _ spTwo := ok_two FT
  refine F.ok scStepP (fun vs H Q E h => ?_) (fun cdv A outer s H vs Q E hr h => ?_)
  · obtain ⟨b, x, d, n, rfl, _⟩ := h
    rfl
  · obtain ⟨b, x, d, n, rfl, hx, hs, hn, k⟩ := h
    have nd := scStepP.nd
    have hr1 : Room 1 _ := hr.mono (by decide)
    refine ⟨_, (pss_cons (ps_if (PW.pt (pw_or (pt_not (pt_val (pe_callB call_isi (by rfl) T.n_isi (by decide +kernel) (pa_cons (pv 0) (pa_cons (pe_bltn (v := .ty "tuple") (by rfl) (T.n_ty "tuple" (by simp)) (by decide +kernel) rfl) pa_nil))))) (pw_or1 (pt_cmpR op_ne (pe_callB call_len_seq (by rfl) (T.n_ty "len" (by simp)) (by decide +kernel) (pa_cons (pv 0) pa_nil)) pe_int (nomark _)))))
      (pss_one (ps_ret pe_bl))
       pss_nil)
    (pss_cons (ps_asg (pv 0) (pg_tup (by rfl) (pgs_cons (pg_name (i := 1) nd rfl (Or.inl rfl)) (pgs_cons (pg_name (i := 2) nd rfl (Or.inl rfl)) pgs_nil))))
    (pss_cons (ps_if (PW.pt (pw_or (pt_not (pt_val (pe_call GC hr rfl gC FC.kp bC .nil pass0 (pa_cons (pv 1) pa_nil)))) (pw_or1 (pt_not (pt_val (pe_callB call_isi (by rfl) T.n_isi (by decide +kernel) (pa_cons (pv 2) (pa_cons (pe_bltn (v := .ty "bool") (by rfl) (T.n_ty "bool" (by simp)) (by decide +kernel) rfl) pa_nil))))))))
      (pss_one (ps_ret pe_bl))
       pss_nil)
    (pss_one (ps_ret (pe_or (pe_not (pv 2)) (pe_one (pe_call GT hr1 rfl gT FT.kp bT .nil pass0 (pa_cons (pv 1) pa_nil))))))))), ?_⟩
    refine ⟨_, rfl, x, .ty "tuple", _, _, _, rfl, .ty _, hx.ty, kit_ty (kit_tup d), isTup d, rfl, ?_⟩
    cases h1 : isTup d with
    | false =>
      rw [mStep_tup h1] at k
      exact iteT (iteT (k H (Same.refl H)))
    | true =>
      obtain ⟨ds, rfl⟩ : ∃ ds, d = .tuple ds := by cases d <;> first | exact ⟨_, rfl⟩ | cases h1
      obtain ⟨a, xs, rfl, na, ha, hxs⟩ := hx.tupI
      refine iteF ⟨_, rfl, a, xs, rfl, .inr (SqT.of ha), rfl, _, rfl, ?_⟩
      have lx := hxs.len
      refine ite2 (fun z => ?_) (fun z => ?_)
      · rw [Bool.not_eq_true', decide_eq_false_iff_not] at z
        have l3 : ds.length ≠ 2 := fun q => z (by rw [lx, q]; rfl)
        rw [mStep_len l3] at k
        exact k H (Same.refl H)
      · rw [Bool.not_eq_true, Bool.not_eq_false', decide_eq_true_iff] at z
        have z' : (xs.length : Int) = 2 := V.int.inj z
        obtain ⟨cD, uD, rfl⟩ := two_of (ds := ds) (by omega)
        obtain ⟨vc, vu, rfl, hc, hu⟩ := hxs.two
        obtain ⟨sc, su⟩ := K14.SX.in2 hs
        have eC : mStep (.tuple [cD, uD]) = (mCart cD && (isBool uD && (!truth uD || twoD cD))) := rfl
        rw [eC] at k
        refine ⟨_, rfl, a, _, rfl, SqT.of ha, rfl, _, _, rfl, _, _, rfl, rfl, ?_⟩
        refine ⟨_, rfl, b, vc, cD, n, rfl, hc, sc, hn, fun H1 s1 => ⟨mCart cD, rfl, ?_⟩⟩
        cases e1 : mCart cD with
        | false =>
          rw [e1] at k
          exact iteT (iteT (k H1 s1))
        | true =>
          rw [e1] at k
          refine iteF ⟨_, rfl, vu, .ty "bool", _, _, _, rfl, .ty _, (hu.same s1).ty, kit_ty (kit_bool uD), isBool uD, rfl, ?_⟩
          cases e3 : isBool uD with
          | false =>
            rw [e3] at k
            exact iteT (k H1 s1)
          | true =>
            rw [e3] at k
            obtain ⟨u0, rfl⟩ := isBool_is e3
            cases hu.blI
            refine iteF ⟨_, rfl, u0, rfl, !u0, rfl, ?_⟩
            cases u0 with
            | false => exact iteT (k H1 s1)
            | true => exact iteF ⟨_, rfl, b, vc, cD, rfl, hc.same s1, e1, k H1 s1⟩
end
end K14

namespace K14
open PySem PySem.Spec PyProof.Rows L2 HK
theorem strs_dp {K : PySem.W.Frag} {H : Hp} : ∀ acc : List Str, DpAll K H (acc.map V.str) (acc.map PyData.str)
  | [] => .nil
  | x :: r => .cons (.str x) (strs_dp r)
theorem strs_lay : ∀ acc : List Str, (∀ y ∈ acc, Asc y) → PyData.canLayAll0 (acc.map PyData.str) = true
  | [], _ => rfl
  | x :: r, h => by
    have h1 : (PyData.str x).canLay0 = true := by simpa only [PyData.canLay0] using (h x List.mem_cons_self).ok
    simp only [List.map_cons, PyData.canLayAll0, h1, strs_lay r fun y hy => h y (List.mem_cons_of_mem _ hy), Bool.and_self]
theorem strs_depth : ∀ acc : List Str, PyData.depthAll (acc.map PyData.str) = 0
  | [] => by simp [PyData.depthAll]
  | x :: r => by
    simp only [List.map_cons, PyData.depthAll, PyData.depth, strs_depth r]
    rfl
theorem strs_shaped {acc : List Str} (h : ∀ y ∈ acc, Asc y) : SeqAt.shaped (.list (acc.map PyData.str)) = true := by
  unfold SeqAt.shaped
  simp only [PyData.canLay0, strs_lay acc h, PyData.depth, strs_depth acc]
  rfl
theorem strs_nil {acc : List Str} : PyData.eqv (.list (acc.map PyData.str)) (.list []) = acc.isEmpty := by
  cases acc <;> simp [PyData.eqv, PyData.eqvAll]
section
variable {P : Program} {w : World} {K : PySem.W.Frag} {mg : Str → Option Value} {base : Heap}
theorem scLInt : FnScope ["_law_thing"] ["_law_thing"] (defScope sLInt) := ⟨rfl, rfl, rfl, by decide +kernel, rfl, by decide +kernel, by decide +kernel⟩
theorem ok_lint {f : Addr} {fd : FuncData} (F : Fun K "_law_is_int" "_law_is_int" sLInt f fd) (T : TxJ mg) : FnOk P w K mg base CX0 1 f fd ["_law_thing"] (spJ mInt) := by
  refine F.ok scLInt (fun vs H Q E h => ?_) (fun cdv A outer s H vs Q E hr h => ?_)
  · obtain ⟨b, x, d, n, rfl, _⟩ := h
    rfl
  · obtain ⟨b, x, d, n, rfl, hx, hs, hn, k⟩ := h
    refine ⟨_, (pss_one (ps_ret (pe_and (pe_callB call_isi (by rfl) T.n_isi (by decide +kernel) (pa_cons (pv 0) (pa_cons (pe_bltn (v := .ty "int") (by rfl) (T.n_ty "int" (by simp)) (by decide +kernel) rfl) pa_nil))) (pe_one (pe_not (pe_callB call_isi (by rfl) T.n_isi (by decide +kernel) (pa_cons (pv 0) (pa_cons (pe_bltn (v := .ty "bool") (by rfl) (T.n_ty "bool" (by simp)) (by decide +kernel) rfl) pa_nil)))))))), ?_⟩
    refine ⟨_, rfl, x, .ty "int", _, _, _, rfl, .ty _, hx.ty, kit_ty (kit_int d), isInt d, rfl, ?_⟩
    cases h1 : isInt d with
    | false =>
      have e : mInt d = false := by cases d <;> first | rfl | cases h1
      rw [e] at k
      exact iteF (k H (Same.refl H))
    | true =>
      refine iteT ⟨_, rfl, x, .ty "bool", _, _, _, rfl, .ty _, hx.ty, kit_ty (kit_bool d), _, rfl, ?_⟩
      have e : mInt d = !isBool d := by cases d <;> first | rfl | cases h1
      rw [e] at k
      exact k H (Same.refl H)
theorem scLKind : FnScope ["_law_thing", "_law_letter"] ["_law_thing"] (defScope sLKind) := ⟨rfl, rfl, rfl, by decide +kernel, rfl, by decide +kernel, by decide +kernel⟩
theorem ok_lkind {f : Addr} {fd : FuncData} (F : Fun K "_law_is_kind" "_law_is_kind" sLKind f fd) (T : TxJ mg) : FnOk P w K mg base CX0 1 f fd ["_law_thing"] (spJ mKind) := by
  refine F.ok scLKind (fun vs H Q E h => ?_) (fun cdv A outer s H vs Q E hr h => ?_)
  · obtain ⟨b, x, d, n, rfl, _⟩ := h
    rfl
  · obtain ⟨b, x, d, n, rfl, hx, hs, hn, k⟩ := h
    have nd := scLKind.nd
    refine ⟨_, (pss_cons (ps_if (PW.pt (pw_or (pt_not (pt_val (pe_callB call_isi (by rfl) T.n_isi (by decide +kernel) (pa_cons (pv 0) (pa_cons (pe_bltn (v := .ty "str") (by rfl) (T.n_ty "str" (by simp)) (by decide +kernel) rfl) pa_nil)))))
        (pw_or1 (pt_not (pt_chain op_lt op_lt pe_int (pe_callB call_len_str (by rfl) (T.n_ty "len" (by simp)) (by decide +kernel) (pa_cons (pv 0) pa_nil)) pe_int)))))
      (pss_one (ps_ret pe_bl))
       pss_nil)
    (pss_one (ps_ret (pe_cmpR (op_eqD hr.units) (pe_lc (own := [("_law_letter", 1)]) (g := (gName 1)) (tt := _) rfl nd (pi_str (pv 0)) (blkOk_by (N := ["_law_thing", "_law_letter"]) (sc := defScope sLKind) (by decide +kernel)) (fun _ _ _ _ _ => (pg_name (i := 1) nd rfl (Or.inl rfl))) (fun _ _ _ _ _ => (pts_one (pt_cmpR op_notIn_sign (pv 1) pe_str (by rfl)))) (fun _ _ _ _ _ => (pv 1))) (pe_lst pa_nil) (nomark _))))), ?_⟩
    refine ⟨_, rfl, x, .ty "str", _, _, _, rfl, .ty _, hx.ty, kit_ty (kit_str d), isStr d, rfl, ?_⟩
    cases h1 : isStr d with
    | false =>
      rw [mKind_str h1] at k
      exact iteT (iteT (k H (Same.refl H)))
    | true =>
      obtain ⟨x0, rfl⟩ : ∃ x0, d = .str x0 := by cases d <;> first | exact ⟨_, rfl⟩ | cases h1
      cases hx
      have room : x0.cps.size ≤ 300000 := by
        have := hs.w
        simp only [PyData.weight] at this
        omega
      have line : (300000 : Nat) ≤ sizeLine := by decide
      have asc : ∀ c ∈ x0.cps.toList, c < 128 := Asc.by (by simpa only [ascD] using hs.asc)
      refine iteF ⟨_, rfl, _, rfl, Nat.le_trans room line, _, _, rfl, rfl, _, rfl, ?_⟩
      have eK : mKind (.str x0) = (decide (1 ≤ x0.cps.size) && decide (x0.cps.size ≤ 8) && lets x0) := rfl
      have lz : (x0.length : Int) = (x0.cps.size : Int) := rfl
      refine ite2 (fun z1 => ?_) (fun z1 => ?_)
      · have z1' := of_decide_eq_true z1
        refine ⟨_, _, rfl, rfl, _, rfl, ?_⟩
        refine ite2 (fun z2 => ?_) (fun z2 => ?_)
        · rw [Bool.not_eq_true', decide_eq_false_iff_not] at z2
          rw [eK, decide_eq_false (show ¬ x0.cps.size ≤ 8 by omega), Bool.and_false, Bool.false_and] at k
          exact k H (Same.refl H)
        · rw [Bool.not_eq_true, Bool.not_eq_false', decide_eq_true_iff] at z2
          rw [eK, decide_eq_true (show 1 ≤ x0.cps.size by omega), decide_eq_true (show x0.cps.size ≤ 8 by omega), Bool.true_and, Bool.true_and] at k
          refine ⟨_, rfl, x0, rfl, fun D nD => ?_⟩
          refine lc_text (x := x0) (fun i H' => Same H H' ∧ ∃ acc : List Str, acc.length ≤ i ∧ (∀ y ∈ acc, Asc y) ∧ acc.isEmpty = (x0.cps.toList.take i).all (fun c => decide (c ∈ abc.cps.toList)) ∧ H' D = some (.lst (acc.map V.str)))
            ⟨Same.new nD, [], Nat.le_refl _, fun _ h => (List.not_mem_nil h).elim, rfl, upd_same⟩ ?_ ?_
          · rintro i c H' hc ⟨sm, acc, la, aa, ea, hD⟩
            have li : i < x0.cps.size := (Array.getElem?_eq_some_iff.mp hc).1
            have et : (x0.cps.toList.take (i + 1)).all (fun c => decide (c ∈ abc.cps.toList)) = (acc.isEmpty && decide (c ∈ abc.cps.toList)) := by
              rw [take_more (x := c) (by rw [Array.getElem?_toList]; exact hc), lets_app, ea]
            refine ⟨rfl, ?_⟩
            refine ⟨_, rfl, c, abc, rfl, rfl, _, rfl, ?_⟩
            cases hm : decide (c ∈ abc.cps.toList) with
            | true =>
              refine iteF ⟨sm, acc, by omega, aa, ?_, hD⟩
              rw [et, hm, Bool.and_true]
            | false =>
              refine iteT ⟨_, rfl, acc.map V.str, hD, small1000 (by rw [List.length_map]; omega), Same.newer sm nD, acc ++ [⟨#[c]⟩], by rw [List.length_append]; show acc.length + 1 ≤ _; omega, fun y hy => ?_, ?_, by rw [upd_same, List.map_append]; rfl⟩
              · rcases List.mem_append.mp hy with hy | hy
                · exact aa y hy
                · rw [List.mem_singleton.mp hy]
                  intro c' hc'
                  have e : c' = c := by simpa using hc'
                  rw [e]
                  exact asc c (by rw [Array.mem_toList_iff]; exact Array.mem_of_getElem? hc)
              · rw [et, hm, Bool.and_false]
                cases acc <;> rfl
          · rintro H' ⟨sm, acc, la, aa, ea, hD⟩
            have et : x0.cps.toList.take x0.cps.size = x0.cps.toList := List.take_of_length_le (by simp)
            rw [et] at ea
            refine ⟨by show 0 ≤ sizeLine; decide, fun p np => ⟨.list (acc.map PyData.str), .list [], .lst (SqL.of (by rw [upd_ne (ne_of_none hD np)]; exact hD)) (strs_dp acc), .lst (SqL.of upd_same) .nil, strs_shaped aa, by decide +kernel, ?_⟩⟩
            rw [strs_nil, ea]
            exact k _ (sm.trans (Same.new np))
      · rw [decide_eq_true_iff] at z1
        rw [eK, decide_eq_false (show ¬ 1 ≤ x0.cps.size by omega), Bool.false_and, Bool.false_and] at k
        exact ⟨_, rfl, iteT (k H (Same.refl H))⟩
end
end K14

namespace K14
open PySem PySem.Spec PyProof.Rows L2 HK
section
variable {P : Program} {w : World} {K : PySem.W.Frag} {mg : Str → Option Value} {base : Heap}
theorem scLCart : FnScope ["_law_thing"] ["_law_thing"] (defScope sLCart) := ⟨rfl, rfl, rfl, by decide +kernel, rfl, by decide +kernel, by decide +kernel⟩
theorem ok_lcart {f fK : Addr} {fd fdK : FuncData} (F : Fun K "_law_is_cart" "_law_is_cart" sLCart f fd) (T : TxJ mg) (gK : mg "_law_is_kind" = some (.ref fK)) (FK : Fun K "_law_is_kind" "_law_is_kind" sLKind fK fdK) (bK : Binds K fdK ["_law_thing"] []) :
    FnOk P w K mg base CX0 2 f fd ["_law_thing"] (spJ mCart) := by
  have GK : FnOk P w K mg base CX0 1 fK fdK _ (spJ mKind) := ok_lkind FK T
  refine F.ok scLCart (fun vs H Q E h => ?_) (fun cdv A outer s H vs Q E hr h => ?_)
  · obtain ⟨b, x, d, n, rfl, _⟩ := h
    rfl
  · obtain ⟨b, x, d, n, rfl, hx, hs, hn, k⟩ := h
    have nd := scLCart.nd
    refine ⟨_, (pss_cons (ps_if (PW.pt (pw_or (pt_not (pt_val (pe_callB call_isi (by rfl) T.n_isi (by decide +kernel) (pa_cons (pv 0) (pa_cons (pe_bltn (v := .ty "tuple") (by rfl) (T.n_ty "tuple" (by simp)) (by decide +kernel) rfl) pa_nil)))))
        (pw_or (pt_cmpR op_ne (pe_callB call_len_seq (by rfl) (T.n_ty "len" (by simp)) (by decide +kernel) (pa_cons (pv 0) pa_nil)) pe_int (nomark _))
        (pw_or1 (pt_not (pt_val (pe_callB call_isi (by rfl) T.n_isi (by decide +kernel) (pa_cons (pe_ix ix_tup (pv 0) pe_int (fun _ _ => rfl)) (pa_cons (pe_bltn (v := .ty "bool") (by rfl) (T.n_ty "bool" (by simp)) (by decide +kernel) rfl) pa_nil)))))))))
      (pss_one (ps_ret pe_bl))
       pss_nil)
    (pss_one (ps_ret (pe_and (pe_call GK hr rfl gK FK.kp bK .nil pass0 (pa_cons (pe_ix ix_tup (pv 0) pe_int (fun _ _ => rfl)) pa_nil)) (pe_and (pe_call GK hr rfl gK FK.kp bK .nil pass0 (pa_cons (pe_ix ix_tup (pv 0) pe_int (fun _ _ => rfl)) pa_nil)) (pe_one (pe_or (pe_not (pe_ix ix_tup (pv 0) pe_int (fun _ _ => rfl))) (pe_one (pe_cmpR op_leS (pe_ix ix_tup (pv 0) pe_int (fun _ _ => rfl)) (pe_ix ix_tup (pv 0) pe_int (fun _ _ => rfl)) (nomark _)))))))))), ?_⟩
    refine ⟨_, rfl, x, .ty "tuple", _, _, _, rfl, .ty _, hx.ty, kit_ty (kit_tup d), isTup d, rfl, ?_⟩
    cases h1 : isTup d with
    | false =>
      rw [mCart_tup h1] at k
      exact iteT (iteT (k H (Same.refl H)))
    | true =>
      obtain ⟨ds, rfl⟩ : ∃ ds, d = .tuple ds := by cases d <;> first | exact ⟨_, rfl⟩ | cases h1
      obtain ⟨a, xs, rfl, na, ha, hxs⟩ := hx.tupI
      refine iteF ⟨_, rfl, a, xs, rfl, .inr (SqT.of ha), rfl, _, rfl, ?_⟩
      have lx := hxs.len
      refine ite2 (fun z => ?_) (fun z => ?_)
      · rw [Bool.not_eq_true', decide_eq_false_iff_not] at z
        have l3 : ds.length ≠ 3 := fun q => z (by rw [lx, q]; rfl)
        rw [mCart_len l3] at k
        exact iteT (k H (Same.refl H))
      · rw [Bool.not_eq_true, Bool.not_eq_false', decide_eq_true_iff] at z
        have z' : (xs.length : Int) = 3 := V.int.inj z
        obtain ⟨fD, kD, tD, rfl⟩ := three_of (ds := ds) (by omega)
        obtain ⟨vf, vk, vt, rfl, hf, hk, ht⟩ := hxs.three
        obtain ⟨sf, sk, st⟩ := K14.SX.in3 hs
        have eC : mCart (.tuple [fD, kD, tD]) = (mKind fD && (mKind kD && (isBool tD && (!truth tD || leS fD kD)))) := rfl
        rw [eC] at k
        refine ⟨_, rfl, a, _, _, _, rfl, rfl, SqT.of ha, rfl, vt, .ty "bool", _, _, _, rfl, .ty _, ht.ty, kit_ty (kit_bool tD), isBool tD, rfl, ?_⟩
        cases e3 : isBool tD with
        | false =>
          rw [e3, Bool.false_and, Bool.and_false, Bool.and_false] at k
          exact iteT (k H (Same.refl H))
        | true =>
          rw [e3, Bool.true_and] at k
          obtain ⟨t0, rfl⟩ := isBool_is e3
          cases ht.blI
          refine iteF ⟨_, rfl, a, _, _, _, rfl, rfl, SqT.of ha, rfl, b, vf, fD, n, rfl, hf, sf, hn, fun H1 s1 => ⟨mKind fD, rfl, ?_⟩⟩
          cases e1 : mKind fD with
          | false =>
            rw [e1] at k
            exact iteF (k H1 s1)
          | true =>
            rw [e1] at k
            refine iteT ⟨_, rfl, a, _, _, _, rfl, rfl, SqT.of (s1 _ _ ha), rfl, b, vk, kD, n, rfl, hk.same s1, sk, hn, fun H2 s2 => ⟨mKind kD, rfl, ?_⟩⟩
            cases e2 : mKind kD with
            | false =>
              rw [e2] at k
              exact iteF (k H2 (s1.trans s2))
            | true =>
              rw [e2] at k
              obtain ⟨f0, rfl⟩ := mKind_is e1
              obtain ⟨k0, rfl⟩ := mKind_is e2
              cases hf.strI
              cases hk.strI
              have ha2 := SqT.of (K := K) ((s1.trans s2) _ _ ha)
              refine iteT ⟨_, rfl, a, _, _, _, rfl, rfl, ha2, rfl, t0, rfl, !t0, rfl, ?_⟩
              cases t0 with
              | false => exact iteT (k H2 (s1.trans s2))
              | true => exact iteF ⟨_, rfl, a, _, _, _, rfl, rfl, ha2, rfl, _, rfl, a, _, _, _, rfl, rfl, ha2, rfl, f0, k0, rfl, rfl, k H2 (s1.trans s2)⟩
theorem scLStep : FnScope ["_law_thing"] ["_law_thing"] (defScope sLStep) := ⟨rfl, rfl, rfl, by decide +kernel, rfl, by decide +kernel, by decide +kernel⟩
theorem ok_lstep {f fK fC : Addr} {fd fdK fdC : FuncData} (F : Fun K "_law_is_step" "_law_is_step" sLStep f fd) (T : TxJ mg) (gK : mg "_law_is_kind" = some (.ref fK)) (FK : Fun K "_law_is_kind" "_law_is_kind" sLKind fK fdK) (bK : Binds K fdK ["_law_thing"] [])
    (gC : mg "_law_is_cart" = some (.ref fC)) (FC : Fun K "_law_is_cart" "_law_is_cart" sLCart fC fdC) (bC : Binds K fdC ["_law_thing"] []) : FnOk P w K mg base CX0 3 f fd ["_law_thing"] (spJ mStep) := by
  have GC : FnOk P w K mg base CX0 2 fC fdC _ (spJ mCart) := ok_lcart FC T gK FK bK
  refine F.ok scLStep (fun vs H Q E h => ?_) (fun cdv A outer s H vs Q E hr h => ?_)
  · obtain ⟨b, x, d, n, rfl, _⟩ := h
    rfl
  · obtain ⟨b, x, d, n, rfl, hx, hs, hn, k⟩ := h
    have nd := scLStep.nd
    refine ⟨_, (pss_cons (ps_if (PW.pt (pw_or (pt_not (pt_val (pe_callB call_isi (by rfl) T.n_isi (by decide +kernel) (pa_cons (pv 0) (pa_cons (pe_bltn (v := .ty "tuple") (by rfl) (T.n_ty "tuple" (by simp)) (by decide +kernel) rfl) pa_nil)))))
        (pw_or (pt_cmpR op_ne (pe_callB call_len_seq (by rfl) (T.n_ty "len" (by simp)) (by decide +kernel) (pa_cons (pv 0) pa_nil)) pe_int (nomark _))
        (pw_or1 (pt_not (pt_val (pe_call GC hr rfl gC FC.kp bC .nil pass0 (pa_cons (pe_ix ix_tup (pv 0) pe_int (fun _ _ => rfl)) pa_nil))))))))
      (pss_one (ps_ret pe_bl))
       pss_nil)
    (pss_one (ps_ret (pe_and (pe_callB call_isi (by rfl) T.n_isi (by decide +kernel) (pa_cons (pe_ix ix_tup (pv 0) pe_int (fun _ _ => rfl)) (pa_cons (pe_bltn (v := .ty "bool") (by rfl) (T.n_ty "bool" (by simp)) (by decide +kernel) rfl) pa_nil))) (pe_one (pe_or (pe_not (pe_ix ix_tup (pv 0) pe_int (fun _ _ => rfl))) (pe_one (pe_and (pe_ix ix_tup (pe_ix ix_tup (pv 0) pe_int (fun _ _ => rfl)) pe_int (fun _ _ => rfl)) (pe_one (pe_cmpR op_ne (pe_ix ix_tup (pe_ix ix_tup (pv 0) pe_int (fun _ _ => rfl)) pe_int (fun _ _ => rfl)) (pe_ix ix_tup (pe_ix ix_tup (pv 0) pe_int (fun _ _ => rfl)) pe_int (fun _ _ => rfl)) (nomark _))))))))))), ?_⟩
    refine ⟨_, rfl, x, .ty "tuple", _, _, _, rfl, .ty _, hx.ty, kit_ty (kit_tup d), isTup d, rfl, ?_⟩
    cases h1 : isTup d with
    | false =>
      rw [mStep_tup h1] at k
      exact iteT (iteT (k H (Same.refl H)))
    | true =>
      obtain ⟨ds, rfl⟩ : ∃ ds, d = .tuple ds := by cases d <;> first | exact ⟨_, rfl⟩ | cases h1
      obtain ⟨a, xs, rfl, na, ha, hxs⟩ := hx.tupI
      refine iteF ⟨_, rfl, a, xs, rfl, .inr (SqT.of ha), rfl, _, rfl, ?_⟩
      have lx := hxs.len
      refine ite2 (fun z => ?_) (fun z => ?_)
      · rw [Bool.not_eq_true', decide_eq_false_iff_not] at z
        have l3 : ds.length ≠ 2 := fun q => z (by rw [lx, q]; rfl)
        rw [mStep_len l3] at k
        exact iteT (k H (Same.refl H))
      · rw [Bool.not_eq_true, Bool.not_eq_false', decide_eq_true_iff] at z
        have z' : (xs.length : Int) = 2 := V.int.inj z
        obtain ⟨cD, uD, rfl⟩ := two_of (ds := ds) (by omega)
        obtain ⟨vc, vu, rfl, hc, hu⟩ := hxs.two
        obtain ⟨sc, su⟩ := K14.SX.in2 hs
        have eC : mStep (.tuple [cD, uD]) = (mCart cD && (isBool uD && (!truth uD || twoD cD))) := rfl
        rw [eC] at k
        refine ⟨_, rfl, a, _, _, _, rfl, rfl, SqT.of ha, rfl, b, vc, cD, n, rfl, hc, sc, hn, fun H1 s1 => ⟨mCart cD, rfl, ?_⟩⟩
        have ha1 := SqT.of (K := K) (s1 _ _ ha)
        cases e1 : mCart cD with
        | false =>
          rw [e1] at k
          exact iteT (k H1 s1)
        | true =>
          rw [e1, Bool.true_and] at k
          obtain ⟨f0, k0, t0, rfl⟩ := cart_is e1
          obtain ⟨c, rfl, nc, ec⟩ := cartX hc
          have ec1 := SqT.of (K := K) (s1 _ _ ec)
          refine iteF ⟨_, rfl, a, _, _, _, rfl, rfl, ha1, rfl, vu, .ty "bool", _, _, _, rfl, .ty _, (hu.same s1).ty, kit_ty (kit_bool uD), isBool uD, rfl, ?_⟩
          cases e3 : isBool uD with
          | false =>
            rw [e3] at k
            exact iteF (k H1 s1)
          | true =>
            rw [e3, Bool.true_and] at k
            obtain ⟨u0, rfl⟩ := isBool_is e3
            cases hu.blI
            refine iteT ⟨_, rfl, a, _, _, _, rfl, rfl, ha1, rfl, u0, rfl, !u0, rfl, ?_⟩
            cases u0 with
            | false => exact iteT (k H1 s1)
            | true =>
              refine iteF ⟨_, rfl, a, _, _, _, rfl, rfl, ha1, rfl, c, _, _, _, rfl, rfl, ec1, rfl, t0, rfl, ?_⟩
              cases t0 with
              | false => exact iteF (k H1 s1)
              | true =>
                have e3 : (!truth (.bool true) || twoD (.tuple [.str f0, .str k0, .bool true])) = !decide (V.str f0 = V.str k0) := by
                  rw [ne_str]
                  rfl
                rw [e3] at k
                exact iteT ⟨_, rfl, a, _, _, _, rfl, rfl, ha1, rfl, c, _, _, _, rfl, rfl, ec1, rfl, _, rfl, a, _, _, _, rfl, rfl, ha1, rfl, c, _, _, _, rfl, rfl, ec1, rfl, rfl, k H1 s1⟩
end
end K14

namespace HK
open PySem PySem.Spec PyProof.Rows L2
theorem op_ltS {X : Cx} : OpR X (compareOp .Lt) (fun x y H Q => ∃ i j, x = .str i ∧ y = .str j ∧ Q (.bl (decide (i.cps.toList < j.cps.toList))) H) := by
  intro pins s σ H x y v u Q I rx ry h
  obtain ⟨i, j, rfl, rfl, q⟩ := h
  obtain ⟨t, rfl⟩ := rx
  obtain ⟨t', rfl⟩ := ry
  exact compareOp_gives (op := .Lt) (typeIs_str s i t) (typeIs_str s j t') F.slot_str_lt F.entry_str_lt (F.args_str_lt_2 _ _) (gives_str_lt i j t t') (fun e => nomatch e) ⟨.bl _, H, I, rfl, q⟩
end HK
namespace K14
open PySem PySem.Spec PyProof.Rows L2 HK
theorem of6 {i : Int} (h0 : 0 ≤ i) (h1 : i < 6) : ∃ m, atI [V.int 1, .int 2, .int 3, .int 4, .int 6, .int 12] i = some (.int m) ∧ 1 ≤ m ∧ m ≤ 12 := by
  have e : i = 0 ∨ i = 1 ∨ i = 2 ∨ i = 3 ∨ i = 4 ∨ i = 5 := by omega
  rcases e with rfl | rfl | rfl | rfl | rfl | rfl <;> exact ⟨_, rfl, by decide, by decide⟩
theorem of4 {i : Int} (h0 : 0 ≤ i) (h1 : i < 4) : ∃ m, atI [V.int (10 ^ (3 : Int).toNat), .int (10 ^ (9 : Int).toNat), .int (10 ^ (17 : Int).toNat), .int (10 ^ (29 : Int).toNat)] i = some (.int m) ∧ 0 ≤ m ∧ m ≤ 10 ^ 29 := by
  have e : i = 0 ∨ i = 1 ∨ i = 2 ∨ i = 3 := by omega
  rcases e with rfl | rfl | rfl | rfl <;> exact ⟨_, rfl, by decide +kernel, by decide +kernel⟩
theorem KindS.min {x y : Str} (h : KindS x) (k : KindS y) : KindS (minS x y) := by
  unfold minS
  split
  · exact k
  · exact h
theorem KindS.max {x y : Str} (h : KindS x) (k : KindS y) : KindS (maxS x y) := by
  unfold maxS
  split
  · exact k
  · exact h
theorem KindS.asc {x : Str} (h : KindS x) : Asc x := fun c hc => by
  have := h.let' c hc
  omega
structure TxM (mg : Str → Option Value) : Prop where
  n_min : mg "min" = none
  n_max : mg "max" = none
def dSt (f k : Str) (t u : Bool) : PyData := .tuple [.tuple [.str f, .str k, .bool t], .bool u]
section
variable {P : Program} {w : World} {K : PySem.W.Frag} {mg : Str → Option Value} {base : Heap}
def spLNum : Sp := fun vs H Q _ => ∃ (b : Addr), vs = [.ref b] ∧ Bag b H ∧ ∀ r H', 0 ≤ r → r < 10 ^ 39 → Bag b H' → Keep b H H' → Q (.int r) H'
theorem scLNum : FnScope ["_law_bag_here", "_law_way"] ["_law_bag_here"] (defScope sLNum) := ⟨rfl, rfl, rfl, by decide +kernel, rfl, by decide +kernel, by decide +kernel⟩
theorem ok_lnum {f fT : Addr} {fd fdT : FuncData} (F : Fun K "_law_number" "_law_number" sLNum f fd) (T : TxB mg) (gT : mg "_law_take" = some (.ref fT)) (FT : Fun K "_law_take" "_law_take" sTake fT fdT) (bT : Binds K fdT ["_law_bag_here", "_law_many"] []) :
    FnOk P w K mg base CX0 2 f fd ["_law_bag_here"] spLNum := by
  have GT : FnOk P w K mg base CX0 1 fT fdT _ spTake := ok_take FT T
  refine F.ok scLNum (fun vs H Q E h => ?_) (fun cdv A outer s H vs Q E hr h => ?_)
  · obtain ⟨b, rfl, _⟩ := h
    rfl
  · obtain ⟨b, rfl, g, k⟩ := h
    have nd := scLNum.nd
    refine ⟨_, (pss_cons (ps_set (i := 1) nd rfl (Or.inl rfl) (pe_call GT hr rfl gT FT.kp bT .nil pass0 (pa_cons (pv 0) (pa_cons pe_int pa_nil))))
    (pss_cons (ps_if (pt_cmpR op_lt (pv 1) pe_int (nomark _))
      (pss_one (ps_ret (pe_op op_add pe_int (pe_call GT hr rfl gT FT.kp bT .nil pass0 (pa_cons (pv 0) (pa_cons (pe_ix ix_list (pe_lst (pa_cons pe_int (pa_cons pe_int (pa_cons pe_int (pa_cons pe_int (pa_cons pe_int (pa_cons pe_int pa_nil))))))) (pv 1) (fun _ _ => rfl)) pa_nil))))))
       pss_nil)
    (pss_one (ps_ret (pe_op op_add (pe_ix ix_list (pe_lst (pa_cons (pe_op op_pow pe_int pe_int) (pa_cons (pe_op op_pow pe_int pe_int) (pa_cons (pe_op op_pow pe_int pe_int) (pa_cons (pe_op op_pow pe_int pe_int) pa_nil))))) (pe_call GT hr rfl gT FT.kp bT .nil pass0 (pa_cons (pv 0) (pa_cons pe_int pa_nil))) (fun _ _ => rfl)) (pe_call GT hr rfl gT FT.kp bT .nil pass0 (pa_cons (pv 0) (pa_cons pe_int pa_nil)))))))), ?_⟩
    refine ⟨_, rfl, b, 8, rfl, g, by decide, by decide, fun way H1 w0 w1 g1 k1 => ?_⟩
    refine ⟨_, rfl, _, _, rfl, rfl, _, rfl, ?_⟩
    refine ite2 (fun z => ?_) (fun z => ?_)
    · have z' := of_decide_eq_true z
      obtain ⟨m, em, m1, m2⟩ := of6 w0 z'
      refine ⟨_, rfl, by show 6 ≤ sizeLine; decide, fun p np => ⟨_, rfl, p, _, _, _, rfl, rfl, SqL.of upd_same, em, b, m, rfl, g1.same (Same.new np), m1, by omega, fun r H2 r0 r1 g2 k2 => ⟨_, _, rfl, rfl, k _ _ (by omega) ?_ g2 ((k1.trans (Keep.of (Same.new np))).trans k2)⟩⟩⟩
      omega
    · refine ⟨_, _, rfl, rfl, ⟨by decide, by decide, by decide⟩, _, _, rfl, rfl, ⟨by decide, by decide, by decide⟩, _, _, rfl, rfl, ⟨by decide, by decide, by decide⟩, _, _, rfl, rfl, ⟨by decide, by decide, by decide⟩, by show 4 ≤ sizeLine; decide, fun p np => ?_⟩
      refine ⟨_, rfl, b, 4, rfl, g1.same (Same.new np), by decide, by decide, fun r H2 r0 r1 g2 k2 => ?_⟩
      obtain ⟨m, em, m1, m2⟩ := of4 r0 r1
      have np' : p ≠ b := g1.ne np
      refine ⟨p, _, _, _, rfl, rfl, SqL.of (k2 _ _ np' upd_same), em, _, rfl, b, 7, rfl, g2, by decide, by decide, fun q H3 q0 q1 g3 k3 => ⟨_, _, rfl, rfl, k _ _ (by omega) ?_ g3 (((k1.trans (Keep.of (Same.new np))).trans k2).trans k3)⟩⟩
      have : (10 : Int) ^ 29 + 7 ≤ 10 ^ 39 := by decide
      omega
def spStepOn : Sp := fun vs H Q _ => ∃ (b : Addr) (x y : Str), vs = [.ref b, .str x, .str y] ∧ Bag b H ∧ KindS x ∧ KindS y ∧ ∀ f k t u v H', KindS f → KindS k → Bag b H' → Keep b H H' → DX b H' v (dSt f k t u) → Q v H'
theorem scStepOn : FnScope ["_law_bag_here", "_law_here", "_law_there"] ["_law_bag_here", "_law_here", "_law_there"] (defScope sStepOn) := ⟨rfl, rfl, rfl, by decide +kernel, rfl, by decide +kernel, by decide +kernel⟩
theorem newStep {b c t : Addr} {H : Hp} {f k : Str} {x u : Bool} (g : Bag b H) (nc : H c = none) (nt : (upd H c (.tup [.str f, .str k, .bl x])) t = none) :
    DX b (upd (upd H c (.tup [.str f, .str k, .bl x])) t (.tup [.ref c, .bl u])) (.ref t) (dSt f k x u) := by
  have z := DX.newT (b := b) (p := c) (xs := [.str f, .str k, .bl x]) (ds := [.str f, .str k, .bool x]) (g.ne nc) nc (.cons (.str f) (.cons (.str k) (.cons (.bl x) .nil)))
  exact DX.newT (g.ne ((Same.new nc).free nt)) nt (.cons z (.cons (.bl u) .nil))
theorem ok_stepon {f fT : Addr} {fd fdT : FuncData} (F : Fun K "_law_step_on" "_law_step_on" sStepOn f fd) (T : TxB mg) (M : TxM mg) (gT : mg "_law_take" = some (.ref fT)) (FT : Fun K "_law_take" "_law_take" sTake fT fdT) (bT : Binds K fdT ["_law_bag_here", "_law_many"] []) :
    FnOk P w K mg base CX0 2 f fd ["_law_bag_here", "_law_here", "_law_there"] spStepOn := by
  have GT : FnOk P w K mg base CX0 1 fT fdT _ spTake := ok_take FT T
  refine F.ok scStepOn (fun vs H Q E h => ?_) (fun cdv A outer s H vs Q E hr h => ?_)
  · obtain ⟨b, x, y, rfl, _⟩ := h
    rfl
  · obtain ⟨b, x, y, rfl, g, kx, ky, k⟩ := h
    have nd := scStepOn.nd
    refine ⟨_, (pss_cons (ps_if (pt_cmpR op_eq (pe_call GT hr rfl gT FT.kp bT .nil pass0 (pa_cons (pv 0) (pa_cons pe_int pa_nil))) pe_int (nomark _))
      (pss_one (ps_ret (pe_tup (pa_cons (pe_tup (pa_cons (pv 1) (pa_cons (pv 2) (pa_cons pe_bl pa_nil)))) (pa_cons pe_bl pa_nil)))))
       pss_nil)
    (pss_one (ps_ret (pe_tup (pa_cons (pe_tup (pa_cons (pe_callB (call_minS rfl) (by rfl) M.n_min (by decide +kernel) (pa_cons (pv 1) (pa_cons (pv 2) pa_nil))) (pa_cons (pe_callB (call_maxS rfl) (by rfl) M.n_max (by decide +kernel) (pa_cons (pv 1) (pa_cons (pv 2) pa_nil))) (pa_cons pe_bl pa_nil)))) (pa_cons (pe_cmpR op_ltS (pv 2) (pv 1) (nomark _)) pa_nil)))))), ?_⟩
    refine ⟨_, rfl, b, 2, rfl, g, by decide, by decide, fun way H1 w0 w1 g1 k1 => ⟨rfl, _, rfl, ?_⟩⟩
    refine ite2 (fun z => ?_) (fun z => ?_)
    · refine ⟨_, rfl, _, rfl, by show 3 ≤ sizeLine; decide, fun c nc => ⟨by show 2 ≤ sizeLine; decide, fun t nt => k x y false false _ _ kx ky ?_ ?_ (newStep g1 nc nt)⟩⟩
      · exact g1.same (Same.newer (Same.new nc) ((Same.new nc).free nt))
      · exact k1.trans (Keep.of (Same.newer (Same.new nc) ((Same.new nc).free nt)))
    · refine ⟨_, rfl, _, rfl, x, y, rfl, _, rfl, _, rfl, x, y, rfl, by show 3 ≤ sizeLine; decide, fun c nc => ⟨_, rfl, _, rfl, y, x, rfl, rfl, by show 2 ≤ sizeLine; decide, fun t nt => k (minS x y) (maxS x y) true _ _ _ (kx.min ky) (kx.max ky) ?_ ?_ (newStep g1 nc nt)⟩⟩
      · exact g1.same (Same.newer (Same.new nc) ((Same.new nc).free nt))
      · exact k1.trans (Keep.of (Same.newer (Same.new nc) ((Same.new nc).free nt)))
end
end K14

namespace HK
open PySem PySem.Spec PyProof.Rows L2
theorem DXs.snoc {b : Addr} {H H' : Hp} {vs : List V} {ds : List PyData} {v : V} {d : PyData} (h : DXs b H vs ds) (s : Same H H') (x : DX b H' v d) : DXs b H' (vs ++ [v]) (ds ++ [d]) := (h.same s).append (.cons x .nil)
def okX (n m : Nat) (d : PyData) : Bool := ascD d && (d.leavesShort 40 && (d.showable && (decide (d.weight ≤ n) && decide (d.depth ≤ m))))
theorem SX.by {n m : Nat} {d : PyData} (h : okX n m d = true) : SX d n m := by
  unfold okX at h
  simp only [Bool.and_eq_true, decide_eq_true_eq] at h
  exact ⟨h.1, h.2.1, h.2.2.1, h.2.2.2.1, h.2.2.2.2⟩
theorem SXs.rep : ∀ n : Nat, SXs (List.replicate n .none) n 0
  | 0 => SXs.nil
  | n + 1 => by
    have := (SX.none).mono (Nat.le_refl 0) (Nat.le_refl 0)
    exact (SXs.cons this (SXs.rep n)).mono (by omega) (Nat.le_refl _)
theorem DXs.rep {b : Addr} {H : Hp} : ∀ n : Nat, DXs b H (List.replicate n .non) (List.replicate n .none)
  | 0 => .nil
  | n + 1 => .cons .non (DXs.rep n)
section
variable {b p : Addr} {H H' : Hp}
mutual
/-- what is not told yet is not in it -/
theorem DX.un (n : H p = none) : ∀ {v : V} (d : PyData), DX b H v d → DX p H v d
  | _, .none, .non => .non
  | _, .bool _, .bl x => .bl x
  | _, .int _, .int i => .int i
  | _, .str _, .str x => .str x
  | _, .list ds, .lst _ h r => .lst (ne_of_none h n) h (DXs.un n ds r)
  | _, .tuple ds, .tup _ h r => .tup (ne_of_none h n) h (DXs.un n ds r)
  | _, .dict _, .dct _ h => .dct (ne_of_none h n) h
theorem DXs.un (n : H p = none) : ∀ {vs : List V} (ds : List PyData), DXs b H vs ds → DXs p H vs ds
  | _, [], .nil => .nil
  | _, d :: ds, .cons x r => .cons (DX.un n d x) (DXs.un n ds r)
end
mutual
/-- p is changed, and is not in it -/
theorem DX.both (k : HK.Keep p H H') : ∀ {v : V} (d : PyData), DX b H v d → DX p H v d → DX b H' v d
  | _, .none, .non, _ => .non
  | _, .bool _, .bl x, _ => .bl x
  | _, .int _, .int i, _ => .int i
  | _, .str _, .str x, _ => .str x
  | _, .list ds, .lst n h r, .lst n' h' r' => .lst n (k _ _ n' h) (DXs.both k ds r (by rw [h] at h'; cases h'; exact r'))
  | _, .tuple ds, .tup n h r, .tup n' h' r' => .tup n (k _ _ n' h) (DXs.both k ds r (by rw [h] at h'; cases h'; exact r'))
  | _, .dict _, .dct n h, .dct n' _ => .dct n (k _ _ n' h)
theorem DXs.both (k : HK.Keep p H H') : ∀ {vs : List V} (ds : List PyData), DXs b H vs ds → DXs p H vs ds → DXs b H' vs ds
  | _, [], .nil, _ => .nil
  | _, d :: ds, .cons x r, .cons x' r' => .cons (DX.both k d x x') (DXs.both k ds r r')
end
end
/-- apart from all of S -/
def DA (S : Addr → Prop) (H : Hp) (v : V) (d : PyData) : Prop := ∀ q, S q → DX q H v d
def DAs (S : Addr → Prop) (H : Hp) (vs : List V) (ds : List PyData) : Prop := ∀ q, S q → DXs q H vs ds
section
variable {S : Addr → Prop} {H H' : Hp} {v : V} {vs ws : List V} {d : PyData} {ds es : List PyData} {p : Addr}
theorem DA.same (h : DA S H v d) (s : Same H H') : DA S H' v d := fun q hq => (h q hq).same s
theorem DAs.same (h : DAs S H vs ds) (s : Same H H') : DAs S H' vs ds := fun q hq => (h q hq).same s
theorem DAs.append (h : DAs S H vs ds) (k : DAs S H ws es) : DAs S H (vs ++ ws) (ds ++ es) := fun q hq => (h q hq).append (k q hq)
theorem DAs.snoc (h : DAs S H vs ds) (s : Same H H') (x : DA S H' v d) : DAs S H' (vs ++ [v]) (ds ++ [d]) := fun q hq => (h q hq).snoc s (x q hq)
theorem DAs.one (x : DA S H v d) : DAs S H [v] [d] := fun q hq => .cons (x q hq) .nil
theorem DA.newT (hS : ∀ q, S q → H q ≠ none) (n : H p = none) (h : DAs S H vs ds) : DA S (upd H p (.tup vs)) (.ref p) (.tuple ds) := fun q hq => DX.newT (fun e => hS q hq (e ▸ n)) n (h q hq)
theorem DA.newL (hS : ∀ q, S q → H q ≠ none) (n : H p = none) (h : DAs S H vs ds) : DA S (upd H p (.lst vs)) (.ref p) (.list ds) := fun q hq => DX.newL (fun e => hS q hq (e ▸ n)) n (h q hq)
theorem DA.newD (hS : ∀ q, S q → H q ≠ none) (n : H p = none) : DA S (upd H p (.dK [])) (.ref p) (.dict []) := fun q hq => DX.dct (fun e => hS q hq (e ▸ n)) upd_same
theorem told_same (hS : ∀ q, S q → H q ≠ none) (s : Same H H') : ∀ q, S q → H' q ≠ none := fun q hq => by
  cases e : H q with
  | none => exact absurd e (hS q hq)
  | some o => rw [s _ _ e]; exact fun z => nomatch z
end
theorem flat1 {α : Type} (x : α) : ∀ n : Nat, (List.replicate n [x]).flatten = List.replicate n x
  | 0 => rfl
  | n + 1 => by rw [List.replicate_succ, List.flatten_cons, flat1 x n]; rfl
end HK
namespace K14
open PySem PySem.Spec PyProof.Rows L2 HK
def deepD : Nat → PyData | 0 => .list [] | n + 1 => .list [deepD n]
def dT (f k : Str) (t : Bool) : PyData := .tuple [.str f, .str k, .bool t]
def dsA : List PyData := [.none, .bool true, .bool false, .int 0, .int 1, .int (-1), .int 2, .int (10 ^ (31 : Int).toNat), .str "", .str "a", .str "A", .str "ab", .str "abcdefghi", .str "a b", .str "aaaaaaaa", .tuple [], .list [], .dict []]
def dsB : List PyData := [dT "a" "b" true, dT "b" "a" true, .tuple [.str "a", .str "b", .int 1], dT "a" "a" true, dSt "a" "b" true true]
def dsC : List PyData := [dSt "a" "b" false true, dSt "a" "a" true true, .list [.str "a", .str "b", .bool false], .list (List.replicate 900 .none), deepD 9]
theorem okA : ∀ d ∈ dsA, SX d 1000 12 := by
  intro d hd
  simp only [dsA, List.mem_cons, List.not_mem_nil, or_false] at hd
  rcases hd with rfl | rfl | rfl | rfl | rfl | rfl | rfl | rfl | rfl | rfl | rfl | rfl | rfl | rfl | rfl | rfl | rfl | rfl
  all_goals first | exact (SX.int (by decide +kernel)).mono (by decide) (by decide) | exact SX.by (by decide +kernel)
theorem tri_int : SX (.tuple [.str "a", .str "b", .int 1]) 1000 12 :=
  ((SXs.cons (SX.str (n := 1) (Asc.by (by decide +kernel)) (by decide)) (SXs.cons (SX.str (n := 1) (Asc.by (by decide +kernel)) (by decide)) (SXs.cons ((SX.int (i := 1) (by decide +kernel)).mono (Nat.le_refl _) (Nat.zero_le 0)) SXs.nil))).tuple).mono (by decide) (by decide)
theorem okB : ∀ d ∈ dsB, SX d 1000 12 := by
  intro d hd
  simp only [dsB, List.mem_cons, List.not_mem_nil, or_false] at hd
  rcases hd with rfl | rfl | rfl | rfl | rfl
  all_goals first | exact tri_int | exact SX.by (by decide +kernel)
theorem okC : ∀ d ∈ dsC, SX d 1000 12 := by
  intro d hd
  simp only [dsC, List.mem_cons, List.not_mem_nil, or_false] at hd
  rcases hd with rfl | rfl | rfl | rfl | rfl
  · exact SX.by (by decide +kernel)
  · exact SX.by (by decide +kernel)
  · exact SX.by (by decide +kernel)
  · exact ((SXs.rep 900).list).mono (by decide) (by decide)
  · exact SX.by (by decide +kernel)
structure TxR (mg : Str → Option Value) : Prop where
  n_range : mg "range" = none
section
variable {P : Program} {w : World} {K : PySem.W.Frag} {mg : Str → Option Value} {base : Heap}
def Told (H : Hp) (q : Addr) : Prop := H q ≠ none
def spOdd : Sp := fun vs H Q _ => ∃ (b : Addr), vs = [.ref b] ∧ Bag b H ∧ ∀ v d H', DA (Told H) H' v d → SX d 1000 12 → Bag b H' → Keep b H H' → Q v H'
theorem scOdd : FnScope ["_law_bag_here", "_law_deep", "_law_k", "_law_some"] ["_law_bag_here"] (defScope sOdd) := ⟨rfl, rfl, rfl, by decide +kernel, rfl, by decide +kernel, by decide +kernel⟩
theorem ok_odd {f fT fO : Addr} {fd fdT fdO : FuncData} (F : Fun K "_law_odd_value" "_law_odd_value" sOdd f fd) (T : TxB mg) (R : TxR mg) (gT : mg "_law_take" = some (.ref fT)) (FT : Fun K "_law_take" "_law_take" sTake fT fdT) (bT : Binds K fdT ["_law_bag_here", "_law_many"] [])
    (gO : mg "_law_one" = some (.ref fO)) (FO : Fun K "_law_one" "_law_one" sOne fO fdO) (bO : Binds K fdO ["_law_bag_here", "_law_things"] []) :
    FnOk P w K mg base CX0 3 f fd ["_law_bag_here"] spOdd := by
  have GO : FnOk P w K mg base CX0 2 fO fdO _ spOne := ok_one FO T gT FT bT
  refine F.ok scOdd (fun vs H Q E h => ?_) (fun cdv A outer s H vs Q E hr h => ?_)
  · obtain ⟨b, rfl, _⟩ := h
    rfl
  · obtain ⟨b, rfl, g, k⟩ := h
    have nd := scOdd.nd
    refine ⟨_, (pss_cons (ps_set (i := 1) nd rfl (Or.inl rfl) (pe_lst pa_nil))
    (C8.pss_cut (ps_for PassesOwn.never rfl (pi_range1 (by rfl) R.n_range (pa_cons pe_int pa_nil)) (pg_name (i := 2) nd rfl (Or.inl rfl))
      (pss_one (ps_set (i := 1) nd rfl (Or.inl rfl) (pe_lst (pa_cons (pv 1) pa_nil)))))
    (C8.pss_cut (ps_set (i := 3) nd rfl (Or.inl rfl) (pe_lst (pa_cons pe_non (pa_cons pe_bl (pa_cons pe_bl (pa_cons pe_int (pa_cons pe_int (pa_cons (pe_un un_neg pe_int) (pa_cons pe_int (pa_cons (pe_op op_pow pe_int pe_int) (pa_cons pe_str (pa_cons pe_str (pa_cons pe_str (pa_cons pe_str (pa_cons pe_str (pa_cons pe_str (pa_cons pe_str (pa_cons (pe_tup pa_nil) (pa_cons (pe_lst pa_nil) (pa_cons pe_dnewK pa_nil))))))))))))))))))))
    (C8.pss_cut (ps_set (i := 3) nd rfl (Or.inl rfl) (pe_op op_cat (pv 3) (pe_lst (pa_cons (pe_tup (pa_cons pe_str (pa_cons pe_str (pa_cons pe_bl pa_nil)))) (pa_cons (pe_tup (pa_cons pe_str (pa_cons pe_str (pa_cons pe_bl pa_nil)))) (pa_cons (pe_tup (pa_cons pe_str (pa_cons pe_str (pa_cons pe_int pa_nil)))) (pa_cons (pe_tup (pa_cons pe_str (pa_cons pe_str (pa_cons pe_bl pa_nil)))) (pa_cons (pe_tup (pa_cons (pe_tup (pa_cons pe_str (pa_cons pe_str (pa_cons pe_bl pa_nil)))) (pa_cons pe_bl pa_nil))) pa_nil))))))))
    (C8.pss_cut (ps_set (i := 3) nd rfl (Or.inl rfl) (pe_op op_cat (pv 3) (pe_lst (pa_cons (pe_tup (pa_cons (pe_tup (pa_cons pe_str (pa_cons pe_str (pa_cons pe_bl pa_nil)))) (pa_cons pe_bl pa_nil))) (pa_cons (pe_tup (pa_cons (pe_tup (pa_cons pe_str (pa_cons pe_str (pa_cons pe_bl pa_nil)))) (pa_cons pe_bl pa_nil))) (pa_cons (pe_lst (pa_cons pe_str (pa_cons pe_str (pa_cons pe_bl pa_nil)))) (pa_cons (pe_op op_rep (pe_lst (pa_cons pe_non pa_nil)) pe_int) (pa_cons (pv 1) pa_nil))))))))
    (pss_one (ps_ret (pe_call GO hr rfl gO FO.kp bO .nil pass0 (pa_cons (pv 0) (pa_cons (pv 3) pa_nil)))))))))), ?_⟩
    refine ⟨by show 0 ≤ sizeLine; decide, fun p0 n0 => ?_⟩
    have s0 := Same.new (o := HO.lst []) n0
    have t : ∀ q, Told H q → H q ≠ none := fun q h => h
    refine ⟨fun σ H1 => Bag b H1 ∧ Keep b H H1 ∧ ∃ v vk, DA (Told H) H1 v (deepD 9) ∧ σ = [some (.ref b), some v, vk, none], ?_, ?_⟩
    · refine ⟨9, rfl, by decide, by decide, for_range (n := 9) (fun i σ H1 => Bag b H1 ∧ Keep b H H1 ∧ ∃ v vk, DA (Told H) H1 v (deepD i) ∧ σ = [some (.ref b), some v, vk, none])
        ⟨g.same s0, Keep.of s0, _, _, DA.newL t n0 (fun q _ => .nil), rfl⟩ ?_ (fun σ H1 z => z)⟩
      rintro i σ H1 hi ⟨g1, k1, v, vk, dv, rfl⟩
      refine ⟨_, rfl, by show 1 ≤ sizeLine; decide, fun p n => ?_⟩
      have s1 := Same.new (o := HO.lst [v]) n
      exact ⟨g1.same s1, k1.trans (Keep.of s1), _, _, DA.newL k1.on n (DAs.one dv), rfl⟩
    rintro σ H1 ⟨g1, k1, v, vk, dv, rfl⟩
    refine ⟨fun σ H2 => Bag b H2 ∧ Keep b H H2 ∧ DA (Told H) H2 v (deepD 9) ∧ ∃ p xs, p ≠ b ∧ H2 p = some (.lst xs) ∧ DAs (Told H) H2 xs dsA ∧ σ = [some (.ref b), some v, vk, some (.ref p)], ?_, ?_⟩
    · refine ⟨_, rfl, _, _, rfl, rfl, ⟨by decide, by decide, by decide⟩, by show 0 ≤ sizeLine; decide, fun c1 n1 => ⟨by show 0 ≤ sizeLine; decide, fun c2 n2 => fun c3 n3 => ⟨by show 18 ≤ sizeLine; decide, fun p np => ?_⟩⟩⟩
      have t1 := k1.on
      have s1 := Same.new (o := HO.tup []) n1
      have g2 := g1.same s1
      have t2 := told_same t1 s1
      have s2 := Same.new (o := HO.lst []) n2
      have g3 := g2.same s2
      have t3 := told_same t2 s2
      have s3 := Same.new (o := HO.dK []) n3
      have g4 := g3.same s3
      refine ⟨g4.same (Same.new np), k1.trans (Keep.of (s1.trans (s2.trans (s3.trans (Same.new np))))), dv.same (s1.trans (s2.trans (s3.trans (Same.new np)))), p, _, g4.ne np, upd_same, ?_, rfl⟩
      intro q hq
      refine .cons .non (.cons (.bl _) (.cons (.bl _) (.cons (.int _) (.cons (.int _) (.cons (.int _) (.cons (.int _) (.cons (.int _) (.cons (.str _) (.cons (.str _) (.cons (.str _) (.cons (.str _) (.cons (.str _) (.cons (.str _) (.cons (.str _) (.cons ?_ (.cons ?_ (.cons ?_ .nil)))))))))))))))))
      · exact ((DA.newT (S := Told H) (ds := []) t1 n1 (fun q _ => .nil)).same (s2.trans (s3.trans (Same.new np)))) q hq
      · exact ((DA.newL (S := Told H) (ds := []) t2 n2 (fun q _ => .nil)).same (s3.trans (Same.new np))) q hq
      · exact ((DA.newD (S := Told H) t3 n3).same (Same.new np)) q hq
    rintro σ H2 ⟨g2, k2, dv2, p, xs, npb, hp, hxs, rfl⟩
    have l3 : (3 : Nat) ≤ sizeLine := by decide
    have l2 : (2 : Nat) ≤ sizeLine := by decide
    have l5 : (5 : Nat) ≤ sizeLine := by decide
    have l28 : (28 : Nat) ≤ sizeLine := by decide
    refine ⟨fun σ H3 => Bag b H3 ∧ Keep b H H3 ∧ DA (Told H) H3 v (deepD 9) ∧ ∃ p xs, p ≠ b ∧ H3 p = some (.lst xs) ∧ DAs (Told H) H3 xs (dsA ++ dsB) ∧ σ = [some (.ref b), some v, vk, some (.ref p)], ?_, ?_⟩
    · refine ⟨_, rfl, l3, fun c1 n1 => ⟨l3, fun c2 n2 => ⟨l3, fun c3 n3 => ⟨l3, fun c4 n4 => ⟨l3, fun c5 n5 => ⟨l2, fun c6 n6 => ⟨l5, fun q nq => ?_⟩⟩⟩⟩⟩⟩⟩
      have t2 := k2.on
      have s1 := Same.new (o := HO.tup [.str "a", .str "b", .bl true]) n1
      have t3 := told_same t2 s1
      have s2 := Same.new (o := HO.tup [.str "b", .str "a", .bl true]) n2
      have t4 := told_same t3 s2
      have s3 := Same.new (o := HO.tup [.str "a", .str "b", .int 1]) n3
      have t5 := told_same t4 s3
      have s4 := Same.new (o := HO.tup [.str "a", .str "a", .bl true]) n4
      have t6 := told_same t5 s4
      have s5 := Same.new (o := HO.tup [.str "a", .str "b", .bl true]) n5
      have t7 := told_same t6 s5
      have s6 := Same.new (o := HO.tup [.ref c5, .bl true]) n6
      have s7 := Same.new (o := HO.lst [.ref c1, .ref c2, .ref c3, .ref c4, .ref c6]) nq
      have h1 := DAs.one (DA.newT (S := Told H) (ds := [.str "a", .str "b", .bool true]) t2 n1 (fun _ _ => .cons (.str _) (.cons (.str _) (.cons (.bl _) .nil))))
      have h2 := h1.snoc s2 (DA.newT (ds := [.str "b", .str "a", .bool true]) t3 n2 (fun _ _ => .cons (.str _) (.cons (.str _) (.cons (.bl _) .nil))))
      have h3 := h2.snoc s3 (DA.newT (ds := [.str "a", .str "b", .int 1]) t4 n3 (fun _ _ => .cons (.str _) (.cons (.str _) (.cons (.int _) .nil))))
      have h4 := h3.snoc s4 (DA.newT (ds := [.str "a", .str "a", .bool true]) t5 n4 (fun _ _ => .cons (.str _) (.cons (.str _) (.cons (.bl _) .nil))))
      have i5 := DA.newT (S := Told H) (ds := [.str "a", .str "b", .bool true]) t6 n5 (fun _ _ => .cons (.str _) (.cons (.str _) (.cons (.bl _) .nil)))
      have h5 := h4.snoc (s5.trans s6) (DA.newT (ds := [.tuple [.str "a", .str "b", .bool true], .bool true]) t7 n6 (fun q hq => .cons (i5 q hq) (.cons (.bl true) .nil)))
      have sA := s1.trans (s2.trans (s3.trans (s4.trans (s5.trans (s6.trans s7)))))
      refine ⟨p, q, xs, _, rfl, rfl, sA _ _ hp, upd_same, ?_, fun r nr => ?_⟩
      · have := (hxs b (fun z => (g.ne z) rfl)).len
        have e : dsA.length = 18 := rfl
        show xs.length + 5 ≤ _
        omega
      · have s8 := Same.new (o := HO.lst (xs ++ [.ref c1, .ref c2, .ref c3, .ref c4, .ref c6])) nr
        have sB := sA.trans s8
        exact ⟨g2.same sB, k2.trans (Keep.of sB), dv2.same sB, r, _, (g2.same sA).ne nr, upd_same, (hxs.same sB).append (h5.same (s7.trans s8)), rfl⟩
    rintro σ H3 ⟨g3, k3, dv3, p3, xs3, npb3, hp3, hxs3, rfl⟩
    refine ⟨fun σ H4 => Bag b H4 ∧ Keep b H H4 ∧ ∃ p xs, p ≠ b ∧ H4 p = some (.lst xs) ∧ DAs (Told H) H4 xs ((dsA ++ dsB) ++ dsC) ∧ σ = [some (.ref b), some v, vk, some (.ref p)], ?_, ?_⟩
    · refine ⟨_, rfl, l3, fun c1 n1 => ⟨l2, fun c2 n2 => ⟨l3, fun c3 n3 => ⟨l2, fun c4 n4 => ⟨l3, fun c5 n5 => ⟨by show 1 ≤ sizeLine; decide, fun c6 n6 => ?_⟩⟩⟩⟩⟩⟩
      have t3 := k3.on
      have s1 := Same.new (o := HO.tup [.str "a", .str "b", .bl false]) n1
      have t4 := told_same t3 s1
      have s2 := Same.new (o := HO.tup [.ref c1, .bl true]) n2
      have t5 := told_same t4 s2
      have s3 := Same.new (o := HO.tup [.str "a", .str "a", .bl true]) n3
      have t6 := told_same t5 s3
      have s4 := Same.new (o := HO.tup [.ref c3, .bl true]) n4
      have t7 := told_same t6 s4
      have s5 := Same.new (o := HO.lst [.str "a", .str "b", .bl false]) n5
      have t8 := told_same t7 s5
      have s6 := Same.new (o := HO.lst [.non]) n6
      have t9 := told_same t8 s6
      refine ⟨c6, 900, [.non], rfl, rfl, upd_same, by decide, by decide, by show 1 * 900 ≤ sizeLine; decide, fun c7 n7 => ⟨_, rfl, l5, fun q nq => ?_⟩⟩
      have s7 := Same.new (o := HO.lst (List.replicate (900 : Int).toNat [V.non]).flatten) n7
      have s8 := Same.new (o := HO.lst [.ref c2, .ref c4, .ref c5, .ref c7, v]) nq
      have i1 := DA.newT (S := Told H) (ds := [.str "a", .str "b", .bool false]) t3 n1 (fun _ _ => .cons (.str _) (.cons (.str _) (.cons (.bl _) .nil)))
      have h1 := DAs.one (DA.newT (S := Told H) (ds := [.tuple [.str "a", .str "b", .bool false], .bool true]) t4 n2 (fun q hq => .cons (i1 q hq) (.cons (.bl true) .nil)))
      have i3 := DA.newT (S := Told H) (ds := [.str "a", .str "a", .bool true]) t5 n3 (fun _ _ => .cons (.str _) (.cons (.str _) (.cons (.bl _) .nil)))
      have h2 := h1.snoc (s3.trans s4) (DA.newT (ds := [.tuple [.str "a", .str "a", .bool true], .bool true]) t6 n4 (fun q hq => .cons (i3 q hq) (.cons (.bl true) .nil)))
      have h3 := h2.snoc s5 (DA.newL (ds := [.str "a", .str "b", .bool false]) t7 n5 (fun _ _ => .cons (.str _) (.cons (.str _) (.cons (.bl _) .nil))))
      have r9 : ∀ H9 : Hp, DAs (Told H) H9 (List.replicate (900 : Int).toNat [V.non]).flatten (List.replicate 900 .none) := fun H9 q _ => by
        rw [flat1]
        exact DXs.rep 900
      have h4 := h3.snoc (s6.trans s7) (DA.newL (ds := List.replicate 900 .none) t9 n7 (r9 _))
      have sA := s1.trans (s2.trans (s3.trans (s4.trans (s5.trans (s6.trans s7)))))
      have h5 := h4.append (DAs.one (dv3.same sA))
      have sB := sA.trans s8
      refine ⟨p3, q, xs3, _, rfl, rfl, sB _ _ hp3, upd_same, ?_, fun r nr => ?_⟩
      · have := (hxs3 b (fun z => (g.ne z) rfl)).len
        have e : (dsA ++ dsB).length = 23 := rfl
        show xs3.length + 5 ≤ _
        omega
      · have s9 := Same.new (o := HO.lst (xs3 ++ [.ref c2, .ref c4, .ref c5, .ref c7, v])) nr
        have sC := sB.trans s9
        exact ⟨g3.same sC, k3.trans (Keep.of sC), r, _, (g3.same sB).ne nr, upd_same, (hxs3.same sC).append (h5.same (s8.trans s9)), rfl⟩
    rintro σ H4 ⟨g4, k4, p4, xs4, npb4, hp4, hxs4, rfl⟩
    have hb : Told H b := fun z => (g.ne z) rfl
    have len : xs4.length = 28 := (hxs4 b hb).len
    refine ⟨_, rfl, _, rfl, b, p4, xs4, rfl, g4, npb4, hp4, by omega, by omega, fun i x H5 hi g5 k5 => ?_⟩
    obtain ⟨d, hd, _⟩ := (hxs4 b hb).get hi
    refine k x d H5 (fun q hq => ?_) ?_ g5 (k4.trans k5)
    · obtain ⟨d', hd', dx⟩ := (hxs4 q hq).get hi
      rw [hd] at hd'
      cases hd'
      obtain ⟨db, hdb, dxb⟩ := (hxs4 b hb).get hi
      rw [hd] at hdb
      cases hdb
      exact DX.both k5.k d dx dxb
    rcases List.mem_append.mp (List.mem_of_getElem? hd) with z | z
    · rcases List.mem_append.mp z with z | z
      · exact okA d z
      · exact okB d z
    · exact okC d z
end
end K14

namespace HK
open PySem PySem.Spec PyProof.Rows L2
def isSeq : PyData → Bool | .list _ => true | .tuple _ => true | _ => false
theorem kit_seq {K : PySem.W.Frag} (d : PyData) : PySem.W.kitAny K (.type (tyN d)) [.type "list", .type "tuple"] = some (isSeq d) := by
  refine kitAny_cons (kit_ty (kit_lst d)) (fun h => kitAny_cons (kit_ty (kit_tup d)) (fun h2 => ?_) (fun h2 => ?_)) (fun h => ?_)
  · cases d <;> first | rfl | (cases h; done) | (cases h2; done)
  · cases d <;> first | rfl | (cases h2; done)
  · cases d <;> first | rfl | (cases h; done)
theorem DX.seqI {b : Addr} {H : Hp} {v : V} {d : PyData} (h : DX b H v d) (e : isSeq d = true) : ∃ a xs ds, v = .ref a ∧ a ≠ b ∧ (H a = some (.lst xs) ∧ d = .list ds ∨ H a = some (.tup xs) ∧ d = .tuple ds) ∧ DXs b H xs ds := by
  cases d with
  | list ds =>
    obtain ⟨a, xs, rfl, n, e, r⟩ := h.lstI
    exact ⟨a, xs, ds, rfl, n, .inl ⟨e, rfl⟩, r⟩
  | tuple ds =>
    obtain ⟨a, xs, rfl, n, e, r⟩ := h.tupI
    exact ⟨a, xs, ds, rfl, n, .inr ⟨e, rfl⟩, r⟩
  | _ => cases e
section
variable {S : Addr → Prop} {b : Addr} {H H' : Hp} {v : V} {vs : List V} {d : PyData} {ds : List PyData}
theorem DXs.erase : ∀ {vs : List V} {ds : List PyData} (n : Nat), DXs b H vs ds → DXs b H (vs.eraseIdx n) (ds.eraseIdx n)
  | _, _, _, .nil => .nil
  | _, _, 0, .cons _ t => t
  | _, _, n + 1, .cons r t => .cons r (DXs.erase n t)
theorem DA.kept (h : DA S H v d) (hb : S b) (k : HK.Keep b H H') : DA S H' v d := fun q hq => DX.both k d (h q hq) (h b hb)
theorem DAs.kept (h : DAs S H vs ds) (hb : S b) (k : HK.Keep b H H') : DAs S H' vs ds := fun q hq => DXs.both k ds (h q hq) (h b hb)
theorem keep_at {o : HO} : HK.Keep b H (upd H b o) := fun c u n e => by rw [upd_ne n]; exact e
end
theorem ixN_at {n i : Nat} (h : i < n) : ixN n (i : Int) = some i := by
  unfold ixN
  rw [if_pos (by omega), if_pos (by omega)]
  simp
theorem SXs.len {ds : List PyData} {n m : Nat} (h : SXs ds n m) : ds.length ≤ n := by
  have : ∀ l : List PyData, l.length ≤ (l.map fun d => d.weight + 1).sum := fun l => by
    induction l with
    | nil => exact Nat.le_refl _
    | cons d l ih =>
      simp only [List.length_cons, List.map_cons, List.sum_cons]
      omega
  exact Nat.le_trans (this ds) h.w
theorem SXs.setOf {ds : List PyData} {W j M i : Nat} {e d' : PyData} (h : SXs ds W j) (hi : ds[i]? = some e) (h' : SX d' (2 * e.weight + 1100) M) (jm : j ≤ M) : SXs (ds.set i d') (2 * W + 1100) M := by
  refine ⟨fun d hd => ?_, ?_⟩
  · rcases List.mem_or_eq_of_mem_set hd with z | rfl
    · obtain ⟨a, b, c, q⟩ := h.each d z
      exact ⟨a, b, c, Nat.le_trans q jm⟩
    · exact ⟨h'.asc, h'.sh, h'.ok, h'.dp⟩
  · have a := sum_set_of (d := d') hi
    have b := sum_le_mem (List.mem_of_getElem? hi)
    have c := h.w
    have e := h'.w
    omega
theorem DX.elems {q a : Addr} {H : Hp} {d : PyData} {xs : List V} {ds : List PyData} (h : DX q H (.ref a) d) (z : H a = some (.lst xs) ∧ d = .list ds ∨ H a = some (.tup xs) ∧ d = .tuple ds) : DXs q H xs ds := by
  rcases z with ⟨e, rfl⟩ | ⟨e, rfl⟩
  · obtain ⟨a', xs', ea, n, e', r⟩ := h.lstI
    cases ea
    rw [e] at e'
    cases e'
    exact r
  · obtain ⟨a', xs', ea, n, e', r⟩ := h.tupI
    cases ea
    rw [e] at e'
    cases e'
    exact r
end HK
namespace K14
open PySem PySem.Spec PyProof.Rows L2 HK
theorem DXs.cut {b : Addr} {H : Hp} {xs : List V} {ds : List PyData} {lo hi : Option Int} (h : DXs b H xs ds) : DXs b H (cutV xs lo hi) (cutG ds lo hi) := by
  unfold cutV cutG
  rw [h.len]
  exact (h.drop _).take _
theorem cutG_sub {ds : List PyData} {lo hi : Option Int} : (cutG ds lo hi).Sublist ds := (List.take_sublist _ _).trans (List.drop_sublist _ _)
section
variable {P : Program} {w : World} {K : PySem.W.Frag} {mg : Str → Option Value} {base : Heap}
theorem cut_le {α : Type} {xs : List α} {lo hi : Option Int} : (cutG xs lo hi).length ≤ xs.length := by
  unfold cutG
  rw [List.length_take, List.length_drop]
  omega
def spB : Nat → Sp
  | 0 => fun _ _ _ _ => False
  | n + 1 => fun vs H Q _ => ∃ (b : Addr) (x : V) (d : PyData) (W : Nat), vs = [.ref b, x] ∧ Bag b H ∧ DX b H x d ∧ SX d W n ∧ W ≤ 100000 ∧
    ∀ v d' H', SX d' (2 * W + 1100) (n + 13) → Bag b H' → Keep b H H' → (∀ q, Told H q → DX q H x d → DX q H' v d') → Q v H'
theorem scBent : FnScope ["_law_bag_here", "_law_thing", "_law_way", "_law_found", "_law_at"] ["_law_bag_here", "_law_thing"] (defScope sBent) := ⟨rfl, rfl, rfl, by decide +kernel, rfl, by decide +kernel, by decide +kernel⟩
structure TxN (K : PySem.W.Frag) (mg : Str → Option Value) : Prop where
  b : TxB mg
  j : TxJ mg
  r : TxR mg
theorem bent_step {n : Nat} {f fT fO : Addr} {fd fdT fdO : FuncData} (F : Fun K "_law_bent" "_law_bent" sBent f fd) (T : TxN K mg) (gT : mg "_law_take" = some (.ref fT)) (FT : Fun K "_law_take" "_law_take" sTake fT fdT) (bT : Binds K fdT ["_law_bag_here", "_law_many"] [])
    (gO : mg "_law_odd_value" = some (.ref fO)) (FO : Fun K "_law_odd_value" "_law_odd_value" sOdd fO fdO) (bO : Binds K fdO ["_law_bag_here"] []) (GO : FnOk P w K mg base CX0 3 fO fdO ["_law_bag_here"] spOdd)
    (gB : mg "_law_bent" = some (.ref f)) (bB : Binds K fd ["_law_bag_here", "_law_thing"] []) (GB : FnOk P w K mg base CX0 (3 + n) f fd ["_law_bag_here", "_law_thing"] (spB n)) :
    FnOk P w K mg base CX0 (3 + n + 1) f fd ["_law_bag_here", "_law_thing"] (spB (n + 1)) := by
  have GT : FnOk P w K mg base CX0 1 fT fdT _ spTake := ok_take FT T.b
  refine F.ok scBent (fun vs H Q E h => ?_) (fun cdv A outer s H vs Q E hr h => ?_)
  · obtain ⟨b, x, d, W, rfl, _⟩ := h
    rfl
  · obtain ⟨b, x, d, W, rfl, g, hx, hs, hW, k⟩ := h
    have nd := scBent.nd
    have hr1 : Room 1 _ := hr.mono (by omega)
    have hr3 : Room 3 _ := hr.mono (by omega)
    refine ⟨_, (pss_cons (ps_set (i := 2) nd rfl (Or.inl rfl) (pe_call GT hr1 rfl gT FT.kp bT .nil pass0 (pa_cons (pv 0) (pa_cons pe_int pa_nil))))
    (pss_cons (ps_if (PW.pt (pw_or (pt_cmpR op_eq (pv 2) pe_int (nomark _)) (pw_or (pt_not (pt_val (pe_callB call_isiT (by rfl) T.j.n_isi (by decide +kernel) (pa_cons (pv 1) (pa_cons (pe_tup (pa_cons (pe_bltn (v := .ty "list") (by rfl) (T.j.n_ty "list" (by simp)) (by decide +kernel) rfl) (pa_cons (pe_bltn (v := .ty "tuple") (by rfl) (T.j.n_ty "tuple" (by simp)) (by decide +kernel) rfl) pa_nil))) pa_nil)))))
        (pw_or1 (pt_cmpR op_eq (pe_callB call_len_seq (by rfl) T.b.n_len (by decide +kernel) (pa_cons (pv 1) pa_nil)) pe_int (nomark _))))))
      (pss_one (ps_ret (pe_call GO hr3 rfl gO FO.kp bO .nil pass0 (pa_cons (pv 0) pa_nil))))
       pss_nil)
    (pss_cons (ps_par (i := 3) (j := 4) (by rfl) nd rfl rfl (by decide) rfl rfl (pa_cons (pe_callTy call_list_of (by rfl) (T.j.n_ty "list" (by simp)) (by decide +kernel) (pa_cons (pv 1) pa_nil)) (pa_cons (pe_call GT hr1 rfl gT FT.kp bT .nil pass0 (pa_cons (pv 0) (pa_cons (pe_callB call_len_seq (by rfl) T.b.n_len (by decide +kernel) (pa_cons (pv 1) pa_nil)) pa_nil))) pa_nil)) (by rfl))
    (C8.pss_cut (ps_if (pt_cmpR op_lt (pv 2) pe_int (nomark _))
      (pss_one (ps_asg (pe_call GB hr rfl gB F.kp bB .nil pass0 (pa_cons (pv 0) (pa_cons (pe_ix ix_list (pv 3) (pv 4) (fun _ _ => rfl)) pa_nil))) (pg_sub (pv 3) (pv 4) set_list)))
       pss_nil)
    (C8.pss_cut (ps_if (pt_cmpR op_eq (pv 2) pe_int (nomark _))
      (pss_one (ps_expr (pe_bm PySem.F.plainAttrs_list PySem.F.slot_list_insert PySem.F.type_list_insert mt_insert (pv 3) (pa_cons (pe_op op_add (pv 4) (pe_call GT hr1 rfl gT FT.kp bT .nil pass0 (pa_cons (pv 0) (pa_cons pe_int pa_nil)))) (pa_cons (pe_call GO hr3 rfl gO FO.kp bO .nil pass0 (pa_cons (pv 0) pa_nil)) pa_nil)))))
       pss_nil)
    (C8.pss_cut (ps_if (pt_cmpR op_eq (pv 2) pe_int (nomark _))
      (pss_one (ps_expr (pe_bm PySem.F.plainAttrs_list PySem.F.slot_list_pop PySem.F.type_list_pop mt_popAt (pv 3) (pa_cons (pv 4) pa_nil))))
       pss_nil)
    (C8.pss_cut (ps_if (pt_cmpR op_eq (pv 2) pe_int (nomark _))
      (pss_one (ps_set (i := 3) nd rfl (Or.inl rfl) (pe_op op_cat (pv 3) (pe_slice sl_list (pv 3) (po_some (pv 4)) (po_some (pe_op op_add (pv 4) pe_int))))))
       pss_nil)
    (pss_cons (ps_if (pt_cmpR op_eq (pe_call GT hr1 rfl gT FT.kp bT .nil pass0 (pa_cons (pv 0) (pa_cons pe_int pa_nil))) pe_int (nomark _))
      (pss_one (ps_ret (pe_ifExp (pt_val (pe_callB call_isi (by rfl) T.j.n_isi (by decide +kernel) (pa_cons (pv 1) (pa_cons (pe_bltn (v := .ty "list") (by rfl) (T.j.n_ty "list" (by simp)) (by decide +kernel) rfl) pa_nil)))) (pe_callTy call_tuple_of (by rfl) (T.j.n_ty "tuple" (by simp)) (by decide +kernel) (pa_cons (pv 3) pa_nil)) (pv 3))))
       pss_nil)
    (pss_one (ps_ret (pe_ifExp (pt_val (pe_callB call_isi (by rfl) T.j.n_isi (by decide +kernel) (pa_cons (pv 1) (pa_cons (pe_bltn (v := .ty "list") (by rfl) (T.j.n_ty "list" (by simp)) (by decide +kernel) rfl) pa_nil)))) (pv 3) (pe_callTy call_tuple_of (by rfl) (T.j.n_ty "tuple" (by simp)) (by decide +kernel) (pa_cons (pv 3) pa_nil))))))))))))), ?_⟩
    have hb : Told H b := fun z => (g.ne z) rfl
    have odd : ∀ (H1 : Hp), Keep b H H1 → ∀ v d' H2, DA (Told H1) H2 v d' → SX d' 1000 12 → Bag b H2 → Keep b H1 H2 → Q v H2 :=
      fun H1 k1 v d' H2 da s1 g2 k2 => k v d' H2 (s1.mono (by omega) (by omega)) g2 (k1.trans k2) fun q hq _ => da q (k1.on q hq)
    refine ⟨_, rfl, b, 8, rfl, g, by decide, by decide, fun way H1 w0 w1 g1 k1 => ?_⟩
    refine ⟨_, rfl, rfl, _, rfl, ?_⟩
    refine ite2 (fun z => ?_) (fun z => ?_)
    · exact iteT ⟨_, rfl, b, rfl, g1, odd H1 k1⟩
    refine ⟨_, rfl, by show 2 ≤ sizeLine; decide, fun tp ntp => ?_⟩
    have s1 := Same.new (o := HO.tup [.ty "list", .ty "tuple"]) ntp
    have k1' := k1.trans (Keep.of s1)
    have g1' := g1.same s1
    refine ⟨x, tp, [.ty "list", .ty "tuple"], _, _, _, rfl, upd_same, .cons (.ty _) (.cons (.ty _) .nil), (hx.kept k1'.k).ty, kit_seq d, isSeq d, rfl, ?_⟩
    cases h1 : isSeq d with
    | false => exact iteT (iteT ⟨_, rfl, b, rfl, g1', odd _ k1'⟩)
    | true =>
      obtain ⟨a, xs, ds, rfl, na, hsq, hxs⟩ := hx.seqI h1
      have sq : ∀ H', Keep b H H' → (SqL K H' a xs ∨ SqT K H' a xs) := fun H' kk => hsq.imp (fun e => SqL.of (kk _ _ na e.1)) (fun e => SqT.of (kk _ _ na e.1))
      have lx := hxs.len
      have hit : 1 ≤ n ∧ SXs ds W (n - 1) := SX.items (hsq.imp (fun e => by rw [e.2] at hs; exact hs) (fun e => by rw [e.2] at hs; exact hs))
      obtain ⟨n1, sds⟩ := hit
      have ld := sds.len
      have line : (1000000 : Nat) ≤ sizeLine := by decide
      refine iteF ⟨_, rfl, a, xs, rfl, sq _ k1', rfl, _, rfl, ?_⟩
      refine ite2 (fun z2 => ?_) (fun z2 => ?_)
      · exact ⟨_, rfl, b, rfl, g1', odd _ k1'⟩
      have l1 : 1 ≤ xs.length := by
        rcases Nat.eq_zero_or_pos xs.length with e | e
        · rw [e] at z2
          exact absurd (decide_eq_true rfl) z2
        · exact e
      refine ⟨_, rfl, a, xs, rfl, sq _ k1', fun l nl => ?_⟩
      have s2 := Same.new (o := HO.lst xs) nl
      have k2 := k1'.trans (Keep.of s2)
      have nlb : l ≠ b := g1'.ne nl
      have hHl : H l = none := k1'.free nlb nl
      refine ⟨_, rfl, _, rfl, a, xs, rfl, sq _ k2, b, _, rfl, g1'.same s2, by omega, by omega, fun at_ H3 a0 a1 g3 k23 => ⟨_, _, rfl, ?_⟩⟩
      obtain ⟨i, rfl⟩ := Int.eq_ofNat_of_zero_le a0
      have hi : i < xs.length := by omega
      have k3 := k2.trans k23
      have hl3 : H3 l = some (.lst xs) := k23 _ _ nlb upd_same
      let S : Addr → Prop := fun q => (Told H q ∧ DX q H (.ref a) d) ∨ q = l
      have Sb : S b := .inl ⟨hb, hx⟩
      have Sl : S l := .inr rfl
      have e0 : DAs S H xs ds := fun q hq => by
        rcases hq with hq | rfl
        · exact DX.elems hq.2 hsq
        · exact DXs.un hHl ds hxs
      have e3 : DAs S H3 xs ds := e0.kept Sb k3.k
      have told3 : ∀ q, S q → H3 q ≠ none := fun q hq => by
        rcases hq with hq | rfl
        · exact k3.on q hq.1
        · rw [hl3]; exact fun z => nomatch z
      let J : Int → L2.St → Hp → Prop := fun t σ H' => ∃ l' ys es, σ = [some (.ref b), some (.ref a), some (.int way), some (.ref l'), some (.int (i : Int))] ∧ Bag b H' ∧ Keep b H H' ∧ H l' = none ∧ H' l' = some (.lst ys) ∧ DAs S H' ys es ∧ SXs es (2 * W + 1100) (n + 12) ∧
        (t ≤ way → l' = l ∧ ys.length = xs.length ∧ SXs es W (n - 1) ∧ ∀ q, S q → H' q ≠ none)
      refine ⟨J 5, ?_, ?_⟩
      · refine ⟨_, rfl, _, _, rfl, rfl, _, rfl, ?_⟩
        refine ite2 (fun z3 => ?_) (fun z3 => ?_)
        · have z3' := of_decide_eq_true z3
          obtain ⟨di, hdi, dxi⟩ := (e3 b Sb).get (List.getElem?_eq_getElem hi)
          have ei : DA S H3 xs[i] di := fun q hq => by
            obtain ⟨d', h', x'⟩ := (e3 q hq).get (List.getElem?_eq_getElem hi)
            rw [hdi] at h'
            cases h'
            exact x'
          have si := sds.get (List.mem_of_getElem? hdi)
          obtain ⟨m, rfl⟩ : ∃ m, n = m + 1 := ⟨n - 1, by omega⟩
          refine ⟨_, rfl, _, rfl, _, rfl, l, _, _, _, rfl, rfl, SqL.of hl3, atI_nat (List.getElem?_eq_getElem hi), ?_⟩
          refine ⟨b, _, di, di.weight, rfl, g3, dxi, ⟨si.asc, si.sh, si.ok, Nat.le_refl _, si.dp⟩, by have := si.w; omega, fun v d' H4 s4 g4 k4 dq => ?_⟩
          refine ⟨_, rfl, _, rfl, l, xs, i, i, rfl, rfl, k4 _ _ nlb hl3, ixN_at hi, ?_⟩
          have e4 := e3.kept Sb k4.k
          have ev : DA S H4 v d' := fun q hq => dq q (told3 q hq) (ei q hq)
          have e5 : DAs S H4 (xs.set i v) (ds.set i d') := fun q hq => DXs.set (ev q hq) i (e4 q hq)
          exact ⟨l, _, _, rfl, (k3.trans k4).bag g hHl, (k3.trans k4).newer hHl, hHl, upd_same, e5.kept Sl keep_at, sds.setOf hdi (s4.mono (Nat.le_refl _) (by omega)) (by omega), fun h5 => absurd h5 (by omega)⟩
        · exact ⟨l, xs, ds, rfl, g3, k3, hHl, hl3, e3, sds.mono (by omega) (by omega), fun _ => ⟨rfl, rfl, sds, told3⟩⟩
      rintro σ H4 ⟨l', ys, es, rfl, g4, k4, n4, h4, e4, s4, orig⟩
      refine ⟨J 6, ?_, ?_⟩
      · refine ⟨_, rfl, rfl, _, rfl, ?_⟩
        refine ite2 (fun z3 => ?_) (fun _ => ⟨l', ys, es, rfl, g4, k4, n4, h4, e4, s4, fun h6 => orig (by omega)⟩)
        have zw : way = 5 := V.int.inj (of_decide_eq_true z3)
        obtain ⟨el, ly, sds', told4⟩ := orig (by omega)
        rw [el] at h4
        rw [el]
        refine ⟨_, rfl, .inl ⟨rfl, _, SqL.of h4⟩, _, rfl, _, rfl, b, 2, rfl, g4, by decide, by decide, fun r H5 r0 r1 g5 k5 => ⟨_, _, rfl, rfl, _, rfl, b, rfl, g5, fun v d' H6 da s6 g6 k6 => ?_⟩⟩
        have h6 := (k5.trans k6) _ _ nlb h4
        refine ⟨l, ys, (i : Int) + r, v, rfl, rfl, h6, by omega, by omega, ?_, ?_⟩
        · have : (2 : Int) ^ 63 = 9223372036854775808 := by decide
          omega
        have e6 := (e4.kept Sb k5.k).kept Sb k6.k
        have ev : DA S H6 v d' := fun q hq => da q (k5.on q (told4 q hq))
        have e7 : DAs S H6 (ys.take ((i : Int) + r).toNat ++ [v] ++ ys.drop ((i : Int) + r).toNat) (es.take ((i : Int) + r).toNat ++ [d'] ++ es.drop ((i : Int) + r).toNat) :=
          fun q hq => (((e6 q hq).take _).append (.cons (ev q hq) .nil)).append ((e6 q hq).drop _)
        have k46 := k4.trans (k5.trans k6)
        refine ⟨l, _, _, rfl, k46.bag g hHl, k46.newer hHl, hHl, upd_same, e7.kept Sl keep_at, ?_, fun h6 => absurd h6 (by omega)⟩
        exact ((((sds'.sub (List.take_sublist _ _)).mono (Nat.le_refl _) (by omega)).append (SXs.cons (s6.mono (Nat.le_refl _) (by omega)) (SXs.nil (m := n + 12)))).append ((sds'.sub (List.drop_sublist _ _)).mono (Nat.le_refl _) (by omega))).mono (by omega) (Nat.le_refl _)
      rintro σ H5 ⟨l', ys, es, rfl, g5, k5, n5, h5, e5, s5, orig⟩
      refine ⟨J 7, ?_, ?_⟩
      · refine ⟨_, rfl, rfl, _, rfl, ?_⟩
        refine ite2 (fun z3 => ?_) (fun _ => ⟨l', ys, es, rfl, g5, k5, n5, h5, e5, s5, fun h6 => orig (by omega)⟩)
        have zw : way = 6 := V.int.inj (of_decide_eq_true z3)
        obtain ⟨el, ly, sds', told5⟩ := orig (by omega)
        rw [el] at h5
        rw [el]
        have hiy : i < ys.length := by omega
        refine ⟨_, rfl, .inl ⟨rfl, _, SqL.of h5⟩, _, rfl, l, ys, i, i, _, rfl, rfl, h5, ?_, ?_, seqIndex_of (by omega) (by omega), List.getElem?_eq_getElem hiy, ?_⟩
        · have : (2 : Int) ^ 63 = 9223372036854775808 := by decide
          omega
        · have : (2 : Int) ^ 63 = 9223372036854775808 := by decide
          omega
        have e6 : DAs S H5 (ys.eraseIdx i) (es.eraseIdx i) := fun q hq => (e5 q hq).erase i
        exact ⟨l, _, _, rfl, k5.bag g hHl, k5.newer hHl, hHl, upd_same, e6.kept Sl keep_at, (sds'.sub (List.eraseIdx_sublist _ _)).mono (by omega) (by omega), fun h6 => absurd h6 (by omega)⟩
      rintro σ H6 ⟨l', ys, es, rfl, g6, k6, n6, h6, e6, s6, orig⟩
      refine ⟨J 8, ?_, ?_⟩
      · refine ⟨_, rfl, rfl, _, rfl, ?_⟩
        refine ite2 (fun z3 => ?_) (fun _ => ⟨l', ys, es, rfl, g6, k6, n6, h6, e6, s6, fun h7 => orig (by omega)⟩)
        have zw : way = 7 := V.int.inj (of_decide_eq_true z3)
        obtain ⟨el, ly, sds', told6⟩ := orig (by omega)
        rw [el] at h6
        rw [el]
        refine ⟨_, rfl, _, rfl, _, rfl, (i : Int), rfl, _, rfl, _, _, rfl, rfl, _, rfl, l, ys, rfl, SqL.of h6, fun q nq => ?_⟩
        have t1 := Same.new (o := HO.lst (cutV ys (some (i : Int)) (some ((i : Int) + 1)))) nq
        have lc : (cutV ys (some (i : Int)) (some ((i : Int) + 1))).length ≤ ys.length := cut_le
        refine ⟨l, q, ys, _, rfl, rfl, t1 _ _ h6, upd_same, by omega, fun r nr => ?_⟩
        have t2 := Same.new (o := HO.lst (ys ++ cutV ys (some (i : Int)) (some ((i : Int) + 1)))) nr
        have k68 := k6.trans (Keep.of (t1.trans t2))
        have nrb : r ≠ b := (g6.same t1).ne nr
        have e7 : DAs S H6 (ys ++ cutV ys (some (i : Int)) (some ((i : Int) + 1))) (es ++ cutG es (some (i : Int)) (some ((i : Int) + 1))) := fun q hq => (e6 q hq).append (DXs.cut (e6 q hq))
        exact ⟨r, _, _, rfl, g6.same (t1.trans t2), k68, (k6.trans (Keep.of t1)).free nrb nr, upd_same, e7.same (t1.trans t2), (sds'.append (sds'.sub cutG_sub)).mono (by omega) (by omega), fun h8 => absurd h8 (by omega)⟩
      rintro σ H8 ⟨l', ys, es, rfl, g8, k8, n8, h8, e8, s8, _⟩
      refine ⟨_, rfl, b, 6, rfl, g8, by decide, by decide, fun r H9 r0 r1 g9 k9 => ⟨rfl, _, rfl, ?_⟩⟩
      have nl'b : l' ≠ b := fun e => hb (e ▸ n8)
      have h9 := k9 _ _ nl'b h8
      have k19 := k8.trans k9
      have e9 := e8.kept Sb k9.k
      have retL : Q (.ref l') H9 := k (.ref l') (.list es) H9 s8.list g9 k19 fun q hq hd => .lst (fun e => hq (e ▸ n8)) h9 (e9 q (.inl ⟨hq, hd⟩))
      have retT : ∀ p, H9 p = none → Q (.ref p) (upd H9 p (.tup ys)) := fun p np =>
        k (.ref p) (.tuple es) _ s8.tuple (g9.same (Same.new np)) (k19.trans (Keep.of (Same.new np))) fun q hq hd => DX.newT (fun e => k19.on q hq (e ▸ np)) np (e9 q (.inl ⟨hq, hd⟩))
      refine ite2 (fun _ => ?_) (fun _ => ?_)
      · refine ⟨_, rfl, .ref a, .ty "list", _, _, _, rfl, .ty _, (hx.kept k19.k).ty, kit_ty (kit_lst d), isLst d, rfl, ?_⟩
        cases isLst d with
        | true => exact iteT ⟨_, rfl, l', ys, rfl, .inl ⟨SqL.of h9, retT⟩⟩
        | false => exact iteF ⟨_, rfl, retL⟩
      · refine ⟨_, rfl, .ref a, .ty "list", _, _, _, rfl, .ty _, (hx.kept k19.k).ty, kit_ty (kit_lst d), isLst d, rfl, ?_⟩
        cases isLst d with
        | true => exact iteT ⟨_, rfl, retL⟩
        | false => exact iteF ⟨_, rfl, l', ys, rfl, .inl ⟨SqL.of h9, retT⟩⟩
end
end K14

namespace HK
open PySem PySem.Spec PyProof.Rows L2
/-! ### a list of anything beside the empty list -/
theorem op_eqE {X : Cx} (hu : X.A.units + 64 < cLine) : OpR X (compareOp .Eq) (fun x y H Q => ∃ a b xs, x = .ref a ∧ y = .ref b ∧ H a = some (.lst xs) ∧ H b = some (.lst []) ∧ Q (.bl xs.isEmpty) H) := by
  intro pins s σ H x y v u Q I rx ry h
  obtain ⟨a, b, xs, rfl, rfl, ha, hb, q⟩ := h
  cases rx
  cases ry
  obtain ⟨its, r, pa, _⟩ := I.list (SqL.of ha)
  obtain ⟨ib, r2, pb, _⟩ := I.list (SqL.of hb)
  cases r2
  cases r with
  | nil => exact SeqAt.eq_listAt (e := fun _ => true) pa.isList pb.isList rfl (by omega) (fun j h1 _ => absurd h1 (by simp)) ⟨.bl _, H, I, rfl, q⟩
  | cons r rs => exact SeqAt.eq_list_lengthsAt pa.isList pb.isList (by simp) (by omega) ⟨.bl _, H, I, rfl, q⟩
theorem op_neE {X : Cx} (hu : X.A.units + 64 < cLine) : OpR X (compareOp .NotEq) (fun x y H Q => ∃ a b xs, x = .ref a ∧ y = .ref b ∧ H a = some (.lst xs) ∧ H b = some (.lst []) ∧ Q (.bl (!xs.isEmpty)) H) := by
  intro pins s σ H x y v u Q I rx ry h
  obtain ⟨a, b, xs, rfl, rfl, ha, hb, q⟩ := h
  cases rx
  cases ry
  obtain ⟨its, r, pa, _⟩ := I.list (SqL.of ha)
  obtain ⟨ib, r2, pb, _⟩ := I.list (SqL.of hb)
  cases r2
  cases r with
  | nil => exact SeqAt.RcNeAt.lists (e := fun _ => true) pa.isList pb.isList rfl (by omega) (fun j h1 _ => absurd h1 (by simp)) X.prog X.w X.xe _ ⟨.bl _, H, I, rfl, q⟩
  | cons r rs => exact SeqAt.RcNeAt.lists_lengths pa.isList pb.isList (by simp) (by omega) X.prog X.w X.xe _ ⟨.bl _, H, I, rfl, q⟩
/-- a comprehension over zip of two lists, the second no longer than the first -/
theorem lc_zip {K : PySem.W.Frag} {a c : Addr} {xs ys : List V} {g : TG} {tt : TT} {te : TE} {vs : List Nat} {σ : L2.St} {H1 : Hp} {D : Addr} {Qd : Hp → Prop} (hl : ys.length ≤ xs.length) (Pv : Nat → Hp → Prop) (h0 : Pv 0 (upd H1 D (.lst [])))
    (hq : ∀ i H, Pv i H → SqL K H a xs ∧ SqL K H c ys)
    (hs : ∀ i x y T H, xs[i]? = some x → ys[i]? = some y → Pv i H → H T = none → g (.ref T) (wipe σ vs) (upd H T (.tup [x, y])) fun σ2 H2 => wipe σ2 vs = wipe σ vs ∧ tt σ2 H2 fun b H3 =>
      if b = true then te σ2 H3 fun y H4 => ∃ acc, H4 D = some (.lst acc) ∧ acc.length < sizeLine ∧ Pv (i + 1) (upd H4 D (.lst (acc ++ [y]))) else Pv (i + 1) H3) (hd : ∀ H, Pv ys.length H → Qd H) :
    ∃ W : Nat → Nat → Hp → Prop, (∃ m, W 0 m (upd H1 D (.lst []))) ∧ ∀ i m H, W i m H →
      ((Itz K a c).stop i H ∧ Qd H) ∨ ((Itz K a c).go i H ∧ ∃ Nx : Hp → Prop, (∀ H', Nx H' → ∃ m', m' < m ∧ W (i + 1) m' H') ∧ ∀ v H', (Itz K a c).yld i H v H' → g v (wipe σ vs) H' fun σ2 H2 => wipe σ2 vs = wipe σ vs ∧ tt σ2 H2 fun b H3 =>
        if b = true then te σ2 H3 fun y H4 => ∃ acc, H4 D = some (.lst acc) ∧ acc.length < sizeLine ∧ Nx (upd H4 D (.lst (acc ++ [y]))) else Nx H3) := by
  refine ⟨fun i m H => m = ys.length - i ∧ i ≤ ys.length ∧ Pv i H, ⟨ys.length, rfl, Nat.zero_le _, h0⟩, ?_⟩
  rintro i m H ⟨rfl, hi, p⟩
  obtain ⟨qx, qy⟩ := hq i H p
  by_cases hlt : i < ys.length
  · have hx : xs[i]? = some (xs[i]'(by omega)) := List.getElem?_eq_getElem (by omega)
    have hy : ys[i]? = some ys[i] := List.getElem?_eq_getElem hlt
    refine .inr ⟨⟨xs, ys, _, _, qx, qy, hx, hy⟩, Pv (i + 1), fun H' p' => ⟨ys.length - (i + 1), by omega, rfl, hlt, p'⟩, fun v H' y => ?_⟩
    obtain ⟨T, x', y', rfl, hT, rfl, f1, f2⟩ := y
    exact hs i x' y' T H (f1 xs qx) (f2 ys qy) p hT
  · have e : i = ys.length := by omega
    subst e
    exact .inl ⟨⟨xs, ys, qx, qy, Or.inr (Nat.le_refl _)⟩, hd H p⟩
/-! ### neighbours -/
def nth (ds : List PyData) (i : Nat) : PyData := (ds[i]?).getD .none
def chainTo (g : PyData → PyData → Bool) (ds : List PyData) (n : Nat) : Bool := (List.range n).all fun i => g (nth ds i) (nth ds (i + 1))
def chain (g : PyData → PyData → Bool) (ds : List PyData) : Bool := chainTo g ds (ds.length - 1)
theorem chainTo_succ {g : PyData → PyData → Bool} {ds : List PyData} {n : Nat} : chainTo g ds (n + 1) = (chainTo g ds n && g (nth ds n) (nth ds (n + 1))) := by
  unfold chainTo
  rw [List.range_succ, List.all_append]
  simp
theorem nth_of {ds : List PyData} {i : Nat} {d : PyData} (h : ds[i]? = some d) : nth ds i = d := by
  unfold nth
  rw [h]
  rfl
theorem all_more {p : PyData → Bool} {ds : List PyData} {i : Nat} {d : PyData} (h : ds[i]? = some d) : (ds.take (i + 1)).all p = ((ds.take i).all p && p d) := by
  rw [List.take_add_one, h, List.all_append]
  simp
end HK
namespace K14
open PySem PySem.Spec PyProof.Rows L2 HK
def begD : PyData → Str
  | .tuple [.tuple [.str f, .str k, _], .bool u] => if u then k else f
  | _ => Str.empty
def finD : PyData → Str
  | .tuple [.tuple [.str f, .str k, _], .bool u] => if u then f else k
  | _ => Str.empty
def cpl (x y : PyData) : Bool := decide (finD x = begD y)
theorem step_is {d : PyData} (h : mStep d = true) : ∃ f k t u, d = .tuple [.tuple [.str f, .str k, .bool t], .bool u] := by
  cases d with
  | tuple ds =>
    by_cases l : ds.length = 2
    · obtain ⟨cD, uD, rfl⟩ := two_of l
      have eC : mStep (.tuple [cD, uD]) = (mCart cD && (isBool uD && (!truth uD || twoD cD))) := rfl
      rw [eC] at h
      simp only [Bool.and_eq_true] at h
      obtain ⟨f, k, t, rfl⟩ := cart_is h.1
      obtain ⟨u, rfl⟩ := isBool_is h.2.1
      exact ⟨f, k, t, u, rfl⟩
    · rw [mStep_len l] at h
      cases h
  | _ => cases h
theorem stepX {b : Addr} {H : Hp} {v : V} {f k : Str} {t u : Bool} (h : DX b H v (.tuple [.tuple [.str f, .str k, .bool t], .bool u])) : ∃ s c, v = .ref s ∧ s ≠ b ∧ c ≠ b ∧ H s = some (.tup [.ref c, .bl u]) ∧ H c = some (.tup [.str f, .str k, .bl t]) := by
  obtain ⟨s, xs, rfl, n, e, r⟩ := h.tupI
  obtain ⟨x, y, rfl, h1, h2⟩ := r.two
  cases h2.blI
  obtain ⟨c, rfl, nc, ec⟩ := cartX h1
  exact ⟨s, c, rfl, n, nc, e, ec⟩
section
variable {P : Program} {w : World} {K : PySem.W.Frag} {mg : Str → Option Value} {base : Heap}
def spE (g : PyData → Str) : Sp := fun vs H Q _ => ∃ (b : Addr) (x : V) (d : PyData), vs = [x] ∧ DX b H x d ∧ mStep d = true ∧ Q (.str (g d)) H
theorem scBegin : FnScope ["step", "cart", "turned"] ["step"] (defScope sBegin) := ⟨rfl, rfl, rfl, by decide +kernel, rfl, by decide +kernel, by decide +kernel⟩
theorem ok_begin {f : Addr} {fd : FuncData} (F : Fun K "begin_of" "begin_of" sBegin f fd) : FnOk P w K mg base CX0 1 f fd ["step"] (spE begD) := by
  refine F.ok scBegin (fun vs H Q E h => ?_) (fun cdv A outer s H vs Q E hr h => ?_)
  · obtain ⟨b, x, c, rfl, _⟩ := h
    rfl
  · obtain ⟨b, x, d, rfl, hx, hd, k⟩ := h
    obtain ⟨f0, k0, t0, u0, rfl⟩ := step_is hd
    obtain ⟨a, c, rfl, n, nc, e, ec⟩ := stepX hx
    have nd := scBegin.nd
    refine ⟨_, (pss_cons (ps_asg (pv 0) (pg_tup (by rfl) (pgs_cons (pg_name (i := 1) nd rfl (Or.inl rfl)) (pgs_cons (pg_name (i := 2) nd rfl (Or.inl rfl)) pgs_nil))))
    (pss_one (ps_ret (pe_ifExp (pt_val (pv 2)) (pe_ix ix_tup (pv 1) pe_int (fun _ _ => rfl)) (pe_ix ix_tup (pv 1) pe_int (fun _ _ => rfl)))))), ?_⟩
    refine ⟨_, rfl, a, _, rfl, SqT.of e, rfl, _, _, rfl, _, _, rfl, rfl, ?_⟩
    refine ⟨_, rfl, u0, rfl, ?_⟩
    cases u0 with
    | false => exact iteF ⟨_, rfl, c, _, _, _, rfl, rfl, SqT.of ec, rfl, k⟩
    | true => exact iteT ⟨_, rfl, c, _, _, _, rfl, rfl, SqT.of ec, rfl, k⟩
theorem scEnd : FnScope ["step", "cart", "turned"] ["step"] (defScope sEnd) := ⟨rfl, rfl, rfl, by decide +kernel, rfl, by decide +kernel, by decide +kernel⟩
theorem ok_end {f : Addr} {fd : FuncData} (F : Fun K "end_of" "end_of" sEnd f fd) : FnOk P w K mg base CX0 1 f fd ["step"] (spE finD) := by
  refine F.ok scEnd (fun vs H Q E h => ?_) (fun cdv A outer s H vs Q E hr h => ?_)
  · obtain ⟨b, x, c, rfl, _⟩ := h
    rfl
  · obtain ⟨b, x, d, rfl, hx, hd, k⟩ := h
    obtain ⟨f0, k0, t0, u0, rfl⟩ := step_is hd
    obtain ⟨a, c, rfl, n, nc, e, ec⟩ := stepX hx
    have nd := scEnd.nd
    refine ⟨_, (pss_cons (ps_asg (pv 0) (pg_tup (by rfl) (pgs_cons (pg_name (i := 1) nd rfl (Or.inl rfl)) (pgs_cons (pg_name (i := 2) nd rfl (Or.inl rfl)) pgs_nil))))
    (pss_one (ps_ret (pe_ifExp (pt_val (pv 2)) (pe_ix ix_tup (pv 1) pe_int (fun _ _ => rfl)) (pe_ix ix_tup (pv 1) pe_int (fun _ _ => rfl)))))), ?_⟩
    refine ⟨_, rfl, a, _, rfl, SqT.of e, rfl, _, _, rfl, _, _, rfl, rfl, ?_⟩
    refine ⟨_, rfl, u0, rfl, ?_⟩
    cases u0 with
    | false => exact iteF ⟨_, rfl, c, _, _, _, rfl, rfl, SqT.of ec, rfl, k⟩
    | true => exact iteT ⟨_, rfl, c, _, _, _, rfl, rfl, SqT.of ec, rfl, k⟩
theorem scLBegin : FnScope ["_law_step"] ["_law_step"] (defScope sLBegin) := ⟨rfl, rfl, rfl, by decide +kernel, rfl, by decide +kernel, by decide +kernel⟩
theorem ok_lbegin {f : Addr} {fd : FuncData} (F : Fun K "_law_begin" "_law_begin" sLBegin f fd) : FnOk P w K mg base CX0 1 f fd ["_law_step"] (spE begD) := by
  refine F.ok scLBegin (fun vs H Q E h => ?_) (fun cdv A outer s H vs Q E hr h => ?_)
  · obtain ⟨b, x, c, rfl, _⟩ := h
    rfl
  · obtain ⟨b, x, d, rfl, hx, hd, k⟩ := h
    obtain ⟨f0, k0, t0, u0, rfl⟩ := step_is hd
    obtain ⟨a, c, rfl, n, nc, e, ec⟩ := stepX hx
    refine ⟨_, (pss_one (ps_ret (pe_ifExp (pt_val (pe_ix ix_tup (pv 0) pe_int (fun _ _ => rfl))) (pe_ix ix_tup (pe_ix ix_tup (pv 0) pe_int (fun _ _ => rfl)) pe_int (fun _ _ => rfl)) (pe_ix ix_tup (pe_ix ix_tup (pv 0) pe_int (fun _ _ => rfl)) pe_int (fun _ _ => rfl))))), ?_⟩
    refine ⟨_, rfl, a, _, _, _, rfl, rfl, SqT.of e, rfl, u0, rfl, ?_⟩
    cases u0 with
    | false => exact iteF ⟨_, rfl, a, _, _, _, rfl, rfl, SqT.of e, rfl, c, _, _, _, rfl, rfl, SqT.of ec, rfl, k⟩
    | true => exact iteT ⟨_, rfl, a, _, _, _, rfl, rfl, SqT.of e, rfl, c, _, _, _, rfl, rfl, SqT.of ec, rfl, k⟩
theorem scLEnd : FnScope ["_law_step"] ["_law_step"] (defScope sLEnd) := ⟨rfl, rfl, rfl, by decide +kernel, rfl, by decide +kernel, by decide +kernel⟩
theorem ok_lend {f : Addr} {fd : FuncData} (F : Fun K "_law_end" "_law_end" sLEnd f fd) : FnOk P w K mg base CX0 1 f fd ["_law_step"] (spE finD) := by
  refine F.ok scLEnd (fun vs H Q E h => ?_) (fun cdv A outer s H vs Q E hr h => ?_)
  · obtain ⟨b, x, c, rfl, _⟩ := h
    rfl
  · obtain ⟨b, x, d, rfl, hx, hd, k⟩ := h
    obtain ⟨f0, k0, t0, u0, rfl⟩ := step_is hd
    obtain ⟨a, c, rfl, n, nc, e, ec⟩ := stepX hx
    refine ⟨_, (pss_one (ps_ret (pe_ifExp (pt_val (pe_ix ix_tup (pv 0) pe_int (fun _ _ => rfl))) (pe_ix ix_tup (pe_ix ix_tup (pv 0) pe_int (fun _ _ => rfl)) pe_int (fun _ _ => rfl)) (pe_ix ix_tup (pe_ix ix_tup (pv 0) pe_int (fun _ _ => rfl)) pe_int (fun _ _ => rfl))))), ?_⟩
    refine ⟨_, rfl, a, _, _, _, rfl, rfl, SqT.of e, rfl, u0, rfl, ?_⟩
    cases u0 with
    | false => exact iteF ⟨_, rfl, a, _, _, _, rfl, rfl, SqT.of e, rfl, c, _, _, _, rfl, rfl, SqT.of ec, rfl, k⟩
    | true => exact iteT ⟨_, rfl, a, _, _, _, rfl, rfl, SqT.of e, rfl, c, _, _, _, rfl, rfl, SqT.of ec, rfl, k⟩
/-! couple -/
theorem dec_str {x y : Str} : decide (V.str x = V.str y) = decide (x = y) := by
  by_cases z : x = y
  · rw [decide_eq_true z, decide_eq_true (congrArg V.str z)]
  · rw [decide_eq_false z, decide_eq_false (fun q => z (V.str.inj q))]
def spCp : Sp := fun vs H Q _ => ∃ (b : Addr) (x y : V) (d e : PyData), vs = [x, y] ∧ DX b H x d ∧ DX b H y e ∧ mStep d = true ∧ mStep e = true ∧ Q (.bl (cpl d e)) H
theorem scCouple : FnScope ["step", "other"] ["step", "other"] (defScope sCouple) := ⟨rfl, rfl, rfl, by decide +kernel, rfl, by decide +kernel, by decide +kernel⟩
theorem ok_couple {f fB fE : Addr} {fd fdB fdE : FuncData} (F : Fun K "couple" "couple" sCouple f fd) (gB : mg "begin_of" = some (.ref fB)) (FB : Fun K "begin_of" "begin_of" sBegin fB fdB) (bB : Binds K fdB ["step"] [])
    (gE : mg "end_of" = some (.ref fE)) (FE : Fun K "end_of" "end_of" sEnd fE fdE) (bE : Binds K fdE ["step"] []) : FnOk P w K mg base CX0 2 f fd ["step", "other"] spCp := by
  have GB : FnOk P w K mg base CX0 1 fB fdB _ (spE begD) := ok_begin FB
  have GE : FnOk P w K mg base CX0 1 fE fdE _ (spE finD) := ok_end FE
  refine F.ok scCouple (fun vs H Q E h => ?_) (fun cdv A outer s H vs Q E hr h => ?_)
  · obtain ⟨b, x, y, d, e, rfl, _⟩ := h
    rfl
  · obtain ⟨b, x, y, d, e, rfl, hx, hy, hd, he, k⟩ := h
    refine ⟨_, (pss_one (ps_ret (pe_cmpR op_eq (pe_call GE hr rfl gE FE.kp bE .nil pass0 (pa_cons (pv 0) pa_nil)) (pe_call GB hr rfl gB FB.kp bB .nil pass0 (pa_cons (pv 1) pa_nil)) (nomark _)))), ?_⟩
    refine ⟨_, rfl, b, x, d, rfl, hx, hd, _, rfl, b, y, e, rfl, hy, he, rfl, ?_⟩
    show Q (.bl (decide (V.str (finD d) = V.str (begD e)))) H
    rw [dec_str]
    exact k
end
end K14

namespace HK
open PySem PySem.Spec PyProof.Rows L2
theorem cut_tail {α : Type} {xs : List α} (h : 1 ≤ xs.length) : (xs.drop (HT.sIx xs.length 0 (some 1))).take (HT.sIx xs.length xs.length none - HT.sIx xs.length 0 (some 1)) = xs.drop 1 := by
  rw [show (1 : Int) = ((1 : Nat) : Int) from rfl, HT.sIx_nat, HT.sIx_none, Nat.min_eq_left h]
  exact List.take_of_length_le (by rw [List.length_drop]; omega)
theorem lst_is {d : PyData} (h : isLst d = true) : ∃ ds, d = .list ds := by cases d <;> first | exact ⟨_, rfl⟩ | cases h
theorem tup_is {d : PyData} (h : isTup d = true) : ∃ ds, d = .tuple ds := by cases d <;> first | exact ⟨_, rfl⟩ | cases h
theorem SX.mem {ds : List PyData} {n : Nat} (h : SX (.list ds) n 50) : ∀ d ∈ ds, SX d n 50 := fun d hd => by
  obtain ⟨_, r⟩ := SX.items (.inl h)
  exact (r.get hd).mono (by omega) (by omega)
theorem SX.lenL {ds : List PyData} {n m : Nat} (h : SX (.list ds) n m) : ds.length ≤ n := (SX.items (.inl h)).2.len
theorem all_nth {p : PyData → Bool} {ds : List PyData} (h : ds.all p = true) {i : Nat} {d : PyData} (hd : ds[i]? = some d) : p d = true := List.all_eq_true.mp h d (List.mem_of_getElem? hd)
end HK
namespace K14
open PySem PySem.Spec PyProof.Rows L2 HK
def mRow : PyData → Bool
  | .list ds => !ds.isEmpty && (ds.all mStep && chain cpl ds)
  | _ => false
theorem mRow_lst {d : PyData} (h : isLst d = false) : mRow d = false := by cases d <;> first | rfl | cases h
section
variable {P : Program} {w : World} {K : PySem.W.Frag} {mg : Str → Option Value} {base : Heap}
theorem scRow : FnScope ["thing", "step", "other"] ["thing"] (defScope sRow) := ⟨rfl, rfl, rfl, by decide +kernel, rfl, by decide +kernel, by decide +kernel⟩
theorem ok_row {f fS fC : Addr} {fd fdS fdC : FuncData} (F : Fun K "is_row" "is_row" sRow f fd) (T : TxJ mg) (zp : mg "zip" = none) (gS : mg "is_step" = some (.ref fS)) (FS : Fun K "is_step" "is_step" sStep fS fdS) (bS : Binds K fdS ["thing"] []) (GS : FnOk P w K mg base CX0 3 fS fdS ["thing"] (spJ mStep))
    (gC : mg "couple" = some (.ref fC)) (FC : Fun K "couple" "couple" sCouple fC fdC) (bC : Binds K fdC ["step", "other"] []) (GC : FnOk P w K mg base CX0 2 fC fdC ["step", "other"] spCp) : FnOk P w K mg base CX0 4 f fd ["thing"] (spJ mRow) := by
  refine F.ok scRow (fun vs H Q E h => ?_) (fun cdv A outer s H vs Q E hr h => ?_)
  · obtain ⟨b, x, d, n, rfl, _⟩ := h
    rfl
  · obtain ⟨b, x, d, n, rfl, hx, hs, hn, k⟩ := h
    have nd := scRow.nd
    have hr2 : Room 2 _ := hr.mono (by decide)
    refine ⟨_, (pss_cons (ps_if (PW.pt (pw_or (pt_not (pt_val (pe_callB call_isi (by rfl) T.n_isi (by decide +kernel) (pa_cons (pv 0) (pa_cons (pe_bltn (v := .ty "list") (by rfl) (T.n_ty "list" (by simp)) (by decide +kernel) rfl) pa_nil))))) (pw_or1 (pt_cmpR op_eq (pe_callB call_len_seq (by rfl) (T.n_ty "len" (by simp)) (by decide +kernel) (pa_cons (pv 0) pa_nil)) pe_int (nomark _)))))
      (pss_one (ps_ret pe_bl))
       pss_nil)
    (pss_cons (ps_if (pt_not (pt_val (pe_callB (cr_all rfl) (by rfl) (T.n_ty "all" (by simp)) (by decide +kernel) (pa_cons (pe_lc (own := [("step", 1)]) (g := (gName 1)) (tt := tYes) rfl nd (pi_list (pv 0)) (blkOk_by (N := ["thing", "step", "other"]) (sc := defScope sRow) (by decide +kernel)) (fun _ _ _ _ _ => (pg_name (i := 1) nd rfl (Or.inl rfl))) (fun _ _ _ _ _ => pts_nil) (fun _ _ _ _ _ => (pe_call GS hr rfl gS FS.kp bS .nil pass0 (pa_cons (pv 1) pa_nil)))) pa_nil))))
      (pss_one (ps_ret pe_bl))
       pss_nil)
    (pss_one (ps_ret (pe_callB (cr_all rfl) (by rfl) (T.n_ty "all" (by simp)) (by decide +kernel) (pa_cons (pe_lc (own := [("step", 1), ("other", 2)]) (g := gTup K 2 (gCons (gName 1) (gCons (gName 2) gNil))) (tt := tYes) rfl nd (pi_zip (by rfl) zp (pa_cons (pv 0) (pa_cons (pe_slice sl_list (pv 0) (po_some pe_int) po_none) pa_nil))) (blkOk_by (N := ["thing", "step", "other"]) (sc := defScope sRow) (by decide +kernel)) (fun _ _ _ _ _ => (pg_tup rfl (pgs_cons (pg_name (i := 1) nd rfl (Or.inl rfl)) (pgs_cons (pg_name (i := 2) nd rfl (Or.inl rfl)) pgs_nil)))) (fun _ _ _ _ _ => pts_nil) (fun _ _ _ _ _ => (pe_call GC hr2 rfl gC FC.kp bC .nil pass0 (pa_cons (pv 1) (pa_cons (pv 2) pa_nil))))) pa_nil)))))), ?_⟩
    refine ⟨_, rfl, x, .ty "list", _, _, _, rfl, .ty _, hx.ty, kit_ty (kit_lst d), isLst d, rfl, ?_⟩
    cases h1 : isLst d with
    | false =>
      rw [mRow_lst h1] at k
      exact iteT (iteT (k H (Same.refl H)))
    | true =>
      obtain ⟨ds, rfl⟩ := lst_is h1
      obtain ⟨a, xs, rfl, na, ha, hxs⟩ := hx.lstI
      have lx := hxs.len
      have ld := hs.lenL
      have line : (300001 : Nat) ≤ sizeLine := by decide
      have eR : mRow (.list ds) = (!ds.isEmpty && (ds.all mStep && chain cpl ds)) := rfl
      refine iteF ⟨_, rfl, a, xs, rfl, .inl (SqL.of ha), rfl, _, rfl, ?_⟩
      refine ite2 (fun z => ?_) (fun z => ?_)
      · rw [decide_eq_true_iff] at z
        have z' : (xs.length : Int) = 0 := V.int.inj z
        have e0 : ds = [] := List.length_eq_zero_iff.mp (by omega)
        subst e0
        exact k H (Same.refl H)
      rw [decide_eq_true_iff] at z
      have l1 : 1 ≤ xs.length := by
        rcases Nat.eq_zero_or_pos xs.length with e | e
        · rw [e] at z
          exact absurd rfl z
        · exact e
      have ne : ds.isEmpty = false := by
        cases ds with
        | nil => rw [lx] at l1; exact absurd l1 (by decide)
        | cons _ _ => rfl
      rw [eR, ne, Bool.not_false, Bool.true_and] at k
      refine ⟨_, rfl, a, rfl, ⟨_, SqL.of ha⟩, fun D nD => ?_⟩
      refine lc_list (K := K) (a := a) (xs := xs) (fun i H' => Same H H' ∧ ∃ acc : List Bool, acc.length = i ∧ acc.all id = (ds.take i).all mStep ∧ H' D = some (.lst (acc.map V.bl)))
        ⟨Same.new nD, [], rfl, rfl, upd_same⟩ (fun i H' _ z => SqL.of (z.1 _ _ ha)) ?_ ?_
      · rintro i x H' hi ⟨sm, acc, la, ea, hD⟩
        have li : i < xs.length := (List.getElem?_eq_some_iff.mp hi).1
        obtain ⟨d, hd, dx⟩ := hxs.get hi
        refine ⟨rfl, yes_ok ?_⟩
        refine ⟨_, rfl, b, x, d, n, rfl, dx.same sm, hs.mem d (List.mem_of_getElem? hd), hn, fun H2 s2 => ⟨acc.map V.bl, s2 _ _ hD, by rw [List.length_map]; omega, ?_⟩⟩
        refine ⟨Same.newer (sm.trans s2) nD, acc ++ [mStep d], by rw [List.length_append, la]; rfl, ?_, by rw [upd_same, List.map_append]; rfl⟩
        rw [all_more hd, List.all_append, ea]
        simp
      · rintro H2 ⟨s2, acc, la, ea, hD⟩
        have et : ds.take xs.length = ds := List.take_of_length_le (by omega)
        rw [et] at ea
        refine ⟨D, acc, rfl, SqL.of hD, acc.all id, rfl, ?_⟩
        rw [ea]
        cases h2 : ds.all mStep with
        | false =>
          rw [h2] at k
          exact iteT (k H2 s2)
        | true =>
          rw [h2, Bool.true_and] at k
          refine iteF ?_
          refine ⟨_, rfl, _, rfl, 1, rfl, a, xs, rfl, SqL.of (s2 _ _ ha), fun p np => ?_⟩
          have s3 := Same.new (o := HO.lst (cutV xs (some 1) none)) np
          have ec : cutV xs (some 1) none = xs.drop 1 := cut_tail l1
          have s23 := s2.trans s3
          refine ⟨a, p, xs, xs.drop 1, rfl, SqL.of (s23 _ _ ha), SqL.of (by rw [upd_same, ec]), fun D2 nD2 => ?_⟩
          have hp : upd H2 p (HO.lst (cutV xs (some 1) none)) p = some (.lst (xs.drop 1)) := by rw [upd_same, ec]
          refine lc_zip (K := K) (a := a) (c := p) (xs := xs) (ys := xs.drop 1) (by rw [List.length_drop]; omega) (fun i H' => Same (upd H2 p (HO.lst (cutV xs (some 1) none))) H' ∧ ∃ acc : List Bool, acc.length = i ∧ acc.all id = chainTo cpl ds i ∧ H' D2 = some (.lst (acc.map V.bl)))
            ⟨Same.new nD2, [], rfl, rfl, upd_same⟩ (fun i H' z => ⟨SqL.of ((s23.trans z.1) _ _ ha), SqL.of (z.1 _ _ hp)⟩) ?_ ?_
          · rintro i x y T H' hi hi' ⟨sm, acc, la, ea, hD2⟩ nT
            have hi2 : xs[i + 1]? = some y := by rw [List.getElem?_drop] at hi'; rw [Nat.add_comm]; exact hi'
            have li : i + 1 < xs.length := (List.getElem?_eq_some_iff.mp hi2).1
            obtain ⟨d, hd, dx⟩ := hxs.get hi
            obtain ⟨e, he, dy⟩ := hxs.get hi2
            have sT := Same.new (o := HO.tup [x, y]) nT
            have sH := s23.trans (sm.trans sT)
            refine ⟨T, _, rfl, SqT.of upd_same, rfl, _, _, rfl, _, _, rfl, rfl, rfl, yes_ok ?_⟩
            refine ⟨_, rfl, _, rfl, b, x, y, d, e, rfl, dx.same sH, dy.same sH, all_nth h2 hd, all_nth h2 he, acc.map V.bl, sT _ _ hD2, by rw [List.length_map]; omega, ?_⟩
            refine ⟨Same.newer (sm.trans sT) nD2, acc ++ [cpl d e], by rw [List.length_append, la]; rfl, ?_, by rw [upd_same, List.map_append]; rfl⟩
            rw [chainTo_succ, List.all_append, ea, nth_of hd, nth_of he]
            simp
          · rintro H4 ⟨s4, acc, la, ea, hD2⟩
            refine ⟨D2, acc, rfl, SqL.of hD2, ?_⟩
            have e : chain cpl ds = acc.all id := by
              rw [ea]
              unfold chain
              rw [List.length_drop, lx]
            rw [e] at k
            exact k H4 (s23.trans s4)
end
end K14

namespace K14
open PySem PySem.Spec PyProof.Rows L2 HK
theorem cpl_ne {d e : PyData} : (!decide (V.str (finD d) = V.str (begD e))) = !cpl d e := by
  rw [dec_str]
  rfl
theorem empty_app {α : Type} {l : List α} {x : α} : (l ++ [x]).isEmpty = false := by cases l <;> rfl
section
variable {P : Program} {w : World} {K : PySem.W.Frag} {mg : Str → Option Value} {base : Heap}
theorem scLRow : FnScope ["_law_thing", "_law_step", "_law_k"] ["_law_thing"] (defScope sLRow) := ⟨rfl, rfl, rfl, by decide +kernel, rfl, by decide +kernel, by decide +kernel⟩
theorem ok_lrow {f fS fB fE : Addr} {fd fdS fdB fdE : FuncData} (F : Fun K "_law_is_row" "_law_is_row" sLRow f fd) (T : TxJ mg) (rg : mg "range" = none) (gS : mg "_law_is_step" = some (.ref fS)) (FS : Fun K "_law_is_step" "_law_is_step" sLStep fS fdS) (bS : Binds K fdS ["_law_thing"] []) (GS : FnOk P w K mg base CX0 3 fS fdS ["_law_thing"] (spJ mStep))
    (gB : mg "_law_begin" = some (.ref fB)) (FB : Fun K "_law_begin" "_law_begin" sLBegin fB fdB) (bB : Binds K fdB ["_law_step"] []) (gE : mg "_law_end" = some (.ref fE)) (FE : Fun K "_law_end" "_law_end" sLEnd fE fdE) (bE : Binds K fdE ["_law_step"] []) : FnOk P w K mg base CX0 4 f fd ["_law_thing"] (spJ mRow) := by
  have GB : FnOk P w K mg base CX0 1 fB fdB _ (spE begD) := ok_lbegin FB
  have GE : FnOk P w K mg base CX0 1 fE fdE _ (spE finD) := ok_lend FE
  refine F.ok scLRow (fun vs H Q E h => ?_) (fun cdv A outer s H vs Q E hr h => ?_)
  · obtain ⟨b, x, d, n, rfl, _⟩ := h
    rfl
  · obtain ⟨b, x, d, n, rfl, hx, hs, hn, k⟩ := h
    have nd := scLRow.nd
    have hr1 : Room 1 _ := hr.mono (by decide)
    refine ⟨_, (pss_cons (ps_if (PW.pt (pw_or (pt_not (pt_val (pe_callB call_isi (by rfl) T.n_isi (by decide +kernel) (pa_cons (pv 0) (pa_cons (pe_bltn (v := .ty "list") (by rfl) (T.n_ty "list" (by simp)) (by decide +kernel) rfl) pa_nil)))))
        (pw_or (pt_cmpR (op_eqE hr.units) (pv 0) (pe_lst pa_nil) (nomark _))
        (pw_or1 (pt_cmpR (op_neE hr.units) (pe_lc (own := [("_law_step", 1)]) (g := (gName 1)) (tt := _) rfl nd (pi_list (pv 0)) (blkOk_by (N := ["_law_thing", "_law_step", "_law_k"]) (sc := defScope sLRow) (by decide +kernel)) (fun _ _ _ _ _ => (pg_name (i := 1) nd rfl (Or.inl rfl))) (fun _ _ _ _ _ => (pts_one (pt_not (pt_val (pe_call GS hr rfl gS FS.kp bS .nil pass0 (pa_cons (pv 1) pa_nil)))))) (fun _ _ _ _ _ => (pv 1))) (pe_lst pa_nil) (nomark _))))))
      (pss_one (ps_ret pe_bl))
       pss_nil)
    (pss_one (ps_ret (pe_cmpR (op_eqE hr.units) (pe_lc (own := [("_law_k", 2)]) (g := (gName 2)) (tt := _) rfl nd (pi_range2 (by rfl) rg (pa_cons pe_int (pa_cons (pe_callB call_len_seq (by rfl) (T.n_ty "len" (by simp)) (by decide +kernel) (pa_cons (pv 0) pa_nil)) pa_nil))) (blkOk_by (N := ["_law_thing", "_law_step", "_law_k"]) (sc := defScope sLRow) (by decide +kernel)) (fun _ _ _ _ _ => (pg_name (i := 2) nd rfl (Or.inl rfl)))
        (fun _ _ _ _ _ => (pts_one (pt_cmpR op_ne (pe_call GE hr1 rfl gE FE.kp bE .nil pass0 (pa_cons (pe_ix (show IxR _ (rIxL K) from ix_list) (pv 0) (pe_op op_sub (pv 2) pe_int) (fun _ _ => rfl)) pa_nil)) (pe_call GB hr1 rfl gB FB.kp bB .nil pass0 (pa_cons (pe_ix (show IxR _ (rIxL K) from ix_list) (pv 0) (pv 2) (fun _ _ => rfl)) pa_nil)) (nomark _)))) (fun _ _ _ _ _ => (pv 2))) (pe_lst pa_nil) (nomark _))))), ?_⟩
    refine ⟨_, rfl, x, .ty "list", _, _, _, rfl, .ty _, hx.ty, kit_ty (kit_lst d), isLst d, rfl, ?_⟩
    cases h1 : isLst d with
    | false =>
      rw [mRow_lst h1] at k
      exact iteT (iteT (k H (Same.refl H)))
    | true =>
      obtain ⟨ds, rfl⟩ := lst_is h1
      obtain ⟨a, xs, rfl, na, ha, hxs⟩ := hx.lstI
      have lx := hxs.len
      have ld := hs.lenL
      have line : (300001 : Nat) ≤ sizeLine := by decide
      have l0 : (0 : Nat) ≤ sizeLine := Nat.zero_le _
      have eR : mRow (.list ds) = (!ds.isEmpty && (ds.all mStep && chain cpl ds)) := rfl
      refine iteF ⟨_, rfl, l0, fun p np => ?_⟩
      have s1 := Same.new (o := HO.lst []) np
      refine ⟨a, p, xs, rfl, rfl, s1 _ _ ha, upd_same, xs.isEmpty, rfl, ?_⟩
      cases he : xs.isEmpty with
      | true =>
        have e0 : ds = [] := by
          have : xs = [] := List.isEmpty_iff.mp he
          subst this
          exact List.length_eq_zero_iff.mp lx.symm
        subst e0
        exact iteT (iteT (k _ s1))
      | false =>
        have l1 : 1 ≤ xs.length := by
          rcases Nat.eq_zero_or_pos xs.length with e | e
          · rw [List.length_eq_zero_iff.mp e] at he
            cases he
          · exact e
        have ne : ds.isEmpty = false := by
          cases ds with
          | nil => rw [lx] at l1; exact absurd l1 (by decide)
          | cons _ _ => rfl
        rw [eR, ne, Bool.not_false, Bool.true_and] at k
        refine iteF ⟨_, rfl, a, rfl, ⟨_, SqL.of (s1 _ _ ha)⟩, fun D nD => ?_⟩
        refine lc_list (K := K) (a := a) (xs := xs) (fun i H' => Same H H' ∧ ∃ acc : List V, acc.length ≤ i ∧ acc.isEmpty = (ds.take i).all mStep ∧ H' D = some (.lst acc))
          ⟨s1.trans (Same.new nD), [], Nat.le_refl _, rfl, upd_same⟩ (fun i H' _ z => SqL.of (z.1 _ _ ha)) ?_ ?_
        · rintro i x H' hi ⟨sm, acc, la, ea, hD⟩
          have li : i < xs.length := (List.getElem?_eq_some_iff.mp hi).1
          obtain ⟨d, hd, dx⟩ := hxs.get hi
          refine ⟨rfl, ?_⟩
          refine ⟨_, rfl, b, x, d, n, rfl, dx.same sm, hs.mem d (List.mem_of_getElem? hd), hn, fun H2 s2 => ⟨mStep d, rfl, ?_⟩⟩
          have hDH : H D = none := (s1.free nD)
          have em := all_more (p := mStep) hd
          cases hm : mStep d with
          | true =>
            refine iteF ⟨sm.trans s2, acc, by omega, ?_, s2 _ _ hD⟩
            rw [em, hm, Bool.and_true, ea]
          | false =>
            refine iteT ⟨_, rfl, acc, s2 _ _ hD, by omega, Same.newer (sm.trans s2) hDH, acc ++ [x], by rw [List.length_append]; show acc.length + 1 ≤ _; omega, ?_, upd_same⟩
            rw [em, hm, Bool.and_false, empty_app]
        · rintro H2 ⟨s2, acc, la, ea, hD⟩
          have et : ds.take xs.length = ds := List.take_of_length_le (by omega)
          rw [et] at ea
          refine ⟨l0, fun q nq => ⟨D, q, acc, rfl, rfl, (Same.new nq) _ _ hD, upd_same, !acc.isEmpty, rfl, ?_⟩⟩
          have s3 := s2.trans (Same.new (o := HO.lst []) nq)
          rw [ea]
          cases h2 : ds.all mStep with
          | false =>
            rw [h2] at k
            exact iteT (k _ s3)
          | true =>
            rw [h2, Bool.true_and] at k
            refine iteF ?_
            generalize upd H2 q (HO.lst []) = H3 at s3 ⊢
            have big : (2 : Int) ^ 62 = 4611686018427387904 := by decide
            refine ⟨_, rfl, a, xs, rfl, .inl (SqL.of (s3 _ _ ha)), 1, _, rfl, ⟨by decide, by decide, by omega, by omega⟩, fun D2 nD2 => ?_⟩
            have en : ((xs.length : Int) - 1).toNat = xs.length - 1 := by omega
            rw [en]
            refine lc_range (lo := 1) (n := xs.length - 1) (fun i H' => Same H3 H' ∧ ∃ acc : List V, acc.length ≤ i ∧ acc.isEmpty = chainTo cpl ds i ∧ H' D2 = some (.lst acc))
              ⟨Same.new nD2, [], Nat.le_refl _, rfl, upd_same⟩ ?_ ?_
            · rintro i H' hi ⟨sm, acc, la, ea, hD2⟩
              have hx0 : xs[i]? = some (xs[i]'(by omega)) := List.getElem?_eq_getElem (by omega)
              have hx1 : xs[i + 1]? = some (xs[i + 1]'(by omega)) := List.getElem?_eq_getElem (by omega)
              obtain ⟨d, hd, dx⟩ := hxs.get hx0
              obtain ⟨e, he', dy⟩ := hxs.get hx1
              have sH := s3.trans sm
              have a0 : atI xs (1 + (i : Int) - 1) = some (xs[i]'(by omega)) := by
                have z : (1 + (i : Int) - 1) = (i : Int) := by omega
                rw [z]
                exact atI_nat hx0
              have a1 : atI xs (1 + (i : Int)) = some (xs[i + 1]'(by omega)) := by
                have z : (1 + (i : Int)) = ((i + 1 : Nat) : Int) := by omega
                rw [z]
                exact atI_nat hx1
              refine ⟨rfl, ?_⟩
              refine ⟨_, rfl, _, rfl, _, _, rfl, rfl, a, _, _, _, rfl, rfl, SqL.of (sH _ _ ha), a0, b, _, d, rfl, dx.same sH, all_nth h2 hd, _, rfl, _, rfl, a, _, _, _, rfl, rfl, SqL.of (sH _ _ ha), a1, b, _, e, rfl, dy.same sH, all_nth h2 he', rfl, !cpl d e, congrArg V.bl cpl_ne, ?_⟩
              have em : chainTo cpl ds (i + 1) = (chainTo cpl ds i && cpl d e) := by rw [chainTo_succ, nth_of hd, nth_of he']
              cases hm : cpl d e with
              | true =>
                refine iteF ⟨sm, acc, by omega, ?_, hD2⟩
                rw [em, hm, Bool.and_true, ea]
              | false =>
                refine iteT ⟨_, rfl, acc, hD2, by omega, Same.newer sm nD2, acc ++ [_], by rw [List.length_append]; show acc.length + 1 ≤ _; omega, ?_, upd_same⟩
                rw [em, hm, Bool.and_false, empty_app]
            · rintro H4 ⟨s4, acc, la, ea, hD2⟩
              refine ⟨l0, fun r nr => ⟨D2, r, acc, rfl, rfl, (Same.new nr) _ _ hD2, upd_same, ?_⟩⟩
              have e : chain cpl ds = acc.isEmpty := by
                rw [ea]
                unfold chain
                rw [lx]
              rw [e] at k
              exact k _ (s3.trans (s4.trans (Same.new nr)))
end
end K14

namespace HK
open PySem PySem.Spec PyProof.Rows L2
theorem atI_minus {α : Type} {xs : List α} (h : 1 ≤ xs.length) : atI xs (-1) = xs[xs.length - 1]? := by
  unfold atI ixN
  rw [if_neg (by decide), if_pos (by omega)]
  have e : (-1 + (xs.length : Int)).toNat = xs.length - 1 := by omega
  rw [e]
  rfl
end HK
namespace K14
open PySem PySem.Spec PyProof.Rows L2 HK
def rowOf : PyData → PyData | .tuple [_, r] => r | _ => .none
def firstOf : PyData → PyData | .list ds => nth ds 0 | _ => .none
def lastOf : PyData → PyData | .list ds => nth ds (ds.length - 1) | _ => .none
def isOne : PyData → Bool | .int i => decide (V.int i = V.int 1) | _ => false
def mPart : PyData → Bool
  | .tuple [m, r] => mNum 1 m && (mRow r && (isOne m || cpl (lastOf r) (firstOf r)))
  | _ => false
def pcpl (p q : PyData) : Bool := cpl (lastOf (rowOf p)) (firstOf (rowOf q))
def mTrain : PyData → Bool
  | .list ds => !ds.isEmpty && (ds.all mPart && chain pcpl ds)
  | _ => false
theorem mTrain_lst {d : PyData} (h : isLst d = false) : mTrain d = false := by cases d <;> first | rfl | cases h
theorem mPart_tup {d : PyData} (h : isTup d = false) : mPart d = false := by cases d <;> first | rfl | cases h
theorem mPart_len : ∀ {ds : List PyData}, ds.length ≠ 2 → mPart (.tuple ds) = false
  | [], _ => rfl
  | [_], _ => rfl
  | [_, _], h => absurd rfl h
  | _ :: _ :: _ :: _, _ => rfl
theorem row_is {r : PyData} (h : mRow r = true) : ∃ rs, r = .list rs ∧ 1 ≤ rs.length ∧ rs.all mStep = true := by
  cases r with
  | list rs =>
    have eR : mRow (.list rs) = (!rs.isEmpty && (rs.all mStep && chain cpl rs)) := rfl
    rw [eR] at h
    simp only [Bool.and_eq_true, Bool.not_eq_true'] at h
    refine ⟨rs, rfl, ?_, h.2.1⟩
    cases rs with
    | nil => cases h.1
    | cons _ _ => simp
  | _ => cases h
theorem part_is {d : PyData} (h : mPart d = true) : ∃ m rs, d = .tuple [.int m, .list rs] ∧ 1 ≤ m ∧ 1 ≤ rs.length ∧ rs.all mStep = true := by
  cases d with
  | tuple ds =>
    by_cases l : ds.length = 2
    · obtain ⟨mD, rD, rfl⟩ := two_of l
      have e : mPart (.tuple [mD, rD]) = (mNum 1 mD && (mRow rD && (isOne mD || cpl (lastOf rD) (firstOf rD)))) := rfl
      rw [e] at h
      simp only [Bool.and_eq_true] at h
      obtain ⟨rs, rfl, l1, al⟩ := row_is h.2.1
      cases mD with
      | int m => exact ⟨m, rs, rfl, of_decide_eq_true h.1, l1, al⟩
      | _ => cases h.1
    · rw [mPart_len l] at h
      cases h
  | _ => cases h
/-- the steps at the ends of a row -/
theorem rowEnds {b : Addr} {H : Hp} {ys : List V} {rs : List PyData} (h : DXs b H ys rs) (l : 1 ≤ rs.length) (al : rs.all mStep = true) :
    ∃ x y, atI ys 0 = some x ∧ atI ys (-1) = some y ∧ DX b H x (firstOf (.list rs)) ∧ DX b H y (lastOf (.list rs)) ∧ mStep (firstOf (.list rs)) = true ∧ mStep (lastOf (.list rs)) = true := by
  have ly := h.len
  have h0 : ys[0]? = some (ys[0]'(by omega)) := List.getElem?_eq_getElem (by omega)
  have h1 : ys[ys.length - 1]? = some (ys[ys.length - 1]'(by omega)) := List.getElem?_eq_getElem (by omega)
  obtain ⟨d, hd, dx⟩ := h.get h0
  obtain ⟨e, he, dy⟩ := h.get h1
  have e0 : firstOf (.list rs) = d := nth_of hd
  have e1 : lastOf (.list rs) = e := by
    show nth rs (rs.length - 1) = e
    rw [← ly]
    exact nth_of he
  rw [e0, e1]
  exact ⟨_, _, atI_nat (j := 0) h0, (atI_minus (by omega)).trans h1, dx, dy, all_nth al hd, all_nth al he⟩
theorem partX {b : Addr} {H : Hp} {v : V} {m : Int} {rs : List PyData} (h : DX b H v (.tuple [.int m, .list rs])) : ∃ a c ys, v = .ref a ∧ a ≠ b ∧ c ≠ b ∧ H a = some (.tup [.int m, .ref c]) ∧ H c = some (.lst ys) ∧ DXs b H ys rs := by
  obtain ⟨a, xs, rfl, n, e, r⟩ := h.tupI
  obtain ⟨x, y, rfl, h1, h2⟩ := r.two
  cases h1.intI
  obtain ⟨c, ys, rfl, nc, ec, r2⟩ := h2.lstI
  exact ⟨a, c, ys, rfl, n, nc, e, ec, r2⟩
section
variable {P : Program} {w : World} {K : PySem.W.Frag} {mg : Str → Option Value} {base : Heap}
theorem scPart : FnScope ["thing", "many", "row"] ["thing"] (defScope sPart) := ⟨rfl, rfl, rfl, by decide +kernel, rfl, by decide +kernel, by decide +kernel⟩
theorem ok_part {f fN fR fC : Addr} {fd fdN fdR fdC : FuncData} (F : Fun K "_is_part" "_is_part" sPart f fd) (T : TxJ mg) (gN : mg "is_number" = some (.ref fN)) (FN : Fun K "is_number" "is_number" sNum fN fdN) (bN : Binds K fdN ["least", "thing"] []) (GN : FnOk P w K mg base CX0 2 fN fdN ["least", "thing"] spNum)
    (gR : mg "is_row" = some (.ref fR)) (FR : Fun K "is_row" "is_row" sRow fR fdR) (bR : Binds K fdR ["thing"] []) (GR : FnOk P w K mg base CX0 4 fR fdR ["thing"] (spJ mRow))
    (gC : mg "couple" = some (.ref fC)) (FC : Fun K "couple" "couple" sCouple fC fdC) (bC : Binds K fdC ["step", "other"] []) (GC : FnOk P w K mg base CX0 2 fC fdC ["step", "other"] spCp) : FnOk P w K mg base CX0 5 f fd ["thing"] (spJ mPart) := by
  refine F.ok scPart (fun vs H Q E h => ?_) (fun cdv A outer s H vs Q E hr h => ?_)
  · obtain ⟨b, x, d, n, rfl, _⟩ := h
    rfl
  · obtain ⟨b, x, d, n, rfl, hx, hs, hn, k⟩ := h
    have nd := scPart.nd
    have hr2 : Room 2 _ := hr.mono (by decide)
    refine ⟨_, (pss_cons (ps_if (PW.pt (pw_or (pt_not (pt_val (pe_callB call_isi (by rfl) T.n_isi (by decide +kernel) (pa_cons (pv 0) (pa_cons (pe_bltn (v := .ty "tuple") (by rfl) (T.n_ty "tuple" (by simp)) (by decide +kernel) rfl) pa_nil))))) (pw_or1 (pt_cmpR op_ne (pe_callB call_len_seq (by rfl) (T.n_ty "len" (by simp)) (by decide +kernel) (pa_cons (pv 0) pa_nil)) pe_int (nomark _)))))
      (pss_one (ps_ret pe_bl))
       pss_nil)
    (pss_cons (ps_asg (pv 0) (pg_tup (by rfl) (pgs_cons (pg_name (i := 1) nd rfl (Or.inl rfl)) (pgs_cons (pg_name (i := 2) nd rfl (Or.inl rfl)) pgs_nil))))
    (pss_cons (ps_if (PW.pt (pw_or (pt_not (pt_val (pe_call GN hr2 rfl gN FN.kp bN .nil pass0 (pa_cons pe_int (pa_cons (pv 1) pa_nil))))) (pw_or1 (pt_not (pt_val (pe_call GR hr rfl gR FR.kp bR .nil pass0 (pa_cons (pv 2) pa_nil)))))))
      (pss_one (ps_ret pe_bl))
       pss_nil)
    (pss_one (ps_ret (pe_or (pe_cmpR op_eq (pv 1) pe_int (nomark _)) (pe_one (pe_call GC hr2 rfl gC FC.kp bC .nil pass0 (pa_cons (pe_ix ix_list (pv 2) (pe_un un_neg pe_int) (fun _ _ => rfl)) (pa_cons (pe_ix ix_list (pv 2) pe_int (fun _ _ => rfl)) pa_nil)))))))))), ?_⟩
    refine ⟨_, rfl, x, .ty "tuple", _, _, _, rfl, .ty _, hx.ty, kit_ty (kit_tup d), isTup d, rfl, ?_⟩
    cases h1 : isTup d with
    | false =>
      rw [mPart_tup h1] at k
      exact iteT (iteT (k H (Same.refl H)))
    | true =>
      obtain ⟨ds, rfl⟩ := tup_is h1
      obtain ⟨a, xs, rfl, na, ha, hxs⟩ := hx.tupI
      refine iteF ⟨_, rfl, a, xs, rfl, .inr (SqT.of ha), rfl, _, rfl, ?_⟩
      have lx := hxs.len
      refine ite2 (fun z => ?_) (fun z => ?_)
      · rw [Bool.not_eq_true', decide_eq_false_iff_not] at z
        have l3 : ds.length ≠ 2 := fun q => z (by rw [lx, q]; rfl)
        rw [mPart_len l3] at k
        exact k H (Same.refl H)
      · rw [Bool.not_eq_true, Bool.not_eq_false', decide_eq_true_iff] at z
        have z' : (xs.length : Int) = 2 := V.int.inj z
        obtain ⟨mD, rD, rfl⟩ := two_of (ds := ds) (by omega)
        obtain ⟨vm, vr, rfl, hm, hrw⟩ := hxs.two
        obtain ⟨sm, sr⟩ := K14.SX.in2 hs
        have eC : mPart (.tuple [mD, rD]) = (mNum 1 mD && (mRow rD && (isOne mD || cpl (lastOf rD) (firstOf rD)))) := rfl
        rw [eC] at k
        refine ⟨_, rfl, a, _, rfl, SqT.of ha, rfl, _, _, rfl, _, _, rfl, rfl, ?_⟩
        refine ⟨_, rfl, b, 1, vm, mD, n, rfl, hm, sm, hn, fun H1 s1 => ⟨mNum 1 mD, rfl, ?_⟩⟩
        cases e1 : mNum 1 mD with
        | false =>
          rw [e1] at k
          exact iteT (iteT (k H1 s1))
        | true =>
          rw [e1, Bool.true_and] at k
          refine iteF ⟨_, rfl, b, vr, rD, n, rfl, hrw.same s1, sr, hn, fun H2 s2 => ⟨mRow rD, rfl, ?_⟩⟩
          have s12 := s1.trans s2
          cases e2 : mRow rD with
          | false =>
            rw [e2] at k
            exact iteT (k H2 s12)
          | true =>
            rw [e2, Bool.true_and] at k
            obtain ⟨rs, rfl, l1, al⟩ := row_is e2
            obtain ⟨m, rfl⟩ : ∃ m, mD = .int m := by cases mD <;> first | exact ⟨_, rfl⟩ | cases e1
            cases hm.intI
            obtain ⟨c, ys, rfl, nc, ec, hys⟩ := (hrw.same s12).lstI
            obtain ⟨fv, lv, a0, a1, dF, dL, mF, mL⟩ := rowEnds hys l1 al
            refine iteF ⟨_, rfl, rfl, decide (V.int m = V.int 1), rfl, ?_⟩
            have eo : isOne (.int m) = decide (V.int m = V.int 1) := rfl
            rw [eo] at k
            cases h3 : decide (V.int m = V.int 1) with
            | true =>
              rw [h3, Bool.true_or] at k
              exact iteT (k H2 s12)
            | false =>
              rw [h3, Bool.false_or] at k
              exact iteF ⟨_, rfl, _, rfl, c, _, _, _, rfl, rfl, SqL.of ec, a1, _, rfl, c, _, _, _, rfl, rfl, SqL.of ec, a0, b, lv, fv, _, _, rfl, dL, dF, mL, mF, k H2 s12⟩
/-! _parts_couple -/
def spPC : Sp := fun vs H Q _ => ∃ (b : Addr) (x y : V) (d e : PyData), vs = [x, y] ∧ DX b H x d ∧ DX b H y e ∧ mPart d = true ∧ mPart e = true ∧ Q (.bl (pcpl d e)) H
theorem scPC : FnScope ["part", "other"] ["part", "other"] (defScope sPC) := ⟨rfl, rfl, rfl, by decide +kernel, rfl, by decide +kernel, by decide +kernel⟩
theorem ok_pc {f fC : Addr} {fd fdC : FuncData} (F : Fun K "_parts_couple" "_parts_couple" sPC f fd)
    (gC : mg "couple" = some (.ref fC)) (FC : Fun K "couple" "couple" sCouple fC fdC) (bC : Binds K fdC ["step", "other"] []) (GC : FnOk P w K mg base CX0 2 fC fdC ["step", "other"] spCp) : FnOk P w K mg base CX0 3 f fd ["part", "other"] spPC := by
  refine F.ok scPC (fun vs H Q E h => ?_) (fun cdv A outer s H vs Q E hr h => ?_)
  · obtain ⟨b, x, y, d, e, rfl, _⟩ := h
    rfl
  · obtain ⟨b, x, y, d, e, rfl, hx, hy, hd, he, k⟩ := h
    refine ⟨_, (pss_one (ps_ret (pe_call GC hr rfl gC FC.kp bC .nil pass0 (pa_cons (pe_ix ix_list (pe_ix ix_tup (pv 0) pe_int (fun _ _ => rfl)) (pe_un un_neg pe_int) (fun _ _ => rfl)) (pa_cons (pe_ix ix_list (pe_ix ix_tup (pv 1) pe_int (fun _ _ => rfl)) pe_int (fun _ _ => rfl)) pa_nil))))), ?_⟩
    obtain ⟨m, rs, rfl, m1, l1, al⟩ := part_is hd
    obtain ⟨m', rs', rfl, m1', l1', al'⟩ := part_is he
    obtain ⟨a, c, ys, rfl, na, nc, ha, hc, hys⟩ := partX hx
    obtain ⟨a', c', ys', rfl, na', nc', ha', hc', hys'⟩ := partX hy
    obtain ⟨fv, lv, a0, a1, dF, dL, mF, mL⟩ := rowEnds hys l1 al
    obtain ⟨fv', lv', a0', a1', dF', dL', mF', mL'⟩ := rowEnds hys' l1' al'
    exact ⟨_, rfl, a, _, _, _, rfl, rfl, SqT.of ha, rfl, _, rfl, c, _, _, _, rfl, rfl, SqL.of hc, a1, _, rfl, a', _, _, _, rfl, rfl, SqT.of ha', rfl, c', _, _, _, rfl, rfl, SqL.of hc', a0', b, lv, fv', _, _, rfl, dL, dF', mL, mF', k⟩
end
end K14

namespace K14
open PySem PySem.Spec PyProof.Rows L2 HK
section
variable {P : Program} {w : World} {K : PySem.W.Frag} {mg : Str → Option Value} {base : Heap}
theorem scTrain : FnScope ["thing", "part", "other"] ["thing"] (defScope sTrain) := ⟨rfl, rfl, rfl, by decide +kernel, rfl, by decide +kernel, by decide +kernel⟩
theorem ok_train {f fS fC : Addr} {fd fdS fdC : FuncData} (F : Fun K "is_train" "is_train" sTrain f fd) (T : TxJ mg) (zp : mg "zip" = none) (gS : mg "_is_part" = some (.ref fS)) (FS : Fun K "_is_part" "_is_part" sPart fS fdS) (bS : Binds K fdS ["thing"] []) (GS : FnOk P w K mg base CX0 5 fS fdS ["thing"] (spJ mPart))
    (gC : mg "_parts_couple" = some (.ref fC)) (FC : Fun K "_parts_couple" "_parts_couple" sPC fC fdC) (bC : Binds K fdC ["part", "other"] []) (GC : FnOk P w K mg base CX0 3 fC fdC ["part", "other"] spPC) : FnOk P w K mg base CX0 6 f fd ["thing"] (spJ mTrain) := by
  refine F.ok scTrain (fun vs H Q E h => ?_) (fun cdv A outer s H vs Q E hr h => ?_)
  · obtain ⟨b, x, d, n, rfl, _⟩ := h
    rfl
  · obtain ⟨b, x, d, n, rfl, hx, hs, hn, k⟩ := h
    have nd := scTrain.nd
    have hr2 : Room 3 _ := hr.mono (by decide)
    refine ⟨_, (pss_cons (ps_if (PW.pt (pw_or (pt_not (pt_val (pe_callB call_isi (by rfl) T.n_isi (by decide +kernel) (pa_cons (pv 0) (pa_cons (pe_bltn (v := .ty "list") (by rfl) (T.n_ty "list" (by simp)) (by decide +kernel) rfl) pa_nil))))) (pw_or1 (pt_cmpR op_eq (pe_callB call_len_seq (by rfl) (T.n_ty "len" (by simp)) (by decide +kernel) (pa_cons (pv 0) pa_nil)) pe_int (nomark _)))))
      (pss_one (ps_ret pe_bl))
       pss_nil)
    (pss_cons (ps_if (pt_not (pt_val (pe_callB (cr_all rfl) (by rfl) (T.n_ty "all" (by simp)) (by decide +kernel) (pa_cons (pe_lc (own := [("part", 1)]) (g := (gName 1)) (tt := tYes) rfl nd (pi_list (pv 0)) (blkOk_by (N := ["thing", "part", "other"]) (sc := defScope sTrain) (by decide +kernel)) (fun _ _ _ _ _ => (pg_name (i := 1) nd rfl (Or.inl rfl))) (fun _ _ _ _ _ => pts_nil) (fun _ _ _ _ _ => (pe_call GS hr rfl gS FS.kp bS .nil pass0 (pa_cons (pv 1) pa_nil)))) pa_nil))))
      (pss_one (ps_ret pe_bl))
       pss_nil)
    (pss_one (ps_ret (pe_callB (cr_all rfl) (by rfl) (T.n_ty "all" (by simp)) (by decide +kernel) (pa_cons (pe_lc (own := [("part", 1), ("other", 2)]) (g := gTup K 2 (gCons (gName 1) (gCons (gName 2) gNil))) (tt := tYes) rfl nd (pi_zip (by rfl) zp (pa_cons (pv 0) (pa_cons (pe_slice sl_list (pv 0) (po_some pe_int) po_none) pa_nil))) (blkOk_by (N := ["thing", "part", "other"]) (sc := defScope sTrain) (by decide +kernel)) (fun _ _ _ _ _ => (pg_tup rfl (pgs_cons (pg_name (i := 1) nd rfl (Or.inl rfl)) (pgs_cons (pg_name (i := 2) nd rfl (Or.inl rfl)) pgs_nil)))) (fun _ _ _ _ _ => pts_nil) (fun _ _ _ _ _ => (pe_call GC hr2 rfl gC FC.kp bC .nil pass0 (pa_cons (pv 1) (pa_cons (pv 2) pa_nil))))) pa_nil)))))), ?_⟩
    refine ⟨_, rfl, x, .ty "list", _, _, _, rfl, .ty _, hx.ty, kit_ty (kit_lst d), isLst d, rfl, ?_⟩
    cases h1 : isLst d with
    | false =>
      rw [mTrain_lst h1] at k
      exact iteT (iteT (k H (Same.refl H)))
    | true =>
      obtain ⟨ds, rfl⟩ := lst_is h1
      obtain ⟨a, xs, rfl, na, ha, hxs⟩ := hx.lstI
      have lx := hxs.len
      have ld := hs.lenL
      have line : (300001 : Nat) ≤ sizeLine := by decide
      have eR : mTrain (.list ds) = (!ds.isEmpty && (ds.all mPart && chain pcpl ds)) := rfl
      refine iteF ⟨_, rfl, a, xs, rfl, .inl (SqL.of ha), rfl, _, rfl, ?_⟩
      refine ite2 (fun z => ?_) (fun z => ?_)
      · rw [decide_eq_true_iff] at z
        have z' : (xs.length : Int) = 0 := V.int.inj z
        have e0 : ds = [] := List.length_eq_zero_iff.mp (by omega)
        subst e0
        exact k H (Same.refl H)
      rw [decide_eq_true_iff] at z
      have l1 : 1 ≤ xs.length := by
        rcases Nat.eq_zero_or_pos xs.length with e | e
        · rw [e] at z
          exact absurd rfl z
        · exact e
      have ne : ds.isEmpty = false := by
        cases ds with
        | nil => rw [lx] at l1; exact absurd l1 (by decide)
        | cons _ _ => rfl
      rw [eR, ne, Bool.not_false, Bool.true_and] at k
      refine ⟨_, rfl, a, rfl, ⟨_, SqL.of ha⟩, fun D nD => ?_⟩
      refine lc_list (K := K) (a := a) (xs := xs) (fun i H' => Same H H' ∧ ∃ acc : List Bool, acc.length = i ∧ acc.all id = (ds.take i).all mPart ∧ H' D = some (.lst (acc.map V.bl)))
        ⟨Same.new nD, [], rfl, rfl, upd_same⟩ (fun i H' _ z => SqL.of (z.1 _ _ ha)) ?_ ?_
      · rintro i x H' hi ⟨sm, acc, la, ea, hD⟩
        have li : i < xs.length := (List.getElem?_eq_some_iff.mp hi).1
        obtain ⟨d, hd, dx⟩ := hxs.get hi
        refine ⟨rfl, yes_ok ?_⟩
        refine ⟨_, rfl, b, x, d, n, rfl, dx.same sm, hs.mem d (List.mem_of_getElem? hd), hn, fun H2 s2 => ⟨acc.map V.bl, s2 _ _ hD, by rw [List.length_map]; omega, ?_⟩⟩
        refine ⟨Same.newer (sm.trans s2) nD, acc ++ [mPart d], by rw [List.length_append, la]; rfl, ?_, by rw [upd_same, List.map_append]; rfl⟩
        rw [all_more hd, List.all_append, ea]
        simp
      · rintro H2 ⟨s2, acc, la, ea, hD⟩
        have et : ds.take xs.length = ds := List.take_of_length_le (by omega)
        rw [et] at ea
        refine ⟨D, acc, rfl, SqL.of hD, acc.all id, rfl, ?_⟩
        rw [ea]
        cases h2 : ds.all mPart with
        | false =>
          rw [h2] at k
          exact iteT (k H2 s2)
        | true =>
          rw [h2, Bool.true_and] at k
          refine iteF ?_
          refine ⟨_, rfl, _, rfl, 1, rfl, a, xs, rfl, SqL.of (s2 _ _ ha), fun p np => ?_⟩
          have s3 := Same.new (o := HO.lst (cutV xs (some 1) none)) np
          have ec : cutV xs (some 1) none = xs.drop 1 := cut_tail l1
          have s23 := s2.trans s3
          refine ⟨a, p, xs, xs.drop 1, rfl, SqL.of (s23 _ _ ha), SqL.of (by rw [upd_same, ec]), fun D2 nD2 => ?_⟩
          have hp : upd H2 p (HO.lst (cutV xs (some 1) none)) p = some (.lst (xs.drop 1)) := by rw [upd_same, ec]
          refine lc_zip (K := K) (a := a) (c := p) (xs := xs) (ys := xs.drop 1) (by rw [List.length_drop]; omega) (fun i H' => Same (upd H2 p (HO.lst (cutV xs (some 1) none))) H' ∧ ∃ acc : List Bool, acc.length = i ∧ acc.all id = chainTo pcpl ds i ∧ H' D2 = some (.lst (acc.map V.bl)))
            ⟨Same.new nD2, [], rfl, rfl, upd_same⟩ (fun i H' z => ⟨SqL.of ((s23.trans z.1) _ _ ha), SqL.of (z.1 _ _ hp)⟩) ?_ ?_
          · rintro i x y T H' hi hi' ⟨sm, acc, la, ea, hD2⟩ nT
            have hi2 : xs[i + 1]? = some y := by rw [List.getElem?_drop] at hi'; rw [Nat.add_comm]; exact hi'
            have li : i + 1 < xs.length := (List.getElem?_eq_some_iff.mp hi2).1
            obtain ⟨d, hd, dx⟩ := hxs.get hi
            obtain ⟨e, he, dy⟩ := hxs.get hi2
            have sT := Same.new (o := HO.tup [x, y]) nT
            have sH := s23.trans (sm.trans sT)
            refine ⟨T, _, rfl, SqT.of upd_same, rfl, _, _, rfl, _, _, rfl, rfl, rfl, yes_ok ?_⟩
            refine ⟨_, rfl, _, rfl, b, x, y, d, e, rfl, dx.same sH, dy.same sH, all_nth h2 hd, all_nth h2 he, acc.map V.bl, sT _ _ hD2, by rw [List.length_map]; omega, ?_⟩
            refine ⟨Same.newer (sm.trans sT) nD2, acc ++ [pcpl d e], by rw [List.length_append, la]; rfl, ?_, by rw [upd_same, List.map_append]; rfl⟩
            rw [chainTo_succ, List.all_append, ea, nth_of hd, nth_of he]
            simp
          · rintro H4 ⟨s4, acc, la, ea, hD2⟩
            refine ⟨D2, acc, rfl, SqL.of hD2, ?_⟩
            have e : chain pcpl ds = acc.all id := by
              rw [ea]
              unfold chain
              rw [List.length_drop, lx]
            rw [e] at k
            exact k H4 (s23.trans s4)
end
end K14

namespace K14
open PySem PySem.Spec PyProof.Rows L2 HK
theorem cpl_sym {x y : PyData} : decide (V.str (begD y) = V.str (finD x)) = cpl x y := by
  rw [dec_str]
  exact decide_eq_decide.mpr eq_comm
/-- where a part begins and ends, as the law keeps it -/
def bord (d : PyData) : PyData := .tuple [.str (begD (firstOf (rowOf d))), .str (finD (lastOf (rowOf d)))]
section
variable {P : Program} {w : World} {K : PySem.W.Frag} {mg : Str → Option Value} {base : Heap}
theorem scLPart : FnScope ["_law_thing"] ["_law_thing"] (defScope sLPart) := ⟨rfl, rfl, rfl, by decide +kernel, rfl, by decide +kernel, by decide +kernel⟩
theorem ok_lpart {f fN fR fB fE : Addr} {fd fdN fdR fdB fdE : FuncData} (F : Fun K "_law_is_part" "_law_is_part" sLPart f fd) (T : TxJ mg) (gN : mg "_law_is_int" = some (.ref fN)) (FN : Fun K "_law_is_int" "_law_is_int" sLInt fN fdN) (bN : Binds K fdN ["_law_thing"] [])
    (gR : mg "_law_is_row" = some (.ref fR)) (FR : Fun K "_law_is_row" "_law_is_row" sLRow fR fdR) (bR : Binds K fdR ["_law_thing"] []) (GR : FnOk P w K mg base CX0 4 fR fdR ["_law_thing"] (spJ mRow))
    (gB : mg "_law_begin" = some (.ref fB)) (FB : Fun K "_law_begin" "_law_begin" sLBegin fB fdB) (bB : Binds K fdB ["_law_step"] []) (gE : mg "_law_end" = some (.ref fE)) (FE : Fun K "_law_end" "_law_end" sLEnd fE fdE) (bE : Binds K fdE ["_law_step"] []) : FnOk P w K mg base CX0 5 f fd ["_law_thing"] (spJ mPart) := by
  have GN : FnOk P w K mg base CX0 1 fN fdN _ (spJ mInt) := ok_lint FN T
  have GB : FnOk P w K mg base CX0 1 fB fdB _ (spE begD) := ok_lbegin FB
  have GE : FnOk P w K mg base CX0 1 fE fdE _ (spE finD) := ok_lend FE
  refine F.ok scLPart (fun vs H Q E h => ?_) (fun cdv A outer s H vs Q E hr h => ?_)
  · obtain ⟨b, x, d, n, rfl, _⟩ := h
    rfl
  · obtain ⟨b, x, d, n, rfl, hx, hs, hn, k⟩ := h
    have nd := scLPart.nd
    have hr1 : Room 1 _ := hr.mono (by decide)
    refine ⟨_, (pss_cons (ps_if (PW.pt (pw_or (pt_not (pt_val (pe_callB call_isi (by rfl) T.n_isi (by decide +kernel) (pa_cons (pv 0) (pa_cons (pe_bltn (v := .ty "tuple") (by rfl) (T.n_ty "tuple" (by simp)) (by decide +kernel) rfl) pa_nil)))))
        (pw_or (pt_cmpR op_ne (pe_callB call_len_seq (by rfl) (T.n_ty "len" (by simp)) (by decide +kernel) (pa_cons (pv 0) pa_nil)) pe_int (nomark _))
        (pw_or (pt_not (pt_val (pe_call GN hr1 rfl gN FN.kp bN .nil pass0 (pa_cons (pe_ix ix_tup (pv 0) pe_int (fun _ _ => rfl)) pa_nil))))
        (pw_or1 (pt_cmpR op_lt (pe_ix ix_tup (pv 0) pe_int (fun _ _ => rfl)) pe_int (nomark _)))))))
      (pss_one (ps_ret pe_bl))
       pss_nil)
    (pss_one (ps_ret (pe_and (pe_call GR hr rfl gR FR.kp bR .nil pass0 (pa_cons (pe_ix ix_tup (pv 0) pe_int (fun _ _ => rfl)) pa_nil)) (pe_one (pe_or (pe_cmpR op_eq (pe_ix ix_tup (pv 0) pe_int (fun _ _ => rfl)) pe_int (nomark _)) (pe_one (pe_cmpR op_eq (pe_call GB hr1 rfl gB FB.kp bB .nil pass0 (pa_cons (pe_ix ix_list (pe_ix ix_tup (pv 0) pe_int (fun _ _ => rfl)) pe_int (fun _ _ => rfl)) pa_nil)) (pe_call GE hr1 rfl gE FE.kp bE .nil pass0 (pa_cons (pe_ix ix_list (pe_ix ix_tup (pv 0) pe_int (fun _ _ => rfl)) (pe_un un_neg pe_int) (fun _ _ => rfl)) pa_nil)) (nomark _))))))))), ?_⟩
    refine ⟨_, rfl, x, .ty "tuple", _, _, _, rfl, .ty _, hx.ty, kit_ty (kit_tup d), isTup d, rfl, ?_⟩
    cases h1 : isTup d with
    | false =>
      rw [mPart_tup h1] at k
      exact iteT (iteT (k H (Same.refl H)))
    | true =>
      obtain ⟨ds, rfl⟩ := tup_is h1
      obtain ⟨a, xs, rfl, na, ha, hxs⟩ := hx.tupI
      refine iteF ⟨_, rfl, a, xs, rfl, .inr (SqT.of ha), rfl, _, rfl, ?_⟩
      have lx := hxs.len
      refine ite2 (fun z => ?_) (fun z => ?_)
      · rw [Bool.not_eq_true', decide_eq_false_iff_not] at z
        have l3 : ds.length ≠ 2 := fun q => z (by rw [lx, q]; rfl)
        rw [mPart_len l3] at k
        exact iteT (k H (Same.refl H))
      · rw [Bool.not_eq_true, Bool.not_eq_false', decide_eq_true_iff] at z
        have z' : (xs.length : Int) = 2 := V.int.inj z
        obtain ⟨mD, rD, rfl⟩ := two_of (ds := ds) (by omega)
        obtain ⟨vm, vr, rfl, hm, hrw⟩ := hxs.two
        obtain ⟨sm, sr⟩ := K14.SX.in2 hs
        have eC : mPart (.tuple [mD, rD]) = (mNum 1 mD && (mRow rD && (isOne mD || cpl (lastOf rD) (firstOf rD)))) := rfl
        rw [eC] at k
        refine ⟨_, rfl, a, _, _, _, rfl, rfl, SqT.of ha, rfl, b, vm, mD, n, rfl, hm, sm, hn, fun H1 s1 => ⟨mInt mD, rfl, ?_⟩⟩
        cases e1 : mInt mD with
        | false =>
          have e : mNum 1 mD = false := by cases mD <;> first | rfl | cases e1
          rw [e] at k
          exact iteT (iteT (k H1 s1))
        | true =>
          obtain ⟨m, rfl⟩ : ∃ m, mD = .int m := by cases mD <;> first | exact ⟨_, rfl⟩ | cases e1
          cases hm.intI
          have ha1 := s1 _ _ ha
          refine iteF ⟨_, rfl, a, _, _, _, rfl, rfl, SqT.of ha1, rfl, _, _, rfl, rfl, _, rfl, ?_⟩
          have en : mNum 1 (.int m) = decide (1 ≤ m) := rfl
          rw [en] at k
          refine ite2 (fun z1 => ?_) (fun z1 => ?_)
          · have z1' := of_decide_eq_true z1
            rw [decide_eq_false (show ¬ (1 ≤ m) by omega)] at k
            exact k H1 s1
          rw [decide_eq_true_iff] at z1
          rw [decide_eq_true (show 1 ≤ m by omega), Bool.true_and] at k
          refine ⟨_, rfl, a, _, _, _, rfl, rfl, SqT.of ha1, rfl, b, vr, rD, n, rfl, hrw.same s1, sr, hn, fun H2 s2 => ⟨mRow rD, rfl, ?_⟩⟩
          have s12 := s1.trans s2
          cases e2 : mRow rD with
          | false =>
            rw [e2] at k
            exact iteF (k H2 s12)
          | true =>
            rw [e2, Bool.true_and] at k
            obtain ⟨rs, rfl, l1, al⟩ := row_is e2
            obtain ⟨c, ys, rfl, nc, ec, hys⟩ := (hrw.same s12).lstI
            obtain ⟨fv, lv, a0, a1, dF, dL, mF, mL⟩ := rowEnds hys l1 al
            have ha2 := s12 _ _ ha
            refine iteT ⟨_, rfl, a, _, _, _, rfl, rfl, SqT.of ha2, rfl, rfl, decide (V.int m = V.int 1), rfl, ?_⟩
            have eo : isOne (.int m) = decide (V.int m = V.int 1) := rfl
            rw [eo] at k
            cases h3 : decide (V.int m = V.int 1) with
            | true =>
              rw [h3, Bool.true_or] at k
              exact iteT (k H2 s12)
            | false =>
              rw [h3, Bool.false_or, ← cpl_sym] at k
              exact iteF ⟨_, rfl, a, _, _, _, rfl, rfl, SqT.of ha2, rfl, c, _, _, _, rfl, rfl, SqL.of ec, a0, b, fv, _, rfl, dF, mF, _, rfl, a, _, _, _, rfl, rfl, SqT.of ha2, rfl, _, rfl, c, _, _, _, rfl, rfl, SqL.of ec, a1, b, lv, _, rfl, dL, mL, rfl, k H2 s12⟩
end
end K14

namespace K14
open PySem PySem.Spec PyProof.Rows L2 HK
section
variable {P : Program} {w : World} {K : PySem.W.Frag} {mg : Str → Option Value} {base : Heap}
theorem scLTr : FnScope ["_law_thing", "_law_part", "_law_borders", "_law_many", "_law_row", "_law_k"] ["_law_thing"] (defScope sLTr) := ⟨rfl, rfl, rfl, by decide +kernel, rfl, by decide +kernel, by decide +kernel⟩
theorem ok_ltrain {f fS fB fE : Addr} {fd fdS fdB fdE : FuncData} (F : Fun K "_law_is_train" "_law_is_train" sLTr f fd) (T : TxJ mg) (rg : mg "range" = none) (gS : mg "_law_is_part" = some (.ref fS)) (FS : Fun K "_law_is_part" "_law_is_part" sLPart fS fdS) (bS : Binds K fdS ["_law_thing"] []) (GS : FnOk P w K mg base CX0 5 fS fdS ["_law_thing"] (spJ mPart))
    (gB : mg "_law_begin" = some (.ref fB)) (FB : Fun K "_law_begin" "_law_begin" sLBegin fB fdB) (bB : Binds K fdB ["_law_step"] []) (gE : mg "_law_end" = some (.ref fE)) (FE : Fun K "_law_end" "_law_end" sLEnd fE fdE) (bE : Binds K fdE ["_law_step"] []) : FnOk P w K mg base CX0 6 f fd ["_law_thing"] (spJ mTrain) := by
  have GB : FnOk P w K mg base CX0 1 fB fdB _ (spE begD) := ok_lbegin FB
  have GE : FnOk P w K mg base CX0 1 fE fdE _ (spE finD) := ok_lend FE
  refine F.ok scLTr (fun vs H Q E h => ?_) (fun cdv A outer s H vs Q E hr h => ?_)
  · obtain ⟨b, x, d, n, rfl, _⟩ := h
    rfl
  · obtain ⟨b, x, d, n, rfl, hx, hs, hn, k⟩ := h
    have nd := scLTr.nd
    have hr1 : Room 1 _ := hr.mono (by decide)
    refine ⟨_, (pss_cons (ps_if (PW.pt (pw_or (pt_not (pt_val (pe_callB call_isi (by rfl) T.n_isi (by decide +kernel) (pa_cons (pv 0) (pa_cons (pe_bltn (v := .ty "list") (by rfl) (T.n_ty "list" (by simp)) (by decide +kernel) rfl) pa_nil)))))
        (pw_or (pt_cmpR (op_eqE hr.units) (pv 0) (pe_lst pa_nil) (nomark _))
        (pw_or1 (pt_cmpR (op_neE hr.units) (pe_lc (own := [("_law_part", 1)]) (g := (gName 1)) (tt := _) rfl nd (pi_list (pv 0)) (blkOk_by (N := ["_law_thing", "_law_part", "_law_borders", "_law_many", "_law_row", "_law_k"]) (sc := defScope sLTr) (by decide +kernel)) (fun _ _ _ _ _ => (pg_name (i := 1) nd rfl (Or.inl rfl))) (fun _ _ _ _ _ => (pts_one (pt_not (pt_val (pe_call GS hr rfl gS FS.kp bS .nil pass0 (pa_cons (pv 1) pa_nil)))))) (fun _ _ _ _ _ => (pv 1))) (pe_lst pa_nil) (nomark _))))))
      (pss_one (ps_ret pe_bl))
       pss_nil)
    (pss_cons (ps_set (i := 2) nd rfl (Or.inr rfl) (pe_lc (own := [("_law_many", 3), ("_law_row", 4)]) (g := gTup K 2 (gCons (gName 3) (gCons (gName 4) gNil))) (tt := tYes) rfl nd (pi_list (pv 0)) (blkOk_by (N := ["_law_thing", "_law_part", "_law_borders", "_law_many", "_law_row", "_law_k"]) (sc := defScope sLTr) (by decide +kernel)) (fun _ _ _ _ _ => (pg_tup rfl (pgs_cons (pg_name (i := 3) nd rfl (Or.inl rfl)) (pgs_cons (pg_name (i := 4) nd rfl (Or.inl rfl)) pgs_nil)))) (fun _ _ _ _ _ => pts_nil)
        (fun _ _ _ _ _ => (pe_tup (pa_cons (pe_call GB hr1 rfl gB FB.kp bB .nil pass0 (pa_cons (pe_ix (show IxR _ (rIxL K) from ix_list) (pv 4) pe_int (fun _ _ => rfl)) pa_nil)) (pa_cons (pe_call GE hr1 rfl gE FE.kp bE .nil pass0 (pa_cons (pe_ix (show IxR _ (rIxL K) from ix_list) (pv 4) (pe_un un_neg pe_int) (fun _ _ => rfl)) pa_nil)) pa_nil))))))
    (pss_one (ps_ret (pe_cmpR (op_eqE hr.units) (pe_lc (own := [("_law_k", 5)]) (g := (gName 5)) (tt := _) rfl nd (pi_range2 (by rfl) rg (pa_cons pe_int (pa_cons (pe_callB call_len_seq (by rfl) (T.n_ty "len" (by simp)) (by decide +kernel) (pa_cons (pv 2) pa_nil)) pa_nil))) (blkOk_by (N := ["_law_thing", "_law_part", "_law_borders", "_law_many", "_law_row", "_law_k"]) (sc := defScope sLTr) (by decide +kernel)) (fun _ _ _ _ _ => (pg_name (i := 5) nd rfl (Or.inl rfl)))
        (fun _ _ _ _ _ => (pts_one (pt_cmpR op_ne (pe_ix (show IxR _ (rIxT K) from ix_tup) (pe_ix (show IxR _ (rIxL K) from ix_list) (pv 2) (pe_op op_sub (pv 5) pe_int) (fun _ _ => rfl)) pe_int (fun _ _ => rfl)) (pe_ix (show IxR _ (rIxT K) from ix_tup) (pe_ix (show IxR _ (rIxL K) from ix_list) (pv 2) (pv 5) (fun _ _ => rfl)) pe_int (fun _ _ => rfl)) (nomark _)))) (fun _ _ _ _ _ => (pv 5))) (pe_lst pa_nil) (nomark _)))))), ?_⟩
    refine ⟨_, rfl, x, .ty "list", _, _, _, rfl, .ty _, hx.ty, kit_ty (kit_lst d), isLst d, rfl, ?_⟩
    cases h1 : isLst d with
    | false =>
      rw [mTrain_lst h1] at k
      exact iteT (iteT (k H (Same.refl H)))
    | true =>
      obtain ⟨ds, rfl⟩ := lst_is h1
      obtain ⟨a, xs, rfl, na, ha, hxs⟩ := hx.lstI
      have lx := hxs.len
      have ld := hs.lenL
      have line : (300001 : Nat) ≤ sizeLine := by decide
      have l0 : (0 : Nat) ≤ sizeLine := Nat.zero_le _
      have eR : mTrain (.list ds) = (!ds.isEmpty && (ds.all mPart && chain pcpl ds)) := rfl
      refine iteF ⟨_, rfl, l0, fun p np => ?_⟩
      have s1 := Same.new (o := HO.lst []) np
      refine ⟨a, p, xs, rfl, rfl, s1 _ _ ha, upd_same, xs.isEmpty, rfl, ?_⟩
      cases he : xs.isEmpty with
      | true =>
        have e0 : ds = [] := by
          have : xs = [] := List.isEmpty_iff.mp he
          subst this
          exact List.length_eq_zero_iff.mp lx.symm
        subst e0
        exact iteT (iteT (k _ s1))
      | false =>
        have l1 : 1 ≤ xs.length := by
          rcases Nat.eq_zero_or_pos xs.length with e | e
          · rw [List.length_eq_zero_iff.mp e] at he
            cases he
          · exact e
        have ne : ds.isEmpty = false := by
          cases ds with
          | nil => rw [lx] at l1; exact absurd l1 (by decide)
          | cons _ _ => rfl
        rw [eR, ne, Bool.not_false, Bool.true_and] at k
        refine iteF ⟨_, rfl, a, rfl, ⟨_, SqL.of (s1 _ _ ha)⟩, fun D nD => ?_⟩
        refine lc_list (K := K) (a := a) (xs := xs) (fun i H' => Same H H' ∧ ∃ acc : List V, acc.length ≤ i ∧ acc.isEmpty = (ds.take i).all mPart ∧ H' D = some (.lst acc))
          ⟨s1.trans (Same.new nD), [], Nat.le_refl _, rfl, upd_same⟩ (fun i H' _ z => SqL.of (z.1 _ _ ha)) ?_ ?_
        · rintro i x H' hi ⟨sm, acc, la, ea, hD⟩
          have li : i < xs.length := (List.getElem?_eq_some_iff.mp hi).1
          obtain ⟨d, hd, dx⟩ := hxs.get hi
          refine ⟨rfl, ?_⟩
          refine ⟨_, rfl, b, x, d, n, rfl, dx.same sm, hs.mem d (List.mem_of_getElem? hd), hn, fun H2 s2 => ⟨mPart d, rfl, ?_⟩⟩
          have hDH : H D = none := (s1.free nD)
          have em := all_more (p := mPart) hd
          cases hm : mPart d with
          | true =>
            refine iteF ⟨sm.trans s2, acc, by omega, ?_, s2 _ _ hD⟩
            rw [em, hm, Bool.and_true, ea]
          | false =>
            refine iteT ⟨_, rfl, acc, s2 _ _ hD, by omega, Same.newer (sm.trans s2) hDH, acc ++ [x], by rw [List.length_append]; show acc.length + 1 ≤ _; omega, ?_, upd_same⟩
            rw [em, hm, Bool.and_false, empty_app]
        · rintro H2 ⟨s2, acc, la, ea, hD⟩
          have et : ds.take xs.length = ds := List.take_of_length_le (by omega)
          rw [et] at ea
          refine ⟨l0, fun q nq => ⟨D, q, acc, rfl, rfl, (Same.new nq) _ _ hD, upd_same, !acc.isEmpty, rfl, ?_⟩⟩
          have s3 := s2.trans (Same.new (o := HO.lst []) nq)
          rw [ea]
          cases h2 : ds.all mPart with
          | false =>
            rw [h2] at k
            exact iteT (k _ s3)
          | true =>
            rw [h2, Bool.true_and] at k
            refine iteF ?_
            generalize upd H2 q (HO.lst []) = H3 at s3 ⊢
            refine ⟨_, rfl, a, rfl, ⟨_, SqL.of (s3 _ _ ha)⟩, fun D1 nD1 => ?_⟩
            refine lc_list (K := K) (a := a) (xs := xs) (fun i H' => Same H3 H' ∧ ∃ acc : List V, acc.length = i ∧ DXs D1 H' acc ((ds.take i).map bord) ∧ H' D1 = some (.lst acc))
              ⟨Same.new nD1, [], rfl, .nil, upd_same⟩ (fun i H' _ z => SqL.of ((s3.trans z.1) _ _ ha)) ?_ ?_
            · rintro i x H' hi ⟨sm, acc, la, da, hD1⟩
              have li : i < xs.length := (List.getElem?_eq_some_iff.mp hi).1
              obtain ⟨d, hd, dx⟩ := hxs.get hi
              have hdp := all_nth h2 hd
              obtain ⟨m, rs, rfl, m1, l1', al⟩ := part_is hdp
              have dx' := dx.same (s3.trans sm)
              obtain ⟨pa, c, ys, rfl, npa, nc, hpa, hc, hys⟩ := partX dx'
              obtain ⟨fv, lv, a0, a1, dF, dL, mF, mL⟩ := rowEnds hys l1' al
              refine ⟨pa, _, rfl, SqT.of hpa, rfl, _, _, rfl, _, _, rfl, rfl, rfl, yes_ok ?_⟩
              refine ⟨_, rfl, c, _, _, _, rfl, rfl, SqL.of hc, a0, b, fv, _, rfl, dF, mF, _, rfl, _, rfl, c, _, _, _, rfl, rfl, SqL.of hc, a1, b, lv, _, rfl, dL, mL, by show 2 ≤ sizeLine; decide, fun t nt => ?_⟩
              have st := Same.new (o := HO.tup [.str (begD (firstOf (.list rs))), .str (finD (lastOf (.list rs)))]) nt
              have nt1 : t ≠ D1 := (ne_of_none hD1 nt).symm
              refine ⟨acc, st _ _ hD1, by omega, Same.newer (sm.trans st) nD1, acc ++ [.ref t], by rw [List.length_append, la]; rfl, ?_, upd_same⟩
              have em : (ds.take (i + 1)).map bord = (ds.take i).map bord ++ [bord (.tuple [.int m, .list rs])] := by
                rw [List.take_add_one, hd, List.map_append]
                rfl
              rw [em]
              refine ((da.same st).append (.cons ?_ .nil)).kept keep_at
              exact DX.newT (ds := [.str (begD (firstOf (.list rs))), .str (finD (lastOf (.list rs)))]) nt1 nt (.cons (.str _) (.cons (.str _) .nil))
            · rintro H4 ⟨s4, acc, la, da, hD1⟩
              have et1 : ds.take xs.length = ds := List.take_of_length_le (by omega)
              rw [et1] at da
              have s34 := s3.trans s4
              have big : (2 : Int) ^ 62 = 4611686018427387904 := by decide
              refine ⟨_, rfl, D1, acc, rfl, .inl (SqL.of hD1), 1, _, rfl, ⟨by decide, by decide, by omega, by omega⟩, fun D2 nD2 => ?_⟩
              have en : ((acc.length : Int) - 1).toNat = xs.length - 1 := by omega
              rw [en]
              refine lc_range (lo := 1) (n := xs.length - 1) (fun i H' => Same H4 H' ∧ ∃ bcc : List V, bcc.length ≤ i ∧ bcc.isEmpty = chainTo pcpl ds i ∧ H' D2 = some (.lst bcc))
                ⟨Same.new nD2, [], Nat.le_refl _, rfl, upd_same⟩ ?_ ?_
              · rintro i H' hi ⟨sm, bcc, lb, eb, hD2⟩
                have hx0 : acc[i]? = some (acc[i]'(by omega)) := List.getElem?_eq_getElem (by omega)
                have hx1 : acc[i + 1]? = some (acc[i + 1]'(by omega)) := List.getElem?_eq_getElem (by omega)
                obtain ⟨d0, hd0, dx⟩ := da.get hx0
                obtain ⟨e0, he0, dy⟩ := da.get hx1
                obtain ⟨d, hd, rfl⟩ : ∃ d, ds[i]? = some d ∧ bord d = d0 := by simpa [List.getElem?_map] using hd0
                obtain ⟨e, he', rfl⟩ : ∃ d, ds[i + 1]? = some d ∧ bord d = e0 := by simpa [List.getElem?_map] using he0
                obtain ⟨t0, ts0, et0, _, ht0, dt0⟩ := (dx.same sm).tupI
                obtain ⟨u1, u2, rfl, q1, q2⟩ := dt0.two
                cases q1.strI
                cases q2.strI
                obtain ⟨t1, ts1, et1', _, ht1, dt1⟩ := (dy.same sm).tupI
                obtain ⟨w1, w2, rfl, r1, r2⟩ := dt1.two
                cases r1.strI
                cases r2.strI
                have a0 : atI acc (1 + (i : Int) - 1) = some (.ref t0) := by
                  have z : (1 + (i : Int) - 1) = (i : Int) := by omega
                  rw [z, ← et0]
                  exact atI_nat hx0
                have a1 : atI acc (1 + (i : Int)) = some (.ref t1) := by
                  have z : (1 + (i : Int)) = ((i + 1 : Nat) : Int) := by omega
                  rw [z, ← et1']
                  exact atI_nat hx1
                refine ⟨rfl, ?_⟩
                refine ⟨_, rfl, _, rfl, _, _, rfl, rfl, D1, _, _, _, rfl, rfl, SqL.of (sm _ _ hD1), a0, t0, _, _, _, rfl, rfl, SqT.of ht0, rfl, _, rfl, _, rfl, D1, _, _, _, rfl, rfl, SqL.of (sm _ _ hD1), a1, t1, _, _, _, rfl, rfl, SqT.of ht1, rfl, rfl, !pcpl d e, congrArg V.bl cpl_ne, ?_⟩
                have em : chainTo pcpl ds (i + 1) = (chainTo pcpl ds i && pcpl d e) := by rw [chainTo_succ, nth_of hd, nth_of he']
                cases hm : pcpl d e with
                | true =>
                  refine iteF ⟨sm, bcc, by omega, ?_, hD2⟩
                  rw [em, hm, Bool.and_true, eb]
                | false =>
                  refine iteT ⟨_, rfl, bcc, hD2, by omega, Same.newer sm nD2, bcc ++ [_], by rw [List.length_append]; show bcc.length + 1 ≤ _; omega, ?_, upd_same⟩
                  rw [em, hm, Bool.and_false, empty_app]
              · rintro H5 ⟨s5, bcc, lb, eb, hD2⟩
                refine ⟨l0, fun r nr => ⟨D2, r, bcc, rfl, rfl, (Same.new nr) _ _ hD2, upd_same, ?_⟩⟩
                have e : chain pcpl ds = bcc.isEmpty := by
                  rw [eb]
                  unfold chain
                  rw [lx]
                rw [e] at k
                exact k _ (s34.trans (s5.trans (Same.new nr)))
end
end K14

namespace HK
open PySem PySem.Spec PyProof.Rows L2
theorem SXs.all {n m : Nat} : ∀ {ds : List PyData}, (∀ d ∈ ds, SX d n m) → SXs ds ((n + 1) * ds.length) m
  | [], _ => SXs.nil
  | d :: ds, h => by
    have := SXs.cons (h d List.mem_cons_self) (SXs.all fun e he => h e (List.mem_cons_of_mem _ he))
    refine this.mono ?_ (Nat.le_refl _)
    simp only [List.length_cons, Nat.mul_add, Nat.mul_one]
    omega
theorem sum_take {ds : List PyData} {i : Nat} {d : PyData} (h : ds[i]? = some d) : ((ds.take (i + 1)).map fun d => d.weight + 1).sum = ((ds.take i).map fun d => d.weight + 1).sum + (d.weight + 1) := by
  rw [List.take_add_one, h, List.map_append, List.sum_append]
  simp
theorem sum_insert {es : List PyData} {j : Nat} {d : PyData} : ((es.take j ++ [d] ++ es.drop j).map fun d => d.weight + 1).sum = (es.map fun d => d.weight + 1).sum + (d.weight + 1) := by
  have e : (es.map fun d => d.weight + 1).sum = ((es.take j).map fun d => d.weight + 1).sum + ((es.drop j).map fun d => d.weight + 1).sum := by
    rw [← List.sum_append, ← List.map_append, List.take_append_drop]
  rw [List.map_append, List.map_append, List.sum_append, List.sum_append, e]
  simp only [List.map_cons, List.map_nil, List.sum_cons, List.sum_nil]
  omega
end HK
namespace K14
open PySem PySem.Spec PyProof.Rows L2 HK
structure KL (b : Addr) (H : Hp) (kl : Addr) (ks : List Str) : Prop where
  at' : H kl = some (.lst (ks.map V.str))
  nb : kl ≠ b
  lo : 1 ≤ ks.length
  hi : ks.length ≤ 8
  ok : ∀ k ∈ ks, KindS k
theorem KL.kept {b kl : Addr} {H H' : Hp} {ks : List Str} (h : KL b H kl ks) (k : Keep b H H') : KL b H' kl ks := ⟨k _ _ h.nb h.at', h.nb, h.lo, h.hi, h.ok⟩
def RowS (es : List PyData) (n : Nat) : Prop := 1 ≤ es.length ∧ es.length ≤ n ∧ ∀ e ∈ es, ∃ f k t u, e = dSt f k t u ∧ KindS f ∧ KindS k
theorem dSt_ok {f k : Str} {t u : Bool} (hf : KindS f) (hk : KindS k) : SX (dSt f k t u) 30 2 := by
  have c : SX (.tuple [.str f, .str k, .bool t]) 19 1 := ((SXs.cons (SX.str hf.asc hf.hi) (SXs.cons (SX.str hk.asc hk.hi) (SXs.cons (SX.bool t) SXs.nil))).tuple).mono (by decide) (by decide)
  exact ((SXs.cons c (SXs.cons ((SX.bool u).mono (Nat.le_refl _) (Nat.zero_le 1)) SXs.nil)).tuple).mono (by decide) (by decide)
theorem RowS.sx {es : List PyData} (h : RowS es 5) : SX (.list es) 155 3 := by
  have z : SXs es ((30 + 1) * es.length) 2 := SXs.all fun d hd => by
    obtain ⟨f, k, t, u, rfl, hf, hk⟩ := h.2.2 d hd
    exact dSt_ok hf hk
  have l := h.2.1
  exact (z.list).mono (by omega) (by decide)
theorem newStepA {S : Addr → Prop} {c t : Addr} {H : Hp} {f k : Str} {x u : Bool} (hS : ∀ q, S q → H q ≠ none) (nc : H c = none) (nt : (upd H c (.tup [.str f, .str k, .bl x])) t = none) :
    DA S (upd (upd H c (.tup [.str f, .str k, .bl x])) t (.tup [.ref c, .bl u])) (.ref t) (dSt f k x u) := by
  have z := DA.newT (S := S) (vs := [.str f, .str k, .bl x]) (ds := [.str f, .str k, .bool x]) hS nc (fun q _ => .cons (.str f) (.cons (.str k) (.cons (.bl x) .nil)))
  exact DA.newT (told_same hS (Same.new nc)) nt (fun q hq => .cons (z q hq) (.cons (.bl u) .nil))
section
variable {P : Program} {w : World} {K : PySem.W.Frag} {mg : Str → Option Value} {base : Heap}
def spStepA : Sp := fun vs H Q _ => ∃ (b : Addr) (x y : Str), vs = [.ref b, .str x, .str y] ∧ Bag b H ∧ KindS x ∧ KindS y ∧ ∀ f k t u v H', KindS f → KindS k → Bag b H' → Keep b H H' → DA (Told H) H' v (dSt f k t u) → Q v H'
theorem ok_stepA {f fT : Addr} {fd fdT : FuncData} (F : Fun K "_law_step_on" "_law_step_on" sStepOn f fd) (T : TxB mg) (M : TxM mg) (gT : mg "_law_take" = some (.ref fT)) (FT : Fun K "_law_take" "_law_take" sTake fT fdT) (bT : Binds K fdT ["_law_bag_here", "_law_many"] []) :
    FnOk P w K mg base CX0 2 f fd ["_law_bag_here", "_law_here", "_law_there"] spStepA := by
  have GT : FnOk P w K mg base CX0 1 fT fdT _ spTake := ok_take FT T
  refine F.ok scStepOn (fun vs H Q E h => ?_) (fun cdv A outer s H vs Q E hr h => ?_)
  · obtain ⟨b, x, y, rfl, _⟩ := h
    rfl
  · obtain ⟨b, x, y, rfl, g, kx, ky, k⟩ := h
    have nd := scStepOn.nd
    refine ⟨_, (pss_cons (ps_if (pt_cmpR op_eq (pe_call GT hr rfl gT FT.kp bT .nil pass0 (pa_cons (pv 0) (pa_cons pe_int pa_nil))) pe_int (nomark _))
      (pss_one (ps_ret (pe_tup (pa_cons (pe_tup (pa_cons (pv 1) (pa_cons (pv 2) (pa_cons pe_bl pa_nil)))) (pa_cons pe_bl pa_nil)))))
       pss_nil)
    (pss_one (ps_ret (pe_tup (pa_cons (pe_tup (pa_cons (pe_callB (call_minS rfl) (by rfl) M.n_min (by decide +kernel) (pa_cons (pv 1) (pa_cons (pv 2) pa_nil))) (pa_cons (pe_callB (call_maxS rfl) (by rfl) M.n_max (by decide +kernel) (pa_cons (pv 1) (pa_cons (pv 2) pa_nil))) (pa_cons pe_bl pa_nil)))) (pa_cons (pe_cmpR op_ltS (pv 2) (pv 1) (nomark _)) pa_nil)))))), ?_⟩
    refine ⟨_, rfl, b, 2, rfl, g, by decide, by decide, fun way H1 w0 w1 g1 k1 => ⟨rfl, _, rfl, ?_⟩⟩
    refine ite2 (fun z => ?_) (fun z => ?_)
    · refine ⟨_, rfl, _, rfl, by show 3 ≤ sizeLine; decide, fun c nc => ⟨by show 2 ≤ sizeLine; decide, fun t nt => k x y false false _ _ kx ky ?_ ?_ (newStepA k1.on nc nt)⟩⟩
      · exact g1.same (Same.newer (Same.new nc) ((Same.new nc).free nt))
      · exact k1.trans (Keep.of (Same.newer (Same.new nc) ((Same.new nc).free nt)))
    · refine ⟨_, rfl, _, rfl, x, y, rfl, _, rfl, _, rfl, x, y, rfl, by show 3 ≤ sizeLine; decide, fun c nc => ⟨_, rfl, _, rfl, y, x, rfl, rfl, by show 2 ≤ sizeLine; decide, fun t nt => k (minS x y) (maxS x y) true _ _ _ (kx.min ky) (kx.max ky) ?_ ?_ (newStepA k1.on nc nt)⟩⟩
      · exact g1.same (Same.newer (Same.new nc) ((Same.new nc).free nt))
      · exact k1.trans (Keep.of (Same.newer (Same.new nc) ((Same.new nc).free nt)))
def spEs : Sp := fun vs H Q _ => ∃ (b : Addr) (x : V) (f k : Str) (t u : Bool), vs = [x] ∧ DX b H x (dSt f k t u) ∧ Q (.str (if u then f else k)) H
theorem ok_lendS {f : Addr} {fd : FuncData} (F : Fun K "_law_end" "_law_end" sLEnd f fd) : FnOk P w K mg base CX0 1 f fd ["_law_step"] spEs := by
  refine F.ok scLEnd (fun vs H Q E h => ?_) (fun cdv A outer s H vs Q E hr h => ?_)
  · obtain ⟨b, x, f0, k0, t0, u0, rfl, _⟩ := h
    rfl
  · obtain ⟨b, x, f0, k0, t0, u0, rfl, hx, k⟩ := h
    obtain ⟨a, c, rfl, n, nc, e, ec⟩ := stepX hx
    refine ⟨_, (pss_one (ps_ret (pe_ifExp (pt_val (pe_ix ix_tup (pv 0) pe_int (fun _ _ => rfl))) (pe_ix ix_tup (pe_ix ix_tup (pv 0) pe_int (fun _ _ => rfl)) pe_int (fun _ _ => rfl)) (pe_ix ix_tup (pe_ix ix_tup (pv 0) pe_int (fun _ _ => rfl)) pe_int (fun _ _ => rfl))))), ?_⟩
    refine ⟨_, rfl, a, _, _, _, rfl, rfl, SqT.of e, rfl, u0, rfl, ?_⟩
    cases u0 with
    | false => exact iteF ⟨_, rfl, a, _, _, _, rfl, rfl, SqT.of e, rfl, c, _, _, _, rfl, rfl, SqT.of ec, rfl, k⟩
    | true => exact iteT ⟨_, rfl, a, _, _, _, rfl, rfl, SqT.of e, rfl, c, _, _, _, rfl, rfl, SqT.of ec, rfl, k⟩
/-! mixed -/
def spMix : Sp := fun vs H Q _ => ∃ (b a : Addr) (xs : List V) (ds : List PyData) (W m : Nat), vs = [.ref b, .ref a] ∧ Bag b H ∧ a ≠ b ∧ H a = some (.lst xs) ∧ DXs b H xs ds ∧ SXs ds W m ∧ W ≤ 100000 ∧
  ∀ p ys es H', p ≠ b → H' p = some (.lst ys) → DXs b H' ys es → SXs es W m → Bag b H' → Keep b H H' → Q (.ref p) H'
theorem scMixed : FnScope ["_law_bag_here", "_law_things", "_law_found", "_law_thing"] ["_law_bag_here", "_law_things"] (defScope sMixed) := ⟨rfl, rfl, rfl, by decide +kernel, rfl, by decide +kernel, by decide +kernel⟩
theorem ok_mixed {f fT : Addr} {fd fdT : FuncData} (F : Fun K "_law_mixed" "_law_mixed" sMixed f fd) (T : TxB mg) (gT : mg "_law_take" = some (.ref fT)) (FT : Fun K "_law_take" "_law_take" sTake fT fdT) (bT : Binds K fdT ["_law_bag_here", "_law_many"] []) :
    FnOk P w K mg base CX0 2 f fd ["_law_bag_here", "_law_things"] spMix := by
  have GT : FnOk P w K mg base CX0 1 fT fdT _ spTake := ok_take FT T
  refine F.ok scMixed (fun vs H Q E h => ?_) (fun cdv A outer s H vs Q E hr h => ?_)
  · obtain ⟨b, a, xs, ds, W, m, rfl, _⟩ := h
    rfl
  · obtain ⟨b, a, xs, ds, W, m, rfl, g, nab, ha, hxs, sds, hW, k⟩ := h
    have nd := scMixed.nd
    refine ⟨_, (pss_cons (ps_set (i := 2) nd rfl (Or.inl rfl) (pe_lst pa_nil))
    (pss_cons (ps_for PassesOwn.never rfl (pi_list (pv 1)) (pg_name (i := 3) nd rfl (Or.inl rfl))
      (pss_one (ps_expr (pe_bm PySem.F.plainAttrs_list PySem.F.slot_list_insert PySem.F.type_list_insert mt_insert (pv 2) (pa_cons (pe_call GT hr rfl gT FT.kp bT .nil pass0 (pa_cons (pv 0) (pa_cons (pe_op op_add (pe_callB call_len_seq (by rfl) T.n_len (by decide +kernel) (pa_cons (pv 2) pa_nil)) pe_int) pa_nil))) (pa_cons (pv 3) pa_nil))))))
    (pss_one (ps_ret (pv 2))))), ?_⟩
    refine ⟨by show 0 ≤ sizeLine; decide, fun p np => ?_⟩
    have s1 := Same.new (o := HO.lst []) np
    have npb := g.ne np
    have lx := hxs.len
    have ld := sds.len
    have line : (100001 : Nat) ≤ sizeLine := by decide
    let S : Addr → Prop := fun q => q = b ∨ q = p
    have Sb : S b := .inl rfl
    have Sp' : S p := .inr rfl
    have e0 : DAs S H xs ds := fun q hq => by
      rcases hq with rfl | rfl
      · exact hxs
      · exact DXs.un np ds hxs
    refine ⟨_, rfl, a, rfl, ⟨_, SqL.of (s1 _ _ ha)⟩, for_list (K := K) (a := a) (xs := xs) (fun i σ H' => Bag b H' ∧ Keep b H H' ∧ ∃ ys es v3, ys.length = i ∧ H' p = some (.lst ys) ∧ DAs S H' ys es ∧ (∀ e ∈ es, e ∈ ds) ∧ (es.map fun d => d.weight + 1).sum = ((ds.take i).map fun d => d.weight + 1).sum ∧ σ = [some (.ref b), some (.ref a), some (.ref p), v3])
      ⟨g.same s1, Keep.of s1, [], [], _, rfl, upd_same, fun _ _ => .nil, fun _ h => (List.not_mem_nil h).elim, rfl, rfl⟩ (fun i σ H' _ z => SqL.of (z.2.1 _ _ nab ha)) ?_ ?_⟩
    · rintro i x σ H' hi ⟨g', k', ys, es, v3, ly, hp, de, me, we, rfl⟩
      have li : i < xs.length := (List.getElem?_eq_some_iff.mp hi).1
      obtain ⟨d, hd, _⟩ := hxs.get hi
      have ex : DA S H x d := fun q hq => by
        obtain ⟨d', h', x'⟩ := (e0 q hq).get hi
        rw [hd] at h'
        cases h'
        exact x'
      refine ⟨_, rfl, .inl ⟨rfl, _, SqL.of hp⟩, _, rfl, _, rfl, p, ys, rfl, .inl (SqL.of hp), _, _, rfl, rfl, b, _, rfl, g', by omega, by omega, fun r H2 r0 r1 g2 k2 => ⟨_, rfl, ?_⟩⟩
      have big : (2 : Int) ^ 63 = 9223372036854775808 := by decide
      have hp2 := k2 _ _ npb hp
      refine ⟨p, ys, r, x, rfl, rfl, hp2, by omega, by omega, by omega, ?_⟩
      have k02 := k'.trans k2
      have de2 := de.kept Sb k2.k
      have ex2 := ex.kept Sb k02.k
      have e7 : DAs S H2 (ys.take r.toNat ++ [x] ++ ys.drop r.toNat) (es.take r.toNat ++ [d] ++ es.drop r.toNat) := fun q hq => (((de2 q hq).take _).append (.cons (ex2 q hq) .nil)).append ((de2 q hq).drop _)
      refine ⟨k02.bag g np, k02.newer np, _, _, _, ?_, upd_same, e7.kept Sp' keep_at, ?_, ?_, rfl⟩
      · rw [List.length_append, List.length_append, List.length_take, List.length_drop]
        simp only [List.length_cons, List.length_nil]
        omega
      · intro e he
        rcases List.mem_append.mp he with he | he
        · rcases List.mem_append.mp he with he | he
          · exact me e (List.mem_of_mem_take he)
          · rw [List.mem_singleton.mp he]
            exact List.mem_of_getElem? hd
        · exact me e (List.mem_of_mem_drop he)
      · rw [sum_insert, sum_take hd, we]
    · rintro σ H' ⟨g', k', ys, es, v3, ly, hp, de, me, we, rfl⟩
      have et : ds.take xs.length = ds := List.take_of_length_le (by omega)
      rw [et] at we
      exact ⟨_, rfl, k p ys es H' npb hp (de b Sb) ⟨fun e he => sds.each e (me e he), by rw [we]; exact sds.w⟩ g' k'⟩
/-! a row -/
def spRow (n : Nat) : Sp := fun vs H Q _ => ∃ (b kl : Addr) (ks : List Str) (h : Str) (u : Int), vs = [.ref b, .ref kl, .str h, .int u] ∧ Bag b H ∧ KL b H kl ks ∧ KindS h ∧ 1 ≤ u ∧ u ≤ 4 ∧
  ∀ p ys es H', H p = none → H' p = some (.lst ys) → DAs (fun q => Told H q ∨ q = p) H' ys es → RowS es (u.toNat + n) → ys.length = es.length → Bag b H' → Keep b H H' → Q (.ref p) H'
theorem scRowFrom : FnScope ["_law_bag_here", "_law_kinds_here", "_law_here", "_law_upto", "_law_found", "_law_k", "_law_there"] ["_law_bag_here", "_law_kinds_here", "_law_here", "_law_upto"] (defScope sRowFrom) := ⟨rfl, rfl, rfl, by decide +kernel, rfl, by decide +kernel, by decide +kernel⟩
theorem ok_rowfrom {f fT fO fS : Addr} {fd fdT fdO fdS : FuncData} (F : Fun K "_law_row_from" "_law_row_from" sRowFrom f fd) (T : TxB mg) (rg : mg "range" = none) (M : TxM mg) (gT : mg "_law_take" = some (.ref fT)) (FT : Fun K "_law_take" "_law_take" sTake fT fdT) (bT : Binds K fdT ["_law_bag_here", "_law_many"] [])
    (gO : mg "_law_one" = some (.ref fO)) (FO : Fun K "_law_one" "_law_one" sOne fO fdO) (bO : Binds K fdO ["_law_bag_here", "_law_things"] []) (gS : mg "_law_step_on" = some (.ref fS)) (FS : Fun K "_law_step_on" "_law_step_on" sStepOn fS fdS) (bS : Binds K fdS ["_law_bag_here", "_law_here", "_law_there"] []) :
    FnOk P w K mg base CX0 3 f fd ["_law_bag_here", "_law_kinds_here", "_law_here", "_law_upto"] (spRow 0) := by
  have GT : FnOk P w K mg base CX0 1 fT fdT _ spTake := ok_take FT T
  have GO : FnOk P w K mg base CX0 2 fO fdO _ spOne := ok_one FO T gT FT bT
  have GS : FnOk P w K mg base CX0 2 fS fdS _ spStepA := ok_stepA FS T M gT FT bT
  refine F.ok scRowFrom (fun vs H Q E h => ?_) (fun cdv A outer s H vs Q E hr h => ?_)
  · obtain ⟨b, kl, ks, h0, u, rfl, _⟩ := h
    rfl
  · obtain ⟨b, kl, ks, h0, u, rfl, g, hk, kh, u1, u4, k⟩ := h
    have nd := scRowFrom.nd
    have hr1 : Room 1 _ := hr.mono (by decide)
    refine ⟨_, (pss_cons (ps_set (i := 4) nd rfl (Or.inl rfl) (pe_lst pa_nil))
    (pss_cons (ps_for PassesOwn.never rfl (pi_range1 (by rfl) rg (pa_cons (pe_op op_add pe_int (pe_call GT hr1 rfl gT FT.kp bT .nil pass0 (pa_cons (pv 0) (pa_cons (pv 3) pa_nil)))) pa_nil)) (pg_name (i := 5) nd rfl (Or.inl rfl))
      (pss_cons (ps_set (i := 6) nd rfl (Or.inl rfl) (pe_call GO hr rfl gO FO.kp bO .nil pass0 (pa_cons (pv 0) (pa_cons (pv 1) pa_nil))))
      (pss_cons (ps_expr (pe_bm PySem.F.plainAttrs_list PySem.F.slot_list_append PySem.F.type_list_append mt_append (pv 4) (pa_cons (pe_call GS hr rfl gS FS.kp bS .nil pass0 (pa_cons (pv 0) (pa_cons (pv 2) (pa_cons (pv 6) pa_nil)))) pa_nil)))
      (pss_one (ps_set (i := 2) nd rfl (Or.inl rfl) (pv 6))))))
    (pss_one (ps_ret (pv 4))))), ?_⟩
    refine ⟨by show 0 ≤ sizeLine; decide, fun p np => ?_⟩
    have s1 := Same.new (o := HO.lst []) np
    have npb := g.ne np
    have hb : Told H b := fun z => (g.ne z) rfl
    let S : Addr → Prop := fun q => Told H q ∨ q = p
    have Sb : S b := .inl hb
    have Sp' : S p := .inr rfl
    refine ⟨_, rfl, _, rfl, b, u, rfl, g.same s1, u1, by omega, fun r H1 r0 r1 g1 k1 => ⟨_, _, rfl, rfl, ?_⟩⟩
    have k01 := (Keep.of s1).trans k1
    have hp1 := k1 _ _ npb upd_same
    refine ⟨_, rfl, by omega, by omega, for_range (n := (1 + r).toNat) (fun i σ H' => Bag b H' ∧ Keep b H H' ∧ ∃ h ys es v5 v6, KindS h ∧ ys.length = i ∧ es.length = i ∧ H' p = some (.lst ys) ∧ DAs S H' ys es ∧ (∀ e ∈ es, ∃ f k t u, e = dSt f k t u ∧ KindS f ∧ KindS k) ∧ σ = [some (.ref b), some (.ref kl), some (.str h), some (.int u), some (.ref p), v5, v6])
      ⟨g1, k01, h0, [], [], _, _, kh, rfl, rfl, hp1, fun _ _ => .nil, fun _ h => (List.not_mem_nil h).elim, rfl⟩ ?_ ?_⟩
    · rintro i σ H' hi ⟨g', k', h, ys, es, v5, v6, kh', ly, le, hp, de, me, rfl⟩
      have hk' := hk.kept k'
      have lks : (ks.map V.str).length = ks.length := List.length_map ..
      have lo := hk.lo
      have hi8 := hk.hi
      refine ⟨_, rfl, _, rfl, b, kl, _, rfl, g', hk.nb, hk'.at', by omega, by omega, fun i1 x1 H2 h1 g2 k2 => ?_⟩
      obtain ⟨y, hy, rfl⟩ : ∃ y, ks[i1]? = some y ∧ V.str y = x1 := by simpa [List.getElem?_map] using h1
      have ky := hk.ok y (List.mem_of_getElem? hy)
      have hp2 := k2 _ _ npb hp
      refine ⟨_, rfl, .inl ⟨rfl, _, SqL.of hp2⟩, _, rfl, _, rfl, _, rfl, b, h, y, rfl, g2, kh', ky, fun f kd t u' v H3 hf hkd g3 k3 dv => ?_⟩
      have hp3 := k3 _ _ npb hp2
      have told2 : ∀ q, S q → Told H2 q := fun q hq => by
        rcases hq with hq | rfl
        · exact k2.on q (k'.on q hq)
        · show H2 q ≠ none
          rw [hp2]
          exact fun z => nomatch z
      have k23 := k2.trans k3
      refine ⟨p, ys, v, rfl, rfl, hp3, small1000 (by omega), ?_⟩
      have e7 : DAs S H3 (ys ++ [v]) (es ++ [dSt f kd t u']) := (de.kept Sb k23.k).append (DAs.one fun q hq => dv q (told2 q hq))
      refine ⟨_, rfl, (k'.trans k23).bag g np, (k'.trans k23).newer np, y, ys ++ [v], es ++ [dSt f kd t u'], _, _, ky, by rw [List.length_append, ly]; rfl, by rw [List.length_append, le]; rfl, upd_same, e7.kept Sp' keep_at, ?_, rfl⟩
      intro e he
      rcases List.mem_append.mp he with he | he
      · exact me e he
      · exact ⟨f, kd, t, u', List.mem_singleton.mp he, hf, hkd⟩
    · rintro σ H' ⟨g', k', h, ys, es, v5, v6, kh', ly, le, hp, de, me, rfl⟩
      exact ⟨_, rfl, k p ys es H' np hp de ⟨by omega, by omega, me⟩ (by omega) g' k'⟩
end
end K14

namespace K14
open PySem PySem.Spec PyProof.Rows L2 HK
def PartS (d : PyData) : Prop := ∃ m es, d = .tuple [.int m, .list es] ∧ 0 ≤ m ∧ m < 10 ^ 39 ∧ RowS es 5
theorem PartS.sx {d : PyData} (h : PartS d) : SX d 300 4 := by
  obtain ⟨m, es, rfl, m0, m1, r⟩ := h
  have hm : m.natAbs < 10 ^ 39 := by
    have : (10 : Int) ^ 39 = ((10 ^ 39 : Nat) : Int) := by decide
    omega
  exact ((SXs.cons ((SX.int hm).mono (Nat.le_refl _) (Nat.zero_le 3)) (SXs.cons r.sx SXs.nil)).tuple).mono (by decide) (by decide)
theorem RowS.last {es : List PyData} {n : Nat} (h : RowS es n) {i : Nat} {d : PyData} (hd : es[i]? = some d) : ∃ f k t u, d = dSt f k t u ∧ KindS f ∧ KindS k := h.2.2 d (List.mem_of_getElem? hd)
theorem kind_end {f k : Str} {u : Bool} (hf : KindS f) (hk : KindS k) : KindS (if u then f else k) := by cases u <;> assumption
section
variable {P : Program} {w : World} {K : PySem.W.Frag} {mg : Str → Option Value} {base : Heap}
theorem scRound : FnScope ["_law_bag_here", "_law_kinds_here", "_law_here", "_law_upto", "_law_found"] ["_law_bag_here", "_law_kinds_here", "_law_here", "_law_upto"] (defScope sRound) := ⟨rfl, rfl, rfl, by decide +kernel, rfl, by decide +kernel, by decide +kernel⟩
theorem ok_round {f fR fE fS fT : Addr} {fd fdR fdE fdS fdT : FuncData} (F : Fun K "_law_round" "_law_round" sRound f fd) (T : TxB mg) (M : TxM mg) (gT : mg "_law_take" = some (.ref fT)) (FT : Fun K "_law_take" "_law_take" sTake fT fdT) (bT : Binds K fdT ["_law_bag_here", "_law_many"] [])
    (gR : mg "_law_row_from" = some (.ref fR)) (FR : Fun K "_law_row_from" "_law_row_from" sRowFrom fR fdR) (bR : Binds K fdR ["_law_bag_here", "_law_kinds_here", "_law_here", "_law_upto"] []) (GR : FnOk P w K mg base CX0 3 fR fdR ["_law_bag_here", "_law_kinds_here", "_law_here", "_law_upto"] (spRow 0))
    (gE : mg "_law_end" = some (.ref fE)) (FE : Fun K "_law_end" "_law_end" sLEnd fE fdE) (bE : Binds K fdE ["_law_step"] []) (gS : mg "_law_step_on" = some (.ref fS)) (FS : Fun K "_law_step_on" "_law_step_on" sStepOn fS fdS) (bS : Binds K fdS ["_law_bag_here", "_law_here", "_law_there"] []) :
    FnOk P w K mg base CX0 4 f fd ["_law_bag_here", "_law_kinds_here", "_law_here", "_law_upto"] (spRow 1) := by
  have GE : FnOk P w K mg base CX0 1 fE fdE _ spEs := ok_lendS FE
  have GS : FnOk P w K mg base CX0 2 fS fdS _ spStepA := ok_stepA FS T M gT FT bT
  refine F.ok scRound (fun vs H Q E h => ?_) (fun cdv A outer s H vs Q E hr h => ?_)
  · obtain ⟨b, kl, ks, h0, u, rfl, _⟩ := h
    rfl
  · obtain ⟨b, kl, ks, h0, u, rfl, g, hk, kh, u1, u4, k⟩ := h
    have nd := scRound.nd
    have hr1 : Room 1 _ := hr.mono (by decide)
    have hr2 : Room 2 _ := hr.mono (by decide)
    refine ⟨_, (pss_cons (ps_set (i := 4) nd rfl (Or.inl rfl) (pe_call GR hr rfl gR FR.kp bR .nil pass0 (pa_cons (pv 0) (pa_cons (pv 1) (pa_cons (pv 2) (pa_cons (pv 3) pa_nil))))))
    (C8.pss_cut (ps_if (pt_cmpR op_ne (pe_call GE hr1 rfl gE FE.kp bE .nil pass0 (pa_cons (pe_ix ix_list (pv 4) (pe_un un_neg pe_int) (fun _ _ => rfl)) pa_nil)) (pv 2) (nomark _))
      (pss_one (ps_expr (pe_bm PySem.F.plainAttrs_list PySem.F.slot_list_append PySem.F.type_list_append mt_append (pv 4) (pa_cons (pe_call GS hr2 rfl gS FS.kp bS .nil pass0 (pa_cons (pv 0) (pa_cons (pe_call GE hr1 rfl gE FE.kp bE .nil pass0 (pa_cons (pe_ix ix_list (pv 4) (pe_un un_neg pe_int) (fun _ _ => rfl)) pa_nil)) (pa_cons (pv 2) pa_nil)))) pa_nil))))
       pss_nil)
    (pss_one (ps_ret (pv 4))))), ?_⟩
    have hb : Told H b := fun z => (g.ne z) rfl
    refine ⟨_, rfl, _, rfl, _, rfl, _, rfl, b, kl, ks, h0, u, rfl, g, hk, kh, u1, u4, fun p ys es H1 np hp de re le g1 k1 => ?_⟩
    have npb : p ≠ b := fun e => hb (e ▸ np)
    let S : Addr → Prop := fun q => Told H q ∨ q = p
    have Sb : S b := .inl hb
    have Sp' : S p := .inr rfl
    have l1 : 1 ≤ ys.length := by rw [le]; exact re.1
    have hx1 : ys[ys.length - 1]? = some (ys[ys.length - 1]'(by omega)) := List.getElem?_eq_getElem (by omega)
    obtain ⟨d, hd, dx⟩ := (de b Sb).get hx1
    obtain ⟨f, kd, t, u', rfl, hf, hkd⟩ := re.last hd
    have al := (atI_minus l1).trans hx1
    have r2 := re.2.1
    refine ⟨fun σ H2 => ∃ ys es, σ = [some (.ref b), some (.ref kl), some (.str h0), some (.int u), some (.ref p)] ∧ Bag b H2 ∧ Keep b H H2 ∧ H2 p = some (.lst ys) ∧ DAs S H2 ys es ∧ RowS es (u.toNat + 1) ∧ ys.length = es.length, ?_, ?_⟩
    · refine ⟨_, rfl, _, rfl, p, _, _, _, rfl, rfl, SqL.of hp, al, b, _, f, kd, t, u', rfl, dx, _, rfl, rfl, _, rfl, ?_⟩
      refine ite2 (fun z => ?_) (fun z => ⟨ys, es, rfl, g1, k1, hp, de, ⟨re.1, by omega, re.2.2⟩, le⟩)
      refine ⟨_, rfl, .inl ⟨rfl, _, SqL.of hp⟩, _, rfl, _, rfl, _, rfl, p, _, _, _, rfl, rfl, SqL.of hp, al, b, _, f, kd, t, u', rfl, dx, _, rfl, b, _, h0, rfl, g1, kind_end hf hkd, kh, fun f' k' t' u'' v H2 hf' hk' g2 k2 dv => ?_⟩
      have hp2 := k2 _ _ npb hp
      have told1 : ∀ q, S q → Told H1 q := fun q hq => by
        rcases hq with hq | rfl
        · exact k1.on q hq
        · show H1 q ≠ none
          rw [hp]
          exact fun z => nomatch z
      refine ⟨p, ys, v, rfl, rfl, hp2, small1000 (by omega), ?_⟩
      have e7 : DAs S H2 (ys ++ [v]) (es ++ [dSt f' k' t' u'']) := (de.kept Sb k2.k).append (DAs.one fun q hq => dv q (told1 q hq))
      refine ⟨ys ++ [v], es ++ [dSt f' k' t' u''], rfl, (k1.trans k2).bag g np, (k1.trans k2).newer np, upd_same, e7.kept Sp' keep_at, ⟨?_, ?_, ?_⟩, ?_⟩
      · rw [List.length_append]; show 1 ≤ _ + 1; omega
      · rw [List.length_append]; show _ + 1 ≤ _; omega
      · intro e he
        rcases List.mem_append.mp he with he | he
        · exact re.2.2 e he
        · exact ⟨f', k', t', u'', List.mem_singleton.mp he, hf', hk'⟩
      · rw [List.length_append, List.length_append, le]
        rfl
    · rintro σ H2 ⟨ys, es, rfl, g2, k2, hp2, de2, re2, le2⟩
      exact ⟨_, rfl, k p ys es H2 np hp2 de2 re2 le2 g2 k2⟩
/-! a train -/
def spMk : Sp := fun vs H Q _ => ∃ (b kl : Addr) (ks : List Str) (u : Int), vs = [.ref b, .ref kl, .int u] ∧ Bag b H ∧ KL b H kl ks ∧ 1 ≤ u ∧ u ≤ 6 ∧
  ∀ p ps pds H', p ≠ b → H' p = some (.lst ps) → DXs b H' ps pds → 1 ≤ pds.length → pds.length ≤ 6 → (∀ d ∈ pds, PartS d) → Bag b H' → Keep b H H' → Q (.ref p) H'
theorem scMk : FnScope ["_law_bag_here", "_law_kinds_here", "_law_upto", "_law_here", "_law_found", "_law_k"] ["_law_bag_here", "_law_kinds_here", "_law_upto"] (defScope sLTrain) := ⟨rfl, rfl, rfl, by decide +kernel, rfl, by decide +kernel, by decide +kernel⟩
theorem ok_mk {f fR fE fD fT fO fN : Addr} {fd fdR fdE fdD fdT fdO fdN : FuncData} (F : Fun K "_law_train" "_law_train" sLTrain f fd) (T : TxB mg) (rg : mg "range" = none) (gT : mg "_law_take" = some (.ref fT)) (FT : Fun K "_law_take" "_law_take" sTake fT fdT) (bT : Binds K fdT ["_law_bag_here", "_law_many"] [])
    (gO : mg "_law_one" = some (.ref fO)) (FO : Fun K "_law_one" "_law_one" sOne fO fdO) (bO : Binds K fdO ["_law_bag_here", "_law_things"] [])
    (gR : mg "_law_row_from" = some (.ref fR)) (FR : Fun K "_law_row_from" "_law_row_from" sRowFrom fR fdR) (bR : Binds K fdR ["_law_bag_here", "_law_kinds_here", "_law_here", "_law_upto"] []) (GR : FnOk P w K mg base CX0 3 fR fdR ["_law_bag_here", "_law_kinds_here", "_law_here", "_law_upto"] (spRow 0))
    (gD : mg "_law_round" = some (.ref fD)) (FD : Fun K "_law_round" "_law_round" sRound fD fdD) (bD : Binds K fdD ["_law_bag_here", "_law_kinds_here", "_law_here", "_law_upto"] []) (GD : FnOk P w K mg base CX0 4 fD fdD ["_law_bag_here", "_law_kinds_here", "_law_here", "_law_upto"] (spRow 1))
    (gE : mg "_law_end" = some (.ref fE)) (FE : Fun K "_law_end" "_law_end" sLEnd fE fdE) (bE : Binds K fdE ["_law_step"] []) (gN : mg "_law_number" = some (.ref fN)) (FN : Fun K "_law_number" "_law_number" sLNum fN fdN) (bN : Binds K fdN ["_law_bag_here"] []) :
    FnOk P w K mg base CX0 5 f fd ["_law_bag_here", "_law_kinds_here", "_law_upto"] spMk := by
  have GT : FnOk P w K mg base CX0 1 fT fdT _ spTake := ok_take FT T
  have GO : FnOk P w K mg base CX0 2 fO fdO _ spOne := ok_one FO T gT FT bT
  have GE : FnOk P w K mg base CX0 1 fE fdE _ spEs := ok_lendS FE
  have GN : FnOk P w K mg base CX0 2 fN fdN _ spLNum := ok_lnum FN T gT FT bT
  refine F.ok scMk (fun vs H Q E h => ?_) (fun cdv A outer s H vs Q E hr h => ?_)
  · obtain ⟨b, kl, ks, u, rfl, _⟩ := h
    rfl
  · obtain ⟨b, kl, ks, u, rfl, g, hk, u1, u6, k⟩ := h
    have nd := scMk.nd
    have hr1 : Room 1 _ := hr.mono (by decide)
    have hr2 : Room 2 _ := hr.mono (by decide)
    have hr3 : Room 3 _ := hr.mono (by decide)
    refine ⟨_, (pss_cons (ps_par (i := 3) (j := 4) (by rfl) nd rfl rfl (by decide) rfl rfl (pa_cons (pe_call GO hr2 rfl gO FO.kp bO .nil pass0 (pa_cons (pv 0) (pa_cons (pv 1) pa_nil))) (pa_cons (pe_lst pa_nil) pa_nil)) (by rfl))
    (pss_cons (ps_for PassesOwn.never rfl (pi_range1 (by rfl) rg (pa_cons (pe_op op_add pe_int (pe_call GT hr1 rfl gT FT.kp bT .nil pass0 (pa_cons (pv 0) (pa_cons (pv 2) pa_nil)))) pa_nil)) (pg_name (i := 5) nd rfl (Or.inl rfl))
      (pss_one (ps_if (pt_cmpR op_eq (pe_call GT hr1 rfl gT FT.kp bT .nil pass0 (pa_cons (pv 0) (pa_cons pe_int pa_nil))) pe_int (nomark _))
        (pss_one (ps_expr (pe_bm PySem.F.plainAttrs_list PySem.F.slot_list_append PySem.F.type_list_append mt_append (pv 4) (pa_cons (pe_tup (pa_cons (pe_call GN hr2 rfl gN FN.kp bN .nil pass0 (pa_cons (pv 0) pa_nil)) (pa_cons (pe_call GD hr rfl gD FD.kp bD .nil pass0 (pa_cons (pv 0) (pa_cons (pv 1) (pa_cons (pv 3) (pa_cons pe_int pa_nil))))) pa_nil))) pa_nil))))
        (pss_cons (ps_expr (pe_bm PySem.F.plainAttrs_list PySem.F.slot_list_append PySem.F.type_list_append mt_append (pv 4) (pa_cons (pe_tup (pa_cons pe_int (pa_cons (pe_call GR hr3 rfl gR FR.kp bR .nil pass0 (pa_cons (pv 0) (pa_cons (pv 1) (pa_cons (pv 3) (pa_cons pe_int pa_nil))))) pa_nil))) pa_nil)))
        (pss_one (ps_set (i := 3) nd rfl (Or.inl rfl) (pe_call GE hr1 rfl gE FE.kp bE .nil pass0 (pa_cons (pe_ix ix_list (pe_ix ix_tup (pe_ix ix_list (pv 4) (pe_un un_neg pe_int) (fun _ _ => rfl)) pe_int (fun _ _ => rfl)) (pe_un un_neg pe_int) (fun _ _ => rfl)) pa_nil))))))))
    (pss_one (ps_ret (pv 4))))), ?_⟩
    have hb : Told H b := fun z => (g.ne z) rfl
    have lks : (ks.map V.str).length = ks.length := List.length_map ..
    have lo := hk.lo
    have hi8 := hk.hi
    refine ⟨_, rfl, _, rfl, b, kl, _, rfl, g, hk.nb, hk.at', by omega, by omega, fun i0 x0 H1 h0 g1 k1 => ?_⟩
    obtain ⟨y0, hy0, rfl⟩ : ∃ y, ks[i0]? = some y ∧ V.str y = x0 := by simpa [List.getElem?_map] using h0
    have ky0 := hk.ok y0 (List.mem_of_getElem? hy0)
    refine ⟨by show 0 ≤ sizeLine; decide, fun p np => ⟨_, _, rfl, ?_⟩⟩
    have s1 := Same.new (o := HO.lst []) np
    have npb := g1.ne np
    have nH : H p = none := k1.free npb np
    have k1' := k1.trans (Keep.of s1)
    let S : Addr → Prop := fun q => q = b ∨ q = p
    have Sb : S b := .inl rfl
    have Sp' : S p := .inr rfl
    refine ⟨_, rfl, _, rfl, b, u, rfl, g1.same s1, u1, by omega, fun r H2 r0 r1 g2 k2 => ⟨_, _, rfl, rfl, ?_⟩⟩
    have k02 := k1'.trans k2
    have hp2 := k2 _ _ npb upd_same
    refine ⟨_, rfl, by omega, by omega, for_range (n := (1 + r).toNat) (fun i σ H' => Bag b H' ∧ Keep b H H' ∧ ∃ h ps pds v5, KindS h ∧ ps.length = i ∧ pds.length = i ∧ H' p = some (.lst ps) ∧ DAs S H' ps pds ∧ (∀ d ∈ pds, PartS d) ∧ σ = [some (.ref b), some (.ref kl), some (.int u), some (.str h), some (.ref p), v5])
      ⟨g2, k02, y0, [], [], _, ky0, rfl, rfl, hp2, fun _ _ => .nil, fun _ h => (List.not_mem_nil h).elim, rfl⟩ ?_ ?_⟩
    · rintro i σ H' hi ⟨g', k', h, ps, pds, v5, kh', lp, lq, hp, de, me, rfl⟩
      refine ⟨_, rfl, b, 2, rfl, g', by decide, by decide, fun way H3 w0 w1 g3 k3 => ⟨rfl, _, rfl, ?_⟩⟩
      have hp3 := k3 _ _ npb hp
      have k03 := k'.trans k3
      have de3 := de.kept Sb k3.k
      -- a part is put behind
      have put : ∀ (m : Int) (c : Addr) (ys : List V) (es : List PyData) (Hm : Hp) (H5 : Hp), Keep b H Hm → Bag b Hm → Keep b H3 Hm → Hm c = none → H5 c = some (.lst ys) → DAs (fun q => Told Hm q ∨ q = c) H5 ys es → RowS es 5 → 0 ≤ m → m < 10 ^ 39 → Bag b H5 → Keep b Hm H5 →
          ∀ t, H5 t = none → ∃ H6, H6 = upd (upd H5 t (.tup [.int m, .ref c])) p (.lst (ps ++ [.ref t])) ∧ (upd H5 t (.tup [.int m, .ref c])) p = some (.lst ps) ∧ Bag b H6 ∧ Keep b H H6 ∧ H6 p = some (.lst (ps ++ [.ref t])) ∧ DAs S H6 (ps ++ [.ref t]) (pds ++ [.tuple [.int m, .list es]]) ∧
            H6 t = some (.tup [.int m, .ref c]) ∧ H6 c = some (.lst ys) ∧ DXs b H6 ys es := fun m c ys es Hm H5 k0m gm k3m nc hc dc rc m0 m1 g5 km5 t nt => by
        have st := Same.new (o := HO.tup [.int m, .ref c]) nt
        have hpm := k3m _ _ npb hp3
        have hp5 := km5 _ _ npb hpm
        have toldm : ∀ q, S q → Told Hm q := fun q hq => by
          rcases hq with rfl | rfl
          · exact fun z => (gm.ne z) rfl
          · show Hm q ≠ none
            rw [hpm]
            exact fun z => nomatch z
        have ncp : c ≠ p := fun e => toldm p Sp' (e ▸ nc)
        have hp6 := st _ _ hp5
        have ntp : t ≠ p := fun e => by rw [e, hp5] at nt; cases nt
        have k35 := k3m.trans km5
        have dpart : DA S (upd H5 t (.tup [.int m, .ref c])) (.ref t) (.tuple [.int m, .list es]) := DA.newT (fun q hq => km5.on q (toldm q hq)) nt fun q hq =>
          .cons (.int m) (.cons (.lst (fun e => toldm q hq (e ▸ nc)) hc (dc q (.inl (toldm q hq)))) .nil)
        have dall : DAs S (upd H5 t (.tup [.int m, .ref c])) (ps ++ [.ref t]) (pds ++ [.tuple [.int m, .list es]]) := ((de3.kept Sb k35.k).same st).append (DAs.one dpart)
        have kk := (k0m.trans km5).trans (Keep.of st)
        refine ⟨_, rfl, hp6, kk.bag g nH, kk.newer nH, upd_same, dall.kept Sp' keep_at, by rw [upd_ne ntp, upd_same], by rw [upd_ne ncp]; exact st _ _ hc, ?_⟩
        have dcb : DXs b (upd H5 t (.tup [.int m, .ref c])) ys es := (dc b (.inl (toldm b Sb))).same st
        have dcp : DXs p (upd H5 t (.tup [.int m, .ref c])) ys es := (dc p (.inl (toldm p Sp'))).same st
        exact DXs.both keep_at es dcb dcp
      have lenp : ∀ t : Addr, (ps ++ [V.ref t]).length = i + 1 := fun t => by rw [List.length_append, lp]; rfl
      have lenq : ∀ d : PyData, (pds ++ [d]).length = i + 1 := fun d => by rw [List.length_append, lq]; rfl
      have mem : ∀ (m : Int) (es : List PyData), 0 ≤ m → m < 10 ^ 39 → RowS es 5 → ∀ d ∈ pds ++ [.tuple [.int m, .list es]], PartS d := fun m es m0 m1 re d hd => by
        rcases List.mem_append.mp hd with hd | hd
        · exact me d hd
        · exact ⟨m, es, List.mem_singleton.mp hd, m0, m1, re⟩
      refine ite2 (fun z => ?_) (fun z => ?_)
      · refine ⟨_, rfl, .inl ⟨rfl, _, SqL.of hp3⟩, _, rfl, b, rfl, g3, fun m H4 m0 m1 g4 k4 => ⟨_, rfl, _, rfl, _, rfl, b, kl, ks, h, 3, rfl, g4, hk.kept (k03.trans k4), kh', by decide, by decide, fun c ys es H5 nc hc dc rc lc g5 k5 => ⟨by show 2 ≤ sizeLine; decide, fun t nt => ?_⟩⟩⟩
        have rc' : RowS es 5 := ⟨rc.1, Nat.le_trans rc.2.1 (by decide), rc.2.2⟩
        obtain ⟨H6, rfl, hp6, g6, k6, hp7, d7, _⟩ := put m c ys es H4 H5 (k03.trans k4) g4 k4 nc hc dc rc' m0 m1 g5 k5 t nt
        refine ⟨p, ps, .ref t, rfl, rfl, hp6, small1000 (by omega), ?_⟩
        exact ⟨g6, k6, h, _, _, _, kh', lenp t, lenq _, hp7, d7, mem m es m0 m1 rc', rfl⟩
      · refine ⟨_, rfl, .inl ⟨rfl, _, SqL.of hp3⟩, _, rfl, _, rfl, _, rfl, b, kl, ks, h, 4, rfl, g3, hk.kept k03, kh', by decide, by decide, fun c ys es H5 nc hc dc rc lc g5 k5 => ⟨by show 2 ≤ sizeLine; decide, fun t nt => ?_⟩⟩
        have rc' : RowS es 5 := ⟨rc.1, Nat.le_trans rc.2.1 (by decide), rc.2.2⟩
        obtain ⟨H6, rfl, hp6, g6, k6, hp7, d7, ht, hc6, dys⟩ := put 1 c ys es H3 H5 k03 g3 (Keep.refl _ _) nc hc dc rc' (by decide) (by decide) g5 k5 t nt
        refine ⟨p, ps, .ref t, rfl, rfl, hp6, small1000 (by omega), ?_⟩
        have l1 : 1 ≤ ys.length := by rw [lc]; exact rc.1
        have hx1 : ys[ys.length - 1]? = some (ys[ys.length - 1]'(by omega)) := List.getElem?_eq_getElem (by omega)
        obtain ⟨d, hd, dx⟩ := dys.get hx1
        obtain ⟨f, kd, t', u', rfl, hf, hkd⟩ := rc.last hd
        have al := (atI_minus l1).trans hx1
        refine ⟨_, rfl, _, rfl, p, _, _, _, rfl, rfl, SqL.of hp7, atI_last _ _, t, _, _, _, rfl, rfl, SqT.of ht, rfl, _, rfl, c, _, _, _, rfl, rfl, SqL.of hc6, al, b, _, f, kd, t', u', rfl, dx, ?_⟩
        exact ⟨g6, k6, _, _, _, _, kind_end hf hkd, lenp t, lenq _, hp7, d7, mem 1 es (by decide) (by decide) rc', rfl⟩
    · rintro σ H' ⟨g', k', h, ps, pds, v5, kh', lp, lq, hp, de, me, rfl⟩
      exact ⟨_, rfl, k p ps pds H' npb hp (de b Sb) (by omega) (by omega) me g' k'⟩
end
end K14

namespace K14
open PySem PySem.Spec PyProof.Rows L2 HK
theorem Bag.lst {b : Addr} {H : Hp} (g : Bag b H) : ∃ xs, H b = some (.lst xs) := by
  obtain ⟨r, s, i, l, ns, h1, _⟩ := g
  exact ⟨_, h1⟩
theorem Mk.upd {p : Addr} {H : Hp} {xs : List V} {o : HO} (m : Mk H) (hp : H p = some (.lst xs)) : Mk (upd H p o) := by
  obtain ⟨oo, u, h⟩ := m
  exact ⟨oo, u, by rw [upd_ne (ne_of h hp (by intro z; cases z))]; exact h⟩
/-- all that the law's def calls -/
structure TxL (K : PySem.W.Frag) (mg : Str → Option Value) (f1 f2 f3 f4 f5 f6 f30 f31 f32 f33 f34 f35 f36 f8 f9 f10 f11 f12 f13 f14 f15 f16 f17 f18 f19 f20 f40 f41 f42 f43 f44 f45 f46 f47 f48 : Addr) (d1 d2 d3 d4 d5 d6 d30 d31 d32 d33 d34 d35 d36 d8 d9 d10 d11 d12 d13 d14 d15 d16 d17 d18 d19 d20 d40 d41 d42 d43 d44 d45 d46 d47 d48 : FuncData) : Prop where
  b : TxB mg
  k : TxK mg
  a : TxA mg
  j : TxJ mg
  m : TxM mg
  zp : mg "zip" = none
  g1 : mg "is_integer" = some (.ref f1)
  F1 : Fun K "is_integer" "is_integer" sInt f1 d1
  b1 : Binds K d1 ["thing"] []
  g2 : mg "is_number" = some (.ref f2)
  F2 : Fun K "is_number" "is_number" sNum f2 d2
  b2 : Binds K d2 ["least", "thing"] []
  g3 : mg "is_kind" = some (.ref f3)
  F3 : Fun K "is_kind" "is_kind" sKind f3 d3
  b3 : Binds K d3 ["thing"] []
  g4 : mg "is_cart" = some (.ref f4)
  F4 : Fun K "is_cart" "is_cart" sCart f4 d4
  b4 : Binds K d4 ["thing"] []
  g5 : mg "has_two_steps" = some (.ref f5)
  F5 : Fun K "has_two_steps" "has_two_steps" sTwo f5 d5
  b5 : Binds K d5 ["cart"] []
  g6 : mg "is_step" = some (.ref f6)
  F6 : Fun K "is_step" "is_step" sStep f6 d6
  b6 : Binds K d6 ["thing"] []
  g30 : mg "begin_of" = some (.ref f30)
  F30 : Fun K "begin_of" "begin_of" sBegin f30 d30
  b30 : Binds K d30 ["step"] []
  g31 : mg "end_of" = some (.ref f31)
  F31 : Fun K "end_of" "end_of" sEnd f31 d31
  b31 : Binds K d31 ["step"] []
  g32 : mg "couple" = some (.ref f32)
  F32 : Fun K "couple" "couple" sCouple f32 d32
  b32 : Binds K d32 ["step", "other"] []
  g33 : mg "is_row" = some (.ref f33)
  F33 : Fun K "is_row" "is_row" sRow f33 d33
  b33 : Binds K d33 ["thing"] []
  g34 : mg "is_train" = some (.ref f34)
  F34 : Fun K "is_train" "is_train" sTrain f34 d34
  b34 : Binds K d34 ["thing"] []
  g35 : mg "_is_part" = some (.ref f35)
  F35 : Fun K "_is_part" "_is_part" sPart f35 d35
  b35 : Binds K d35 ["thing"] []
  g36 : mg "_parts_couple" = some (.ref f36)
  F36 : Fun K "_parts_couple" "_parts_couple" sPC f36 d36
  b36 : Binds K d36 ["part", "other"] []
  g8 : mg "_law_bag" = some (.ref f8)
  F8 : Fun K "_law_bag" "_law_bag" sBag f8 d8
  b8 : Binds K d8 ["_law_script"] []
  g9 : mg "_law_take" = some (.ref f9)
  F9 : Fun K "_law_take" "_law_take" sTake f9 d9
  b9 : Binds K d9 ["_law_bag_here", "_law_many"] []
  g10 : mg "_law_alike" = some (.ref f10)
  F10 : Fun K "_law_alike" "_law_alike" sAlike f10 d10
  b10 : Binds K d10 ["_law_found", "_law_due"] []
  g11 : mg "_law_one" = some (.ref f11)
  F11 : Fun K "_law_one" "_law_one" sOne f11 d11
  b11 : Binds K d11 ["_law_bag_here", "_law_things"] []
  g12 : mg "_law_kinds" = some (.ref f12)
  F12 : Fun K "_law_kinds" "_law_kinds" sKinds f12 d12
  b12 : Binds K d12 ["_law_bag_here", "_law_many"] []
  g13 : mg "_law_number" = some (.ref f13)
  F13 : Fun K "_law_number" "_law_number" sLNum f13 d13
  b13 : Binds K d13 ["_law_bag_here"] []
  g14 : mg "_law_step_on" = some (.ref f14)
  F14 : Fun K "_law_step_on" "_law_step_on" sStepOn f14 d14
  b14 : Binds K d14 ["_law_bag_here", "_law_here", "_law_there"] []
  g15 : mg "_law_is_int" = some (.ref f15)
  F15 : Fun K "_law_is_int" "_law_is_int" sLInt f15 d15
  b15 : Binds K d15 ["_law_thing"] []
  g16 : mg "_law_is_kind" = some (.ref f16)
  F16 : Fun K "_law_is_kind" "_law_is_kind" sLKind f16 d16
  b16 : Binds K d16 ["_law_thing"] []
  g17 : mg "_law_is_cart" = some (.ref f17)
  F17 : Fun K "_law_is_cart" "_law_is_cart" sLCart f17 d17
  b17 : Binds K d17 ["_law_thing"] []
  g18 : mg "_law_is_step" = some (.ref f18)
  F18 : Fun K "_law_is_step" "_law_is_step" sLStep f18 d18
  b18 : Binds K d18 ["_law_thing"] []
  g19 : mg "_law_odd_value" = some (.ref f19)
  F19 : Fun K "_law_odd_value" "_law_odd_value" sOdd f19 d19
  b19 : Binds K d19 ["_law_bag_here"] []
  g20 : mg "_law_bent" = some (.ref f20)
  F20 : Fun K "_law_bent" "_law_bent" sBent f20 d20
  b20 : Binds K d20 ["_law_bag_here", "_law_thing"] []
  g40 : mg "_law_mixed" = some (.ref f40)
  F40 : Fun K "_law_mixed" "_law_mixed" sMixed f40 d40
  b40 : Binds K d40 ["_law_bag_here", "_law_things"] []
  g41 : mg "_law_begin" = some (.ref f41)
  F41 : Fun K "_law_begin" "_law_begin" sLBegin f41 d41
  b41 : Binds K d41 ["_law_step"] []
  g42 : mg "_law_end" = some (.ref f42)
  F42 : Fun K "_law_end" "_law_end" sLEnd f42 d42
  b42 : Binds K d42 ["_law_step"] []
  g43 : mg "_law_row_from" = some (.ref f43)
  F43 : Fun K "_law_row_from" "_law_row_from" sRowFrom f43 d43
  b43 : Binds K d43 ["_law_bag_here", "_law_kinds_here", "_law_here", "_law_upto"] []
  g44 : mg "_law_round" = some (.ref f44)
  F44 : Fun K "_law_round" "_law_round" sRound f44 d44
  b44 : Binds K d44 ["_law_bag_here", "_law_kinds_here", "_law_here", "_law_upto"] []
  g45 : mg "_law_train" = some (.ref f45)
  F45 : Fun K "_law_train" "_law_train" sLTrain f45 d45
  b45 : Binds K d45 ["_law_bag_here", "_law_kinds_here", "_law_upto"] []
  g46 : mg "_law_is_row" = some (.ref f46)
  F46 : Fun K "_law_is_row" "_law_is_row" sLRow f46 d46
  b46 : Binds K d46 ["_law_thing"] []
  g47 : mg "_law_is_part" = some (.ref f47)
  F47 : Fun K "_law_is_part" "_law_is_part" sLPart f47 d47
  b47 : Binds K d47 ["_law_thing"] []
  g48 : mg "_law_is_train" = some (.ref f48)
  F48 : Fun K "_law_is_train" "_law_is_train" sLTr f48 d48
  b48 : Binds K d48 ["_law_thing"] []
def spLaw (K : PySem.W.Frag) : Sp := fun vs H Q _ => ∃ (a : Addr) (ns : List Int), vs = [.ref a] ∧ Mk H ∧ SqL K H a (ns.map V.int) ∧ ns.length ≤ 63 ∧ ∀ H', Q (.bl true) H'
section
variable {P : Program} {w : World} {K : PySem.W.Frag} {mg : Str → Option Value} {base : Heap}
theorem ok_bent {f fT fO fN : Addr} {fd fdT fdO fdN : FuncData} (F : Fun K "_law_bent" "_law_bent" sBent f fd) (T : TxN K mg) (gT : mg "_law_take" = some (.ref fT)) (FT : Fun K "_law_take" "_law_take" sTake fT fdT) (bT : Binds K fdT ["_law_bag_here", "_law_many"] [])
    (gN : mg "_law_one" = some (.ref fN)) (FN : Fun K "_law_one" "_law_one" sOne fN fdN) (bN : Binds K fdN ["_law_bag_here", "_law_things"] [])
    (gO : mg "_law_odd_value" = some (.ref fO)) (FO : Fun K "_law_odd_value" "_law_odd_value" sOdd fO fdO) (bO : Binds K fdO ["_law_bag_here"] []) (gB : mg "_law_bent" = some (.ref f)) (bB : Binds K fd ["_law_bag_here", "_law_thing"] []) :
    ∀ n, FnOk P w K mg base CX0 (3 + n) f fd ["_law_bag_here", "_law_thing"] (spB n)
  | 0 => ⟨fun vs H Q E h => False.elim h, fun A outer s H args us vs Q E hr e0 hb r h => False.elim h⟩
  | n + 1 => bent_step F T gT FT bT gO FO bO (ok_odd FO T.b T.r gT FT bT gN FN bN) gB bB (ok_bent F T gT FT bT gN FN bN gO FO bO gB bB n)
theorem one_fine {x : Bool} {d : PyData} (hd : SX d 6000 20) : Fine (.list [.bool x, .str d.shown]) :=
  (Sm.list ((SmA.cons (Sm.bool x) (SmA.cons hd.said SmA.nil)).mono (m := 260000) (j := 5) (by decide) (by decide))).fine (by decide) (by decide)
theorem scLaw : FnScope ["_law_script", "_law_bag_here", "_law_turn", "_law_kinds_here", "_law_train_here", "_law_at", "_law_things", "_law_row", "_law_many", "_law_thing", "_law_said", "_law_due", "_law_again"] ["_law_script"] (defScope sLaw) := ⟨rfl, rfl, rfl, by decide +kernel, rfl, by decide +kernel, by decide +kernel⟩
theorem ok_law {f1 f2 f3 f4 f5 f6 f30 f31 f32 f33 f34 f35 f36 f8 f9 f10 f11 f12 f13 f14 f15 f16 f17 f18 f19 f20 f40 f41 f42 f43 f44 f45 f46 f47 f48 : Addr} {d1 d2 d3 d4 d5 d6 d30 d31 d32 d33 d34 d35 d36 d8 d9 d10 d11 d12 d13 d14 d15 d16 d17 d18 d19 d20 d40 d41 d42 d43 d44 d45 d46 d47 d48 : FuncData} {f : Addr} {fd : FuncData} (F : Fun K "law" "law" sLaw f fd)
    (T : TxL K mg f1 f2 f3 f4 f5 f6 f30 f31 f32 f33 f34 f35 f36 f8 f9 f10 f11 f12 f13 f14 f15 f16 f17 f18 f19 f20 f40 f41 f42 f43 f44 f45 f46 f47 f48 d1 d2 d3 d4 d5 d6 d30 d31 d32 d33 d34 d35 d36 d8 d9 d10 d11 d12 d13 d14 d15 d16 d17 d18 d19 d20 d40 d41 d42 d43 d44 d45 d46 d47 d48) : FnG P w K mg base CX0 10 f fd ["_law_script"] (spLaw K) := by
  have G2 : FnOk P w K mg base CX0 2 f2 d2 _ spNum := ok_num T.F2 T.j T.g1 T.F1 T.b1
  have G6 : FnOk P w K mg base CX0 3 f6 d6 _ (spJ mStep) := ok_step T.F6 T.j T.g3 T.F3 T.b3 T.g4 T.F4 T.b4 T.g5 T.F5 T.b5
  have G32 : FnOk P w K mg base CX0 2 f32 d32 _ spCp := ok_couple T.F32 T.g30 T.F30 T.b30 T.g31 T.F31 T.b31
  have G33 : FnOk P w K mg base CX0 4 f33 d33 _ (spJ mRow) := ok_row T.F33 T.j T.zp T.g6 T.F6 T.b6 G6 T.g32 T.F32 T.b32 G32
  have G35 : FnOk P w K mg base CX0 5 f35 d35 _ (spJ mPart) := ok_part T.F35 T.j T.g2 T.F2 T.b2 G2 T.g33 T.F33 T.b33 G33 T.g32 T.F32 T.b32 G32
  have G36 : FnOk P w K mg base CX0 3 f36 d36 _ spPC := ok_pc T.F36 T.g32 T.F32 T.b32 G32
  have G34 : FnOk P w K mg base CX0 6 f34 d34 _ (spJ mTrain) := ok_train T.F34 T.j T.zp T.g35 T.F35 T.b35 G35 T.g36 T.F36 T.b36 G36
  have G8 : FnOk P w K mg base CX0 1 f8 d8 _ (spBag K) := ok_bag T.F8 T.b
  have G9 : FnOk P w K mg base CX0 1 f9 d9 _ spTake := ok_take T.F9 T.b
  have G10 : FnG P w K mg base CX0 1 f10 d10 _ (spAlike K) := ok_alike T.F10 T.a
  have G12 : FnOk P w K mg base CX0 2 f12 d12 _ spKinds := ok_kinds T.F12 T.b T.k T.g9 T.F9 T.b9
  have G18 : FnOk P w K mg base CX0 3 f18 d18 _ (spJ mStep) := ok_lstep T.F18 T.j T.g16 T.F16 T.b16 T.g17 T.F17 T.b17
  have G19 : FnOk P w K mg base CX0 3 f19 d19 _ spOdd := ok_odd T.F19 T.b ⟨T.k.n_range⟩ T.g9 T.F9 T.b9 T.g11 T.F11 T.b11
  have G20 : FnOk P w K mg base CX0 9 f20 d20 _ (spB 6) := ok_bent T.F20 ⟨T.b, T.j, ⟨T.k.n_range⟩⟩ T.g9 T.F9 T.b9 T.g11 T.F11 T.b11 T.g19 T.F19 T.b19 T.g20 T.b20 6
  have G40 : FnOk P w K mg base CX0 2 f40 d40 _ spMix := ok_mixed T.F40 T.b T.g9 T.F9 T.b9
  have G43 : FnOk P w K mg base CX0 3 f43 d43 _ (spRow 0) := ok_rowfrom T.F43 T.b T.k.n_range T.m T.g9 T.F9 T.b9 T.g11 T.F11 T.b11 T.g14 T.F14 T.b14
  have G44 : FnOk P w K mg base CX0 4 f44 d44 _ (spRow 1) := ok_round T.F44 T.b T.m T.g9 T.F9 T.b9 T.g43 T.F43 T.b43 G43 T.g42 T.F42 T.b42 T.g14 T.F14 T.b14
  have G45 : FnOk P w K mg base CX0 5 f45 d45 _ spMk := ok_mk T.F45 T.b T.k.n_range T.g9 T.F9 T.b9 T.g11 T.F11 T.b11 T.g43 T.F43 T.b43 G43 T.g44 T.F44 T.b44 G44 T.g42 T.F42 T.b42 T.g13 T.F13 T.b13
  have G46 : FnOk P w K mg base CX0 4 f46 d46 _ (spJ mRow) := ok_lrow T.F46 T.j T.k.n_range T.g18 T.F18 T.b18 G18 T.g41 T.F41 T.b41 T.g42 T.F42 T.b42
  have G47 : FnOk P w K mg base CX0 5 f47 d47 _ (spJ mPart) := ok_lpart T.F47 T.j T.g15 T.F15 T.b15 T.g46 T.F46 T.b46 G46 T.g41 T.F41 T.b41 T.g42 T.F42 T.b42
  have G48 : FnOk P w K mg base CX0 6 f48 d48 _ (spJ mTrain) := ok_ltrain T.F48 T.j T.k.n_range T.g47 T.F47 T.b47 G47 T.g41 T.F41 T.b41 T.g42 T.F42 T.b42
  refine fnG F scLaw (fun vs H Q E h => ?_) (fun cdv A outer s H vs Q E hq hr h => ?_)
  · obtain ⟨a, ns, rfl, _⟩ := h
    rfl
  · obtain ⟨a, ns, rfl, M, hS, hl, k⟩ := h
    have nd := scLaw.nd
    have hr1 : Room 1 _ := hr.mono (by decide)
    have hr2 : Room 2 _ := hr.mono (by decide)
    have hr3 : Room 3 _ := hr.mono (by decide)
    have hr5 : Room 5 _ := hr.mono (by decide)
    have hr6 : Room 6 _ := hr.mono (by decide)
    refine ⟨_, (pss_cons (ps_set (i := 1) nd rfl (Or.inl rfl) (pe_call G8 hr1 rfl T.g8 T.F8.kp T.b8 .nil pass0 (pa_cons (pv 0) pa_nil)))
    (pss_cons (ps_for PassesOwn.never rfl (pi_range1 (by rfl) T.k.n_range (pa_cons pe_int pa_nil)) (pg_name (i := 2) nd rfl (Or.inl rfl))
      (pss_cons (ps_set (i := 3) nd rfl (Or.inl rfl) (pe_call G12 hr2 rfl T.g12 T.F12.kp T.b12 .nil pass0 (pa_cons (pv 1) (pa_cons (pe_op op_add pe_int (pe_call G9 hr1 rfl T.g9 T.F9.kp T.b9 .nil pass0 (pa_cons (pv 1) (pa_cons pe_int pa_nil)))) pa_nil))))
      (pss_cons (ps_set (i := 4) nd rfl (Or.inl rfl) (pe_call G45 hr5 rfl T.g45 T.F45.kp T.b45 .nil pass0 (pa_cons (pv 1) (pa_cons (pv 3) (pa_cons pe_int pa_nil)))))
      (pss_cons (ps_set (i := 5) nd rfl (Or.inl rfl) (pe_call G9 hr1 rfl T.g9 T.F9.kp T.b9 .nil pass0 (pa_cons (pv 1) (pa_cons (pe_callB call_len_seq (by rfl) T.b.n_len (by decide +kernel) (pa_cons (pv 4) pa_nil)) pa_nil))))
      (C8.pss_cut (ps_set (i := 6) nd rfl (Or.inl rfl) (pe_lst (pa_cons (pv 4) (pa_cons (pe_call G20 hr rfl T.g20 T.F20.kp T.b20 .nil pass0 (pa_cons (pv 1) (pa_cons (pv 4) pa_nil))) (pa_cons (pe_call G20 hr rfl T.g20 T.F20.kp T.b20 .nil pass0 (pa_cons (pv 1) (pa_cons (pv 4) pa_nil))) (pa_cons (pe_op op_cat (pe_slice sl_list (pv 4) po_none (po_some (pv 5))) (pe_slice sl_list (pv 4) (po_some (pe_op op_add (pv 5) pe_int)) po_none)) pa_nil))))))
      (C8.pss_cut (ps_set (i := 6) nd rfl (Or.inl rfl) (pe_op op_cat (pv 6) (pe_lst (pa_cons (pe_call G40 hr2 rfl T.g40 T.F40.kp T.b40 .nil pass0 (pa_cons (pv 1) (pa_cons (pv 4) pa_nil))) (pa_cons (pe_op op_cat (pv 4) (pe_slice sl_list (pv 4) po_none (po_some pe_int))) (pa_cons (pe_op op_cat (pe_slice sl_list (pv 4) (po_some (pv 5)) (po_some (pe_op op_add (pv 5) pe_int))) (pv 4)) pa_nil))))))
      (C8.pss_cut (ps_set (i := 6) nd rfl (Or.inl rfl) (pe_op op_cat (pv 6) (pe_lst (pa_cons (pe_callTy call_tuple_of (by rfl) (T.j.n_ty "tuple" (by simp)) (by decide +kernel) (pa_cons (pv 4) pa_nil)) (pa_cons (pe_ix ix_list (pv 4) pe_int (fun _ _ => rfl)) (pa_cons (pe_ix ix_tup (pe_ix ix_list (pv 4) pe_int (fun _ _ => rfl)) pe_int (fun _ _ => rfl)) (pa_cons (pe_lst pa_nil) pa_nil)))))))
      (pss_cons (ps_set (i := 7) nd rfl (Or.inl rfl) (pe_ix ix_tup (pe_ix ix_list (pv 4) (pv 5) (fun _ _ => rfl)) pe_int (fun _ _ => rfl)))
      (C8.pss_cut (ps_for PassesOwn.never rfl (pi_tup (pe_tup (pa_cons pe_int (pa_cons pe_int (pa_cons pe_bl pa_nil))))) (pg_name (i := 8) nd rfl (Or.inl rfl))
        (pss_one (ps_expr (pe_bm PySem.F.plainAttrs_list PySem.F.slot_list_append PySem.F.type_list_append mt_append (pv 6) (pa_cons (pe_op op_cat (pe_op op_cat (pe_slice sl_list (pv 4) po_none (po_some (pv 5))) (pe_lst (pa_cons (pe_tup (pa_cons (pv 8) (pa_cons (pv 7) pa_nil))) pa_nil))) (pe_slice sl_list (pv 4) (po_some (pe_op op_add (pv 5) pe_int)) po_none)) pa_nil)))))
      (C8.pss_cut (ps_set (i := 6) nd rfl (Or.inl rfl) (pe_op op_cat (pv 6) (pe_lst (pa_cons (pe_lst (pa_cons (pe_callTy call_list_of (by rfl) (T.j.n_ty "list" (by simp)) (by decide +kernel) (pa_cons (pe_ix ix_list (pv 4) (pv 5) (fun _ _ => rfl)) pa_nil)) pa_nil)) (pa_cons (pe_call G19 hr3 rfl T.g19 T.F19.kp T.b19 .nil pass0 (pa_cons (pv 1) pa_nil)) pa_nil)))))
      (pss_one (ps_for PassesOwn.never rfl (pi_list (pv 6)) (pg_name (i := 9) nd rfl (Or.inl rfl))
        (pss_cons (ps_par (i := 10) (j := 11) (by rfl) nd rfl rfl (by decide) rfl rfl (pa_cons (pe_callB (call_reprX hq hr.units) (by rfl) T.a.n_repr (by decide +kernel) (pa_cons (pv 9) pa_nil)) (pa_cons (pe_call G48 hr6 rfl T.g48 T.F48.kp T.b48 .nil pass0 (pa_cons (pv 9) pa_nil)) pa_nil)) (by rfl))
        (pss_one (ps_for PassesOwn.never rfl (pi_range1 (by rfl) T.k.n_range (pa_cons pe_int pa_nil)) (pg_name (i := 12) nd rfl (Or.inl rfl))
          (pss_one (ps_if (pt_not (pt_val (pe_callG G10 hq hr1 rfl T.g10 T.F10.kp T.b10 pass0 (pa_cons (pe_lst (pa_cons (pe_call G34 hr6 rfl T.g34 T.F34.kp T.b34 .nil pass0 (pa_cons (pv 9) pa_nil)) (pa_cons (pe_callB (call_reprX hq hr.units) (by rfl) T.a.n_repr (by decide +kernel) (pa_cons (pv 9) pa_nil)) pa_nil))) (pa_cons (pe_lst (pa_cons (pv 11) (pa_cons (pv 10) pa_nil))) pa_nil)))))
            (pss_one (ps_ret pe_bl))
             pss_nil)))))))))))))))))
    (pss_one (ps_ret pe_bl)))), ?_⟩
    refine ⟨_, rfl, a, ns, rfl, hS, hl, fun b H0 s0 nb g0 => ?_⟩
    have M0 := M.same s0
    have line : (10000 : Nat) ≤ sizeLine := by decide
    have l0 : (0 : Nat) ≤ sizeLine := by decide
    have l1 : (1 : Nat) ≤ sizeLine := by decide
    have l2 : (2 : Nat) ≤ sizeLine := by decide
    have l3 : (3 : Nat) ≤ sizeLine := by decide
    have l4 : (4 : Nat) ≤ sizeLine := by decide
    refine ⟨10, rfl, by decide, by decide, for_range (n := 10) (fun _ σ H1 => Bag b H1 ∧ Mk H1 ∧ ∃ v2 v3 v4 v5 v6 v7 v8 v9 v10 v11 v12, σ = [some (.ref a), some (.ref b), v2, v3, v4, v5, v6, v7, v8, v9, v10, v11, v12])
      ⟨g0, M0, _, _, _, _, _, _, _, _, _, _, _, rfl⟩ ?_ (fun σ H1 _ => k H1)⟩
    rintro ti σ H1 hti ⟨g1, M1, v2, v3, v4, v5, v6, v7, v8, v9, v10, v11, v12, rfl⟩
    refine ⟨_, rfl, _, rfl, b, 4, rfl, g1, by decide, by decide, fun r H2 r0 r1 g2 k2 => ⟨_, _, rfl, rfl, b, _, rfl, g2, by omega, by omega, fun ks kl H3 lk kk nkl hkl g3 k3 => ?_⟩⟩
    have KL3 : KL b H3 kl ks := ⟨hkl, g2.ne nkl, by omega, by omega, kk⟩
    refine ⟨_, rfl, _, rfl, b, kl, ks, 6, rfl, g3, KL3, by decide, by decide, fun tl ps pds H4 ntl htl dps pl1 pl6 pa g4 k4 => ?_⟩
    have lps := dps.len
    refine ⟨_, rfl, _, rfl, tl, ps, rfl, .inl (SqL.of htl), b, _, rfl, g4, by omega, by omega, fun at_ H5 a0 a1 g5 k5 => ?_⟩
    obtain ⟨i, rfl⟩ := Int.eq_ofNat_of_zero_le a0
    have hi : i < ps.length := by omega
    have sps : SXs pds 1806 4 := (SXs.all fun d hd => (pa d hd).sx).mono (by omega) (Nat.le_refl _)
    have str : SX (.list pds) 1806 5 := sps.list
    have bigs : ∀ {d : PyData}, SX d 4712 18 → SX d 6000 20 := fun h => h.mono (by decide) (by decide)
    have htl5 := k5 _ _ ntl htl
    have dps5 := dps.kept k5.k
    have M5 := (((M1.kept k2.k g1.lst).kept k3.k g2.lst).kept k4.k g3.lst).kept k5.k g4.lst
    refine ⟨fun σ H6 => Bag b H6 ∧ Mk H6 ∧ H6 tl = some (.lst ps) ∧ DXs b H6 ps pds ∧ ∃ p xs ds, p ≠ b ∧ H6 p = some (.lst xs) ∧ xs.length = 4 ∧ DXs b H6 xs ds ∧ (∀ d ∈ ds, SX d 6000 20) ∧ σ = [some (.ref a), some (.ref b), some (.int (0 + (ti : Int))), some (.ref kl), some (.ref tl), some (.int (i : Int)), some (.ref p), v7, v8, v9, v10, v11, v12], ?_, ?_⟩
    · refine ⟨_, rfl, _, rfl, _, rfl, b, _, .list pds, 1806, rfl, g5, .lst ntl htl5 dps5, str, by decide, fun w1 e1 H6 s6 g6 k6 dq1 => ?_⟩
      have htl6 := k6 _ _ ntl htl5
      refine ⟨_, rfl, _, rfl, b, _, .list pds, 1806, rfl, g6, .lst ntl htl6 (dps5.kept k6.k), str, by decide, fun w2 e2 H7 s7 g7 k7 dq2 => ?_⟩
      have htl7 := k7 _ _ ntl htl6
      have k57 := k6.trans k7
      refine ⟨_, rfl, _, rfl, i, rfl, tl, ps, rfl, SqL.of htl7, fun q1 n1 => ?_⟩
      have s1 := Same.new (o := HO.lst (cutV ps none (some (i : Int)))) n1
      refine ⟨_, rfl, _, rfl, _, _, rfl, rfl, _, rfl, tl, ps, rfl, SqL.of (s1 _ _ htl7), fun q2 n2 => ?_⟩
      have s2 := Same.new (o := HO.lst (cutV ps (some ((i : Int) + 1)) none)) n2
      have c1 : (cutV ps none (some (i : Int))).length ≤ ps.length := cut_le
      have c2 : (cutV ps (some ((i : Int) + 1)) none).length ≤ ps.length := cut_le
      refine ⟨q1, q2, _, _, rfl, rfl, s2 _ _ upd_same, upd_same, by omega, fun q3 n3 => ⟨l4, fun q4 n4 => ?_⟩⟩
      have s3 := Same.new (o := HO.lst (cutV ps none (some (i : Int)) ++ cutV ps (some ((i : Int) + 1)) none)) n3
      have s4 := Same.new (o := HO.lst [.ref tl, w1, w2, .ref q3]) n4
      have s14 := s1.trans (s2.trans (s3.trans s4))
      have kk5 := k57.trans (Keep.of s14)
      have g7a := g7.same (s1.trans s2)
      have dtl := dps5.kept kk5.k
      have t5 : Told H5 b := fun z => (g5.ne z) rfl
      have t6 : Told H6 b := fun z => (g6.ne z) rfl
      have x1 := (dq1 b t5 (.lst ntl htl5 dps5)).kept (k7.trans (Keep.of s14)).k
      have x2 := (dq2 b t6 (.lst ntl htl6 (dps5.kept k6.k))).same s14
      have dcat := ((dps5.kept k57.k).same (s1.trans s2))
      have x3 : DX b _ (.ref q3) (.list (cutG pds none (some (i : Int)) ++ cutG pds (some ((i : Int) + 1)) none)) := DX.newL (g7a.ne n3) n3 ((DXs.cut dcat).append (DXs.cut dcat))
      refine ⟨g7.same s14, M5.kept kk5.k g5.lst, s14 _ _ htl7, dtl, q4, _, [.list pds, e1, e2, .list (cutG pds none (some (i : Int)) ++ cutG pds (some ((i : Int) + 1)) none)], (g7a.same s3).ne n4, upd_same, rfl, .cons (.lst ntl (s14 _ _ htl7) dtl) (.cons x1 (.cons x2 (.cons (x3.same s4) .nil))), ?_, rfl⟩
      intro d hd
      simp only [List.mem_cons, List.not_mem_nil, or_false] at hd
      rcases hd with rfl | rfl | rfl | rfl
      · exact str.mono (by decide) (by decide)
      · exact bigs s6
      · exact bigs s7
      · exact (((sps.sub cutG_sub).append (sps.sub cutG_sub)).list).mono (by decide) (by decide)
    rintro σ H6 ⟨g6, M6, htl6, dps6, p6, xs6, ds6, np6, hp6, lx6, dx6, sx6, rfl⟩
    refine ⟨fun σ H7 => Bag b H7 ∧ Mk H7 ∧ H7 tl = some (.lst ps) ∧ DXs b H7 ps pds ∧ ∃ p xs ds, p ≠ b ∧ H7 p = some (.lst xs) ∧ xs.length = 7 ∧ DXs b H7 xs ds ∧ (∀ d ∈ ds, SX d 6000 20) ∧ σ = [some (.ref a), some (.ref b), some (.int (0 + (ti : Int))), some (.ref kl), some (.ref tl), some (.int (i : Int)), some (.ref p), v7, v8, v9, v10, v11, v12], ?_, ?_⟩
    · refine ⟨_, rfl, _, rfl, _, rfl, b, tl, ps, pds, 1806, 4, rfl, g6, ntl, htl6, dps6, sps, by decide, fun p1 ys1 es1 H7 np1 hp1 dy1 sy1 g7 k7 => ?_⟩
      have htl7 := k7 _ _ ntl htl6
      refine ⟨_, rfl, _, rfl, 1, rfl, tl, ps, rfl, SqL.of htl7, fun q1 n1 => ?_⟩
      have s1 := Same.new (o := HO.lst (cutV ps none (some 1))) n1
      have c1 : (cutV ps none (some 1)).length ≤ ps.length := cut_le
      refine ⟨tl, q1, ps, _, rfl, rfl, s1 _ _ htl7, upd_same, by omega, fun q2 n2 => ?_⟩
      have s2 := Same.new (o := HO.lst (ps ++ cutV ps none (some 1))) n2
      have s12 := s1.trans s2
      refine ⟨_, rfl, _, rfl, i, rfl, _, rfl, _, _, rfl, rfl, _, rfl, tl, ps, rfl, SqL.of (s12 _ _ htl7), fun q3 n3 => ?_⟩
      have s3 := Same.new (o := HO.lst (cutV ps (some (i : Int)) (some ((i : Int) + 1)))) n3
      have c3 : (cutV ps (some (i : Int)) (some ((i : Int) + 1))).length ≤ ps.length := cut_le
      have s13 := s12.trans s3
      refine ⟨_, rfl, q3, tl, _, ps, rfl, rfl, upd_same, s13 _ _ htl7, by omega, fun q4 n4 => ⟨l3, fun q5 n5 => ?_⟩⟩
      have s4 := Same.new (o := HO.lst (cutV ps (some (i : Int)) (some ((i : Int) + 1)) ++ ps)) n4
      have s5 := Same.new (o := HO.lst [.ref p1, .ref q2, .ref q4]) n5
      have s15 := s13.trans (s4.trans s5)
      have hp6' := s15 _ _ (k7 _ _ np6 hp6)
      refine ⟨p6, q5, xs6, _, rfl, rfl, hp6', upd_same, by rw [lx6]; show 4 + 3 ≤ _; omega, fun q6 n6 => ?_⟩
      have s6 := Same.new (o := HO.lst (xs6 ++ [.ref p1, .ref q2, .ref q4])) n6
      have s16 := s15.trans s6
      have kk6 := k7.trans (Keep.of s16)
      have d7 := dps6.kept k7.k
      have y1 : DX b H7 (.ref p1) (.list es1) := .lst np1 hp1 dy1
      have y2 : DX b _ (.ref q2) (.list (pds ++ cutG pds none (some 1))) := DX.newL ((g7.same s1).ne n2) n2 ((d7.append (DXs.cut d7)).same s1)
      have y3 : DX b _ (.ref q4) (.list (cutG pds (some (i : Int)) (some ((i : Int) + 1)) ++ pds)) := DX.newL ((g7.same s13).ne n4) n4 (((DXs.cut d7).append d7).same s13)
      refine ⟨g7.same s16, M6.kept kk6.k g6.lst, s16 _ _ htl7, dps6.kept kk6.k, q6, _, ds6 ++ [.list es1, .list (pds ++ cutG pds none (some 1)), .list (cutG pds (some (i : Int)) (some ((i : Int) + 1)) ++ pds)], (g7.same s15).ne n6, upd_same, by rw [List.length_append, lx6]; rfl, (dx6.kept kk6.k).append (.cons (y1.same s16) (.cons (y2.same (s3.trans (s4.trans (s5.trans s6)))) (.cons (y3.same (s5.trans s6)) .nil))), ?_, rfl⟩
      intro d hd
      rcases List.mem_append.mp hd with hd | hd
      · exact sx6 d hd
      simp only [List.mem_cons, List.not_mem_nil, or_false] at hd
      rcases hd with rfl | rfl | rfl
      · exact (sy1.list).mono (by decide) (by decide)
      · exact ((sps.append (sps.sub cutG_sub)).list).mono (by decide) (by decide)
      · exact (((sps.sub cutG_sub).append sps).list).mono (by decide) (by decide)
    rintro σ H7 ⟨g7, M7, htl7, dps7, p7, xs7, ds7, np7, hp7, lx7, dx7, sx7, rfl⟩
    -- the first part of the train, and the one at i
    have hx0 : ps[0]? = some (ps[0]'(by omega)) := List.getElem?_eq_getElem (by omega)
    have hxi : ps[i]? = some ps[i] := List.getElem?_eq_getElem hi
    refine ⟨fun σ H8 => ∃ p xs ds, p ≠ b ∧ Bag b H8 ∧ Mk H8 ∧ (∃ Hn, Hn p = none ∧ Bag b Hn ∧ Keep b Hn H8) ∧ H8 tl = some (.lst ps) ∧ tl ≠ p ∧ DAs (fun q => q = b ∨ q = p) H8 ps pds ∧ H8 p = some (.lst xs) ∧ xs.length = 11 ∧ DAs (fun q => q = b ∨ q = p) H8 xs ds ∧ (∀ d ∈ ds, SX d 6000 20) ∧ σ = [some (.ref a), some (.ref b), some (.int (0 + (ti : Int))), some (.ref kl), some (.ref tl), some (.int (i : Int)), some (.ref p), v7, v8, v9, v10, v11, v12], ?_, ?_⟩
    · obtain ⟨d0, hd0, e0⟩ := dps7.get hx0
      obtain ⟨m0, es0, rfl, m00, m01, r0'⟩ := pa d0 (List.mem_of_getElem? hd0)
      obtain ⟨pa0, c0, ys0, ep0, npa0, nc0, hpa0, hc0, dy0⟩ := partX e0
      have at0 : atI ps 0 = some (.ref pa0) := by
        rw [← ep0]
        exact atI_nat (j := 0) hx0
      refine ⟨_, rfl, _, rfl, tl, ps, rfl, .inl ⟨SqL.of htl7, fun q1 n1 => ?_⟩⟩
      have s1 := Same.new (o := HO.tup ps) n1
      refine ⟨_, rfl, tl, _, _, _, rfl, rfl, SqL.of (s1 _ _ htl7), at0, _, rfl, tl, _, _, _, rfl, rfl, SqL.of (s1 _ _ htl7), at0, pa0, _, _, _, rfl, rfl, SqT.of (s1 _ _ hpa0), rfl, l0, fun q2 n2 => ⟨l4, fun q3 n3 => ?_⟩⟩
      have s2 := Same.new (o := HO.lst []) n2
      have s3 := Same.new (o := HO.lst [.ref q1, .ref pa0, .ref c0, .ref q2]) n3
      have s13 := s1.trans (s2.trans s3)
      refine ⟨p7, q3, xs7, _, rfl, rfl, s13 _ _ hp7, upd_same, by rw [lx7]; show 7 + 4 ≤ _; omega, fun q4 n4 => ?_⟩
      have s4 := Same.new (o := HO.lst (xs7 ++ [.ref q1, .ref pa0, .ref c0, .ref q2])) n4
      have g8 := g7.same s13
      have nq4 : q4 ≠ b := g8.ne n4
      have z1 : DX b _ (.ref q1) (.tuple pds) := DX.newT (g7.ne n1) n1 dps7
      have z2 : DX b _ (.ref q2) (.list []) := DX.newL ((g7.same s1).ne n2) n2 .nil
      have e0' : DX b H7 (.ref pa0) (.tuple [.int m0, .list es0]) := by rw [← ep0]; exact e0
      have zall : DXs b _ (xs7 ++ [.ref q1, .ref pa0, .ref c0, .ref q2]) (ds7 ++ [.tuple pds, .tuple [.int m0, .list es0], .list es0, .list []]) := (dx7.same s13).append (.cons (z1.same (s2.trans s3)) (.cons (e0'.same s13) (.cons ((DX.lst nc0 hc0 dy0).same s13) (.cons (z2.same s3) .nil))))
      have zps := dps7.same s13
      refine ⟨q4, _, ds7 ++ [.tuple pds, .tuple [.int m0, .list es0], .list es0, .list []], nq4, g8.same s4, (M7.same s13).same s4, ⟨_, n4, g8, Keep.of s4⟩, s4 _ _ (s13 _ _ htl7), ne_of_none (s13 _ _ htl7) n4, ?_, upd_same, by rw [List.length_append, lx7]; rfl, ?_, ?_, rfl⟩
      · intro q hq
        rcases hq with rfl | rfl
        · exact zps.same s4
        · exact (DXs.un n4 _ zps).same s4
      · intro q hq
        rcases hq with rfl | rfl
        · exact zall.same s4
        · exact (DXs.un n4 _ zall).same s4
      · intro d hd
        rcases List.mem_append.mp hd with hd | hd
        · exact sx7 d hd
        simp only [List.mem_cons, List.not_mem_nil, or_false] at hd
        rcases hd with rfl | rfl | rfl | rfl
        · exact (sps.tuple).mono (by decide) (by decide)
        · exact (PartS.sx ⟨m0, es0, rfl, m00, m01, r0'⟩).mono (by decide) (by decide)
        · exact (r0'.sx).mono (by decide) (by decide)
        · exact ((SXs.nil (m := 0)).list).mono (by decide) (by decide)
    rintro σ H8 ⟨p, xs8, ds8, np, g8, M8, ⟨Hn, nHn, gHn, kHn⟩, htl8, ntp, dps8, hp8, lx8, dx8, sx8, rfl⟩
    have Sb : (fun q => q = b ∨ q = p) b := Or.inl rfl
    have Sp' : (fun q => q = b ∨ q = p) p := Or.inr rfl
    obtain ⟨di, hdi, _⟩ := (dps8 b Sb).get hxi
    obtain ⟨mi, esi, rfl, mi0, mi1, ri⟩ := pa di (List.mem_of_getElem? hdi)
    have dpart : DA (fun q => q = b ∨ q = p) H8 ps[i] (.tuple [.int mi, .list esi]) := fun q hq => by
      obtain ⟨d', h', x'⟩ := (dps8 q hq).get hxi
      rw [hdi] at h'
      cases h'
      exact x'
    obtain ⟨pai, ci, ysi, epi, npai, nci, hpai, hci, dyi⟩ := partX (dpart b Sb)
    have ati : atI ps (i : Int) = some (.ref pai) := by
      rw [← epi]
      exact atI_nat hxi
    have drow : DA (fun q => q = b ∨ q = p) H8 (.ref ci) (.list esi) := fun q hq => by
      obtain ⟨pa', c', ys', e1, n1, n2, h1, h2, h3⟩ := partX (dpart q hq)
      rw [epi] at e1
      cases e1
      rw [hpai] at h1
      cases h1
      exact .lst n2 h2 h3
    refine ⟨_, rfl, _, rfl, tl, _, _, _, rfl, rfl, SqL.of htl8, ati, pai, _, _, _, rfl, rfl, SqT.of hpai, rfl, ?_⟩
    refine ⟨fun σ H9 => Bag b H9 ∧ Mk H9 ∧ Keep b Hn H9 ∧ H9 tl = some (.lst ps) ∧ DXs b H9 ps pds ∧ ∃ xs ds v8, H9 p = some (.lst xs) ∧ xs.length = 14 ∧ DXs b H9 xs ds ∧ (∀ d ∈ ds, SX d 6000 20) ∧ σ = [some (.ref a), some (.ref b), some (.int (0 + (ti : Int))), some (.ref kl), some (.ref tl), some (.int (i : Int)), some (.ref p), some (.ref ci), v8, v9, v10, v11, v12], ?_, ?_⟩
    · refine ⟨l3, fun tp ntp' => ?_⟩
      have s1 := Same.new (o := HO.tup [.int 2, .int 0, .bl true]) ntp'
      have nptp : tp ≠ p := (ne_of_none hp8 ntp').symm
      refine ⟨tp, rfl, ⟨_, SqT.of upd_same⟩, for_tup (K := K) (a := tp) (xs := [.int 2, .int 0, .bl true]) (fun j σ H9 => Bag b H9 ∧ Mk H9 ∧ Keep b Hn H9 ∧ H9 tp = some (.tup [.int 2, .int 0, .bl true]) ∧ H9 tl = some (.lst ps) ∧ DAs (fun q => q = b ∨ q = p) H9 ps pds ∧ DA (fun q => q = b ∨ q = p) H9 (.ref ci) (.list esi) ∧ ∃ xs ds v8, H9 p = some (.lst xs) ∧ xs.length = 11 + j ∧ DAs (fun q => q = b ∨ q = p) H9 xs ds ∧ (∀ d ∈ ds, SX d 6000 20) ∧ σ = [some (.ref a), some (.ref b), some (.int (0 + (ti : Int))), some (.ref kl), some (.ref tl), some (.int (i : Int)), some (.ref p), some (.ref ci), v8, v9, v10, v11, v12])
        ⟨g8.same s1, M8.same s1, kHn.trans (Keep.of s1), upd_same, s1 _ _ htl8, dps8.same s1, drow.same s1, _, _, _, s1 _ _ hp8, lx8, dx8.same s1, sx8, rfl⟩ (fun j σ H9 _ z => SqT.of z.2.2.2.1) ?_ ?_⟩
      · rintro j x σ H9 hj ⟨g9, M9, k9, htp, htl9, dps9, drow9, xs9, ds9, v8, hp9, lx9, dx9, sx9, rfl⟩
        have lj : j < 3 := (List.getElem?_eq_some_iff.mp hj).1
        obtain ⟨dm, hdm, sdm⟩ : ∃ dm, (∀ q H, DX q H x dm) ∧ SX dm 130 0 := by
          have : j = 0 ∨ j = 1 ∨ j = 2 := by omega
          rcases this with rfl | rfl | rfl
          · cases hj; exact ⟨.int 2, fun _ _ => .int 2, SX.int (by decide +kernel)⟩
          · cases hj; exact ⟨.int 0, fun _ _ => .int 0, SX.int (by decide +kernel)⟩
          · cases hj; exact ⟨.bool true, fun _ _ => .bl true, (SX.bool true).mono (by decide) (by decide)⟩
        refine ⟨_, rfl, .inl ⟨rfl, _, SqL.of hp9⟩, _, rfl, _, rfl, i, rfl, tl, ps, rfl, SqL.of htl9, fun q1 n1 => ?_⟩
        have told9 : ∀ q, (fun q => q = b ∨ q = p) q → H9 q ≠ none := fun q hq => by
          rcases hq with rfl | rfl
          · exact fun z => (g9.ne z) rfl
          · rw [hp9]; exact fun z => nomatch z
        have s1 := Same.new (o := HO.lst (cutV ps none (some (i : Int)))) n1
        refine ⟨_, rfl, _, rfl, l2, fun q2 n2 => ⟨l1, fun q3 n3 => ?_⟩⟩
        have s2 := Same.new (o := HO.tup [x, .ref ci]) n2
        have s3 := Same.new (o := HO.lst [.ref q2]) n3
        have c1 : (cutV ps none (some (i : Int))).length ≤ ps.length := cut_le
        refine ⟨q1, q3, _, _, rfl, rfl, (s2.trans s3) _ _ upd_same, upd_same, by show _ + 1 ≤ _; omega, fun q4 n4 => ?_⟩
        have s4 := Same.new (o := HO.lst (cutV ps none (some (i : Int)) ++ [.ref q2])) n4
        have s14 := s1.trans (s2.trans (s3.trans s4))
        refine ⟨_, rfl, _, rfl, _, _, rfl, rfl, _, rfl, tl, ps, rfl, SqL.of (s14 _ _ htl9), fun q5 n5 => ?_⟩
        have s5 := Same.new (o := HO.lst (cutV ps (some ((i : Int) + 1)) none)) n5
        have c2 : (cutV ps (some ((i : Int) + 1)) none).length ≤ ps.length := cut_le
        refine ⟨q4, q5, _, _, rfl, rfl, s5 _ _ upd_same, upd_same, by rw [List.length_append]; show _ + 1 + _ ≤ _; omega, fun q6 n6 => ?_⟩
        have s6 := Same.new (o := HO.lst ((cutV ps none (some (i : Int)) ++ [.ref q2]) ++ cutV ps (some ((i : Int) + 1)) none)) n6
        have s16 := s14.trans (s5.trans s6)
        have hp9' := s16 _ _ hp9
        refine ⟨p, xs9, .ref q6, rfl, rfl, hp9', by omega, ?_⟩
        have dpt : DA (fun q => q = b ∨ q = p) _ (.ref q2) (.tuple [dm, .list esi]) := DA.newT (told_same told9 s1) n2 (fun q hq => .cons (hdm q _) (.cons ((drow9.same s1) q hq) .nil))
        have dc1 : DAs (fun q => q = b ∨ q = p) H9 (cutV ps none (some (i : Int))) (cutG pds none (some (i : Int))) := fun q hq => DXs.cut (dps9 q hq)
        have dc2 : DAs (fun q => q = b ∨ q = p) H9 (cutV ps (some ((i : Int) + 1)) none) (cutG pds (some ((i : Int) + 1)) none) := fun q hq => DXs.cut (dps9 q hq)
        have dnew : DA (fun q => q = b ∨ q = p) _ (.ref q6) (.list ((cutG pds none (some (i : Int)) ++ [.tuple [dm, .list esi]]) ++ cutG pds (some ((i : Int) + 1)) none)) :=
          DA.newL (told_same told9 (s14.trans s5)) n6 (((dc1.same (s14.trans s5)).append (DAs.one (dpt.same (s3.trans (s4.trans s5))))).append (dc2.same (s14.trans s5)))
        have dall := (dx9.same s16).append (DAs.one dnew)
        have k9' := k9.trans (Keep.of s16)
        have tpp : tp ≠ p := nptp
        refine ⟨k9'.bag gHn nHn, Mk.upd (M9.same s16) hp9', k9'.newer nHn, by rw [upd_ne tpp]; exact s16 _ _ htp, by rw [upd_ne ntp]; exact s16 _ _ htl9, (dps9.same s16).kept Sp' keep_at, (drow9.same s16).kept Sp' keep_at, _, _, _, upd_same, by rw [List.length_append, lx9]; rfl, dall.kept Sp' keep_at, ?_, rfl⟩
        intro d hd
        rcases List.mem_append.mp hd with hd | hd
        · exact sx9 d hd
        · rw [List.mem_singleton.mp hd]
          have sm : SX (.tuple [dm, .list esi]) 300 4 := ((SXs.cons (sdm.mono (Nat.le_refl _) (Nat.zero_le 3)) (SXs.cons ri.sx SXs.nil)).tuple).mono (by decide) (by decide)
          exact ((((sps.sub cutG_sub).append (SXs.cons sm SXs.nil)).append (sps.sub cutG_sub)).list).mono (by decide) (by decide)
      · rintro σ H9 ⟨g9, M9, k9, htp, htl9, dps9, drow9, xs9, ds9, v8, hp9, lx9, dx9, sx9, rfl⟩
        exact ⟨g9, M9, k9, htl9, dps9 b Sb, _, _, _, hp9, lx9, dx9 b Sb, sx9, rfl⟩
    rintro σ H9 ⟨g9, M9, k9, htl9, dps9, xs9, ds9, v8', hp9, lx9, dx9, sx9, rfl⟩
    refine ⟨fun σ H10 => Bag b H10 ∧ Mk H10 ∧ ∃ p xs ds, H10 p = some (.lst xs) ∧ DXs b H10 xs ds ∧ (∀ d ∈ ds, SX d 6000 20) ∧ σ = [some (.ref a), some (.ref b), some (.int (0 + (ti : Int))), some (.ref kl), some (.ref tl), some (.int (i : Int)), some (.ref p), some (.ref ci), v8', v9, v10, v11, v12], ?_, ?_⟩
    · obtain ⟨dj, hdj, ej⟩ := dps9.get hxi
      rw [hdi] at hdj
      cases hdj
      obtain ⟨paj, cj, ysj, epj, npaj, ncj, hpaj, hcj, dyj⟩ := partX ej
      have atj : atI ps (i : Int) = some (.ref paj) := by
        rw [← epj]
        exact atI_nat hxi
      refine ⟨_, rfl, _, rfl, _, rfl, tl, _, _, _, rfl, rfl, SqL.of htl9, atj, paj, _, rfl, .inr (SqT.of hpaj), fun q1 n1 => ⟨l1, fun q2 n2 => ?_⟩⟩
      have s1 := Same.new (o := HO.lst [.int mi, .ref cj]) n1
      have s2 := Same.new (o := HO.lst [.ref q1]) n2
      have s12 := s1.trans s2
      refine ⟨_, rfl, b, rfl, g9.same s12, fun v d H10 da sd g10 k10 => ⟨l2, fun q3 n3 => ?_⟩⟩
      have s3 := Same.new (o := HO.lst [.ref q2, v]) n3
      have k910 := (Keep.of s12).trans k10
      refine ⟨p, q3, xs9, _, rfl, rfl, s3 _ _ (k910 _ _ np hp9), upd_same, by rw [lx9]; show 14 + 2 ≤ _; omega, fun q4 n4 => ?_⟩
      have s4 := Same.new (o := HO.lst (xs9 ++ [.ref q2, v])) n4
      have s34 := s3.trans s4
      have kk := k910.trans (Keep.of s34)
      have tb : Told (upd (upd H9 q1 (HO.lst [.int mi, .ref cj])) q2 (HO.lst [.ref q1])) b := fun z => ((g9.same s12).ne z) rfl
      have u1 : DX b _ (.ref q1) (.list [.int mi, .list esi]) := DX.newL (g9.ne n1) n1 (.cons (.int mi) (.cons (.lst ncj hcj dyj) .nil))
      have u2 : DX b _ (.ref q2) (.list [.list [.int mi, .list esi]]) := DX.newL ((g9.same s1).ne n2) n2 (.cons u1 .nil)
      refine ⟨g10.same s34, M9.kept kk.k g9.lst, q4, _, ds9 ++ [.list [.list [.int mi, .list esi]], d], upd_same, (dx9.kept kk.k).append (.cons (u2.kept (k10.trans (Keep.of s34)).k) (.cons ((da b tb).same s34) .nil)), ?_, rfl⟩
      intro d' hd'
      rcases List.mem_append.mp hd' with hd' | hd'
      · exact sx9 d' hd'
      simp only [List.mem_cons, List.not_mem_nil, or_false] at hd'
      rcases hd' with rfl | rfl
      · have hm : mi.natAbs < 10 ^ 39 := by
          have : (10 : Int) ^ 39 = ((10 ^ 39 : Nat) : Int) := by decide
          omega
        have sm : SX (.list [.int mi, .list esi]) 300 4 := ((SXs.cons ((SX.int hm).mono (Nat.le_refl _) (Nat.zero_le 3)) (SXs.cons ri.sx SXs.nil)).list).mono (by decide) (by decide)
        exact ((SXs.cons sm SXs.nil).list).mono (by decide) (by decide)
      · exact sd.mono (by decide) (by decide)
    rintro σ H10 ⟨g10, M10, p10, xs, ds, hp10, dxs, sxs, rfl⟩
    refine ⟨_, rfl, p10, rfl, ⟨_, SqL.of hp10⟩, for_list (K := K) (a := p10) (xs := xs) (fun _ σ H11 => Same H10 H11 ∧ ∃ v9 v10 v11 v12, σ = [some (.ref a), some (.ref b), some (.int (0 + (ti : Int))), some (.ref kl), some (.ref tl), some (.int (i : Int)), some (.ref p10), some (.ref ci), v8', v9, v10, v11, v12])
      ⟨Same.refl _, _, _, _, _, rfl⟩ (fun _ σ H11 _ z => SqL.of (z.1 _ _ hp10)) ?_ ?_⟩
    · rintro j x σ H11 hj ⟨s11, v9, v10, v11, v12, rfl⟩
      obtain ⟨d, hd, dx⟩ := dxs.get hj
      have sd := sxs d (List.mem_of_getElem? hd)
      have sd50 : SX d 6000 50 := sd.mono (Nat.le_refl _) (by decide)
      have n3 : (6000 : Nat) ≤ 300000 := by decide
      have tx := sd.tx (by decide) (by decide)
      refine ⟨_, rfl, b, x, d, rfl, M10.same s11, dx.same s11, tx, _, rfl, b, x, d, 6000, rfl, dx.same s11, sd50, n3, fun H12 s12 => ⟨_, _, rfl, ?_⟩⟩
      have s1 := s11.trans s12
      refine ⟨2, rfl, by decide, by decide, for_range (n := 2) (fun _ σ H13 => Same H12 H13 ∧ ∃ v12, σ = [some (.ref a), some (.ref b), some (.int (0 + (ti : Int))), some (.ref kl), some (.ref tl), some (.int (i : Int)), some (.ref p10), some (.ref ci), v8', some x, some (.str d.shown), some (.bl (mTrain d)), v12])
        ⟨Same.refl _, _, rfl⟩ ?_ ?_⟩
      · rintro q σ H13 hq' ⟨s13, w12, rfl⟩
        have s2 := s1.trans s13
        refine ⟨_, rfl, b, x, d, 6000, rfl, dx.same s2, sd50, n3, fun H14 s14 => ⟨_, rfl, b, x, d, rfl, M10.same (s2.trans s14), dx.same (s2.trans s14), tx, l2, fun p1 n1 => ⟨_, rfl, _, rfl, l2, fun p2 n2 => ?_⟩⟩⟩
        have t1 := Same.new (o := HO.lst [.bl (mTrain d), .str d.shown]) n1
        have t2 := Same.new (o := HO.lst [.bl (mTrain d), .str d.shown]) n2
        refine ⟨_, _, .list [.bool (mTrain d), .str d.shown], rfl, .lst (SqL.of (t2 _ _ upd_same)) (.cons (.bl _) (.cons (.str _) .nil)), .lst (SqL.of upd_same) (.cons (.bl _) (.cons (.str _) .nil)), one_fine sd, true, rfl, ?_⟩
        exact iteF ⟨s13.trans (s14.trans (t1.trans t2)), _, rfl⟩
      · rintro σ H13 ⟨s13, w12, rfl⟩
        exact ⟨s1.trans s13, _, _, _, _, rfl⟩
    · rintro σ H11 ⟨s11, v9, v10, v11, v12, rfl⟩
      exact ⟨g10.same s11, M10.same s11, _, _, _, _, _, _, _, _, _, _, _, rfl⟩
end
end K14

namespace K14
open PySem PySem.Spec PyProof.Rows L2 HK
theorem all_mk {P : Program} {w : World} {K : PySem.W.Frag} {h : Heap} {mg : Str → Option Value} {fa : Addr} {f1 f2 f3 f4 f5 f6 f30 f31 f32 f33 f34 f35 f36 f8 f9 f10 f11 f12 f13 f14 f15 f16 f17 f18 f19 f20 f40 f41 f42 f43 f44 f45 f46 f47 f48 f99 : Addr}
    {od1 an1 : Option Addr} {sl1 : Array (Option Value)} {oc1 kV1 dc1 pm1 cd1 ct1 : Value}
    {od2 an2 : Option Addr} {sl2 : Array (Option Value)} {oc2 kV2 dc2 pm2 cd2 ct2 : Value}
    {od3 an3 : Option Addr} {sl3 : Array (Option Value)} {oc3 kV3 dc3 pm3 cd3 ct3 : Value}
    {od4 an4 : Option Addr} {sl4 : Array (Option Value)} {oc4 kV4 dc4 pm4 cd4 ct4 : Value}
    {od5 an5 : Option Addr} {sl5 : Array (Option Value)} {oc5 kV5 dc5 pm5 cd5 ct5 : Value}
    {od6 an6 : Option Addr} {sl6 : Array (Option Value)} {oc6 kV6 dc6 pm6 cd6 ct6 : Value}
    {od30 an30 : Option Addr} {sl30 : Array (Option Value)} {oc30 kV30 dc30 pm30 cd30 ct30 : Value}
    {od31 an31 : Option Addr} {sl31 : Array (Option Value)} {oc31 kV31 dc31 pm31 cd31 ct31 : Value}
    {od32 an32 : Option Addr} {sl32 : Array (Option Value)} {oc32 kV32 dc32 pm32 cd32 ct32 : Value}
    {od33 an33 : Option Addr} {sl33 : Array (Option Value)} {oc33 kV33 dc33 pm33 cd33 ct33 : Value}
    {od34 an34 : Option Addr} {sl34 : Array (Option Value)} {oc34 kV34 dc34 pm34 cd34 ct34 : Value}
    {od35 an35 : Option Addr} {sl35 : Array (Option Value)} {oc35 kV35 dc35 pm35 cd35 ct35 : Value}
    {od36 an36 : Option Addr} {sl36 : Array (Option Value)} {oc36 kV36 dc36 pm36 cd36 ct36 : Value}
    {od8 an8 : Option Addr} {sl8 : Array (Option Value)} {oc8 kV8 dc8 pm8 cd8 ct8 : Value}
    {od9 an9 : Option Addr} {sl9 : Array (Option Value)} {oc9 kV9 dc9 pm9 cd9 ct9 : Value}
    {od10 an10 : Option Addr} {sl10 : Array (Option Value)} {oc10 kV10 dc10 pm10 cd10 ct10 : Value}
    {od11 an11 : Option Addr} {sl11 : Array (Option Value)} {oc11 kV11 dc11 pm11 cd11 ct11 : Value}
    {od12 an12 : Option Addr} {sl12 : Array (Option Value)} {oc12 kV12 dc12 pm12 cd12 ct12 : Value}
    {od13 an13 : Option Addr} {sl13 : Array (Option Value)} {oc13 kV13 dc13 pm13 cd13 ct13 : Value}
    {od14 an14 : Option Addr} {sl14 : Array (Option Value)} {oc14 kV14 dc14 pm14 cd14 ct14 : Value}
    {od15 an15 : Option Addr} {sl15 : Array (Option Value)} {oc15 kV15 dc15 pm15 cd15 ct15 : Value}
    {od16 an16 : Option Addr} {sl16 : Array (Option Value)} {oc16 kV16 dc16 pm16 cd16 ct16 : Value}
    {od17 an17 : Option Addr} {sl17 : Array (Option Value)} {oc17 kV17 dc17 pm17 cd17 ct17 : Value}
    {od18 an18 : Option Addr} {sl18 : Array (Option Value)} {oc18 kV18 dc18 pm18 cd18 ct18 : Value}
    {od19 an19 : Option Addr} {sl19 : Array (Option Value)} {oc19 kV19 dc19 pm19 cd19 ct19 : Value}
    {od20 an20 : Option Addr} {sl20 : Array (Option Value)} {oc20 kV20 dc20 pm20 cd20 ct20 : Value}
    {od40 an40 : Option Addr} {sl40 : Array (Option Value)} {oc40 kV40 dc40 pm40 cd40 ct40 : Value}
    {od41 an41 : Option Addr} {sl41 : Array (Option Value)} {oc41 kV41 dc41 pm41 cd41 ct41 : Value}
    {od42 an42 : Option Addr} {sl42 : Array (Option Value)} {oc42 kV42 dc42 pm42 cd42 ct42 : Value}
    {od43 an43 : Option Addr} {sl43 : Array (Option Value)} {oc43 kV43 dc43 pm43 cd43 ct43 : Value}
    {od44 an44 : Option Addr} {sl44 : Array (Option Value)} {oc44 kV44 dc44 pm44 cd44 ct44 : Value}
    {od45 an45 : Option Addr} {sl45 : Array (Option Value)} {oc45 kV45 dc45 pm45 cd45 ct45 : Value}
    {od46 an46 : Option Addr} {sl46 : Array (Option Value)} {oc46 kV46 dc46 pm46 cd46 ct46 : Value}
    {od47 an47 : Option Addr} {sl47 : Array (Option Value)} {oc47 kV47 dc47 pm47 cd47 ct47 : Value}
    {od48 an48 : Option Addr} {sl48 : Array (Option Value)} {oc48 kV48 dc48 pm48 cd48 ct48 : Value}
    {od99 an99 : Option Addr} {sl99 : Array (Option Value)} {oc99 kV99 dc99 pm99 cd99 ct99 : Value}
    {tL : Tok}
    (X : K.In h) (G : h.Ns mainGlobals mg) (hfa : mg "law" = some (.ref fa))
    (a1 : PySem.W.nsIn K mainGlobals "is_integer" = some (some (.ref f1)))
    (l1 : K.lookup f1 = some ⟨oc1, od1, .func (PySem.W.fnOf "is_integer" "is_integer" (defArgs sInt) (defBody sInt) (defScope sInt) .none kV1 dc1 pm1 an1 cd1 ct1), sl1⟩)
    (c1 : PySem.W.codeIn K cd1 "is_integer" = true)
    (k1 : PySem.W.keepIn K (.ref f1) = true)
    (a2 : PySem.W.nsIn K mainGlobals "is_number" = some (some (.ref f2)))
    (l2 : K.lookup f2 = some ⟨oc2, od2, .func (PySem.W.fnOf "is_number" "is_number" (defArgs sNum) (defBody sNum) (defScope sNum) .none kV2 dc2 pm2 an2 cd2 ct2), sl2⟩)
    (c2 : PySem.W.codeIn K cd2 "is_number" = true)
    (k2 : PySem.W.keepIn K (.ref f2) = true)
    (a3 : PySem.W.nsIn K mainGlobals "is_kind" = some (some (.ref f3)))
    (l3 : K.lookup f3 = some ⟨oc3, od3, .func (PySem.W.fnOf "is_kind" "is_kind" (defArgs sKind) (defBody sKind) (defScope sKind) .none kV3 dc3 pm3 an3 cd3 ct3), sl3⟩)
    (c3 : PySem.W.codeIn K cd3 "is_kind" = true)
    (k3 : PySem.W.keepIn K (.ref f3) = true)
    (a4 : PySem.W.nsIn K mainGlobals "is_cart" = some (some (.ref f4)))
    (l4 : K.lookup f4 = some ⟨oc4, od4, .func (PySem.W.fnOf "is_cart" "is_cart" (defArgs sCart) (defBody sCart) (defScope sCart) .none kV4 dc4 pm4 an4 cd4 ct4), sl4⟩)
    (c4 : PySem.W.codeIn K cd4 "is_cart" = true)
    (k4 : PySem.W.keepIn K (.ref f4) = true)
    (a5 : PySem.W.nsIn K mainGlobals "has_two_steps" = some (some (.ref f5)))
    (l5 : K.lookup f5 = some ⟨oc5, od5, .func (PySem.W.fnOf "has_two_steps" "has_two_steps" (defArgs sTwo) (defBody sTwo) (defScope sTwo) .none kV5 dc5 pm5 an5 cd5 ct5), sl5⟩)
    (c5 : PySem.W.codeIn K cd5 "has_two_steps" = true)
    (k5 : PySem.W.keepIn K (.ref f5) = true)
    (a6 : PySem.W.nsIn K mainGlobals "is_step" = some (some (.ref f6)))
    (l6 : K.lookup f6 = some ⟨oc6, od6, .func (PySem.W.fnOf "is_step" "is_step" (defArgs sStep) (defBody sStep) (defScope sStep) .none kV6 dc6 pm6 an6 cd6 ct6), sl6⟩)
    (c6 : PySem.W.codeIn K cd6 "is_step" = true)
    (k6 : PySem.W.keepIn K (.ref f6) = true)
    (a30 : PySem.W.nsIn K mainGlobals "begin_of" = some (some (.ref f30)))
    (l30 : K.lookup f30 = some ⟨oc30, od30, .func (PySem.W.fnOf "begin_of" "begin_of" (defArgs sBegin) (defBody sBegin) (defScope sBegin) .none kV30 dc30 pm30 an30 cd30 ct30), sl30⟩)
    (c30 : PySem.W.codeIn K cd30 "begin_of" = true)
    (k30 : PySem.W.keepIn K (.ref f30) = true)
    (a31 : PySem.W.nsIn K mainGlobals "end_of" = some (some (.ref f31)))
    (l31 : K.lookup f31 = some ⟨oc31, od31, .func (PySem.W.fnOf "end_of" "end_of" (defArgs sEnd) (defBody sEnd) (defScope sEnd) .none kV31 dc31 pm31 an31 cd31 ct31), sl31⟩)
    (c31 : PySem.W.codeIn K cd31 "end_of" = true)
    (k31 : PySem.W.keepIn K (.ref f31) = true)
    (a32 : PySem.W.nsIn K mainGlobals "couple" = some (some (.ref f32)))
    (l32 : K.lookup f32 = some ⟨oc32, od32, .func (PySem.W.fnOf "couple" "couple" (defArgs sCouple) (defBody sCouple) (defScope sCouple) .none kV32 dc32 pm32 an32 cd32 ct32), sl32⟩)
    (c32 : PySem.W.codeIn K cd32 "couple" = true)
    (k32 : PySem.W.keepIn K (.ref f32) = true)
    (a33 : PySem.W.nsIn K mainGlobals "is_row" = some (some (.ref f33)))
    (l33 : K.lookup f33 = some ⟨oc33, od33, .func (PySem.W.fnOf "is_row" "is_row" (defArgs sRow) (defBody sRow) (defScope sRow) .none kV33 dc33 pm33 an33 cd33 ct33), sl33⟩)
    (c33 : PySem.W.codeIn K cd33 "is_row" = true)
    (k33 : PySem.W.keepIn K (.ref f33) = true)
    (a34 : PySem.W.nsIn K mainGlobals "is_train" = some (some (.ref f34)))
    (l34 : K.lookup f34 = some ⟨oc34, od34, .func (PySem.W.fnOf "is_train" "is_train" (defArgs sTrain) (defBody sTrain) (defScope sTrain) .none kV34 dc34 pm34 an34 cd34 ct34), sl34⟩)
    (c34 : PySem.W.codeIn K cd34 "is_train" = true)
    (k34 : PySem.W.keepIn K (.ref f34) = true)
    (a35 : PySem.W.nsIn K mainGlobals "_is_part" = some (some (.ref f35)))
    (l35 : K.lookup f35 = some ⟨oc35, od35, .func (PySem.W.fnOf "_is_part" "_is_part" (defArgs sPart) (defBody sPart) (defScope sPart) .none kV35 dc35 pm35 an35 cd35 ct35), sl35⟩)
    (c35 : PySem.W.codeIn K cd35 "_is_part" = true)
    (k35 : PySem.W.keepIn K (.ref f35) = true)
    (a36 : PySem.W.nsIn K mainGlobals "_parts_couple" = some (some (.ref f36)))
    (l36 : K.lookup f36 = some ⟨oc36, od36, .func (PySem.W.fnOf "_parts_couple" "_parts_couple" (defArgs sPC) (defBody sPC) (defScope sPC) .none kV36 dc36 pm36 an36 cd36 ct36), sl36⟩)
    (c36 : PySem.W.codeIn K cd36 "_parts_couple" = true)
    (k36 : PySem.W.keepIn K (.ref f36) = true)
    (a8 : PySem.W.nsIn K mainGlobals "_law_bag" = some (some (.ref f8)))
    (l8 : K.lookup f8 = some ⟨oc8, od8, .func (PySem.W.fnOf "_law_bag" "_law_bag" (defArgs sBag) (defBody sBag) (defScope sBag) .none kV8 dc8 pm8 an8 cd8 ct8), sl8⟩)
    (c8 : PySem.W.codeIn K cd8 "_law_bag" = true)
    (k8 : PySem.W.keepIn K (.ref f8) = true)
    (a9 : PySem.W.nsIn K mainGlobals "_law_take" = some (some (.ref f9)))
    (l9 : K.lookup f9 = some ⟨oc9, od9, .func (PySem.W.fnOf "_law_take" "_law_take" (defArgs sTake) (defBody sTake) (defScope sTake) .none kV9 dc9 pm9 an9 cd9 ct9), sl9⟩)
    (c9 : PySem.W.codeIn K cd9 "_law_take" = true)
    (k9 : PySem.W.keepIn K (.ref f9) = true)
    (a10 : PySem.W.nsIn K mainGlobals "_law_alike" = some (some (.ref f10)))
    (l10 : K.lookup f10 = some ⟨oc10, od10, .func (PySem.W.fnOf "_law_alike" "_law_alike" (defArgs sAlike) (defBody sAlike) (defScope sAlike) .none kV10 dc10 pm10 an10 cd10 ct10), sl10⟩)
    (c10 : PySem.W.codeIn K cd10 "_law_alike" = true)
    (k10 : PySem.W.keepIn K (.ref f10) = true)
    (a11 : PySem.W.nsIn K mainGlobals "_law_one" = some (some (.ref f11)))
    (l11 : K.lookup f11 = some ⟨oc11, od11, .func (PySem.W.fnOf "_law_one" "_law_one" (defArgs sOne) (defBody sOne) (defScope sOne) .none kV11 dc11 pm11 an11 cd11 ct11), sl11⟩)
    (c11 : PySem.W.codeIn K cd11 "_law_one" = true)
    (k11 : PySem.W.keepIn K (.ref f11) = true)
    (a12 : PySem.W.nsIn K mainGlobals "_law_kinds" = some (some (.ref f12)))
    (l12 : K.lookup f12 = some ⟨oc12, od12, .func (PySem.W.fnOf "_law_kinds" "_law_kinds" (defArgs sKinds) (defBody sKinds) (defScope sKinds) .none kV12 dc12 pm12 an12 cd12 ct12), sl12⟩)
    (c12 : PySem.W.codeIn K cd12 "_law_kinds" = true)
    (k12 : PySem.W.keepIn K (.ref f12) = true)
    (a13 : PySem.W.nsIn K mainGlobals "_law_number" = some (some (.ref f13)))
    (l13 : K.lookup f13 = some ⟨oc13, od13, .func (PySem.W.fnOf "_law_number" "_law_number" (defArgs sLNum) (defBody sLNum) (defScope sLNum) .none kV13 dc13 pm13 an13 cd13 ct13), sl13⟩)
    (c13 : PySem.W.codeIn K cd13 "_law_number" = true)
    (k13 : PySem.W.keepIn K (.ref f13) = true)
    (a14 : PySem.W.nsIn K mainGlobals "_law_step_on" = some (some (.ref f14)))
    (l14 : K.lookup f14 = some ⟨oc14, od14, .func (PySem.W.fnOf "_law_step_on" "_law_step_on" (defArgs sStepOn) (defBody sStepOn) (defScope sStepOn) .none kV14 dc14 pm14 an14 cd14 ct14), sl14⟩)
    (c14 : PySem.W.codeIn K cd14 "_law_step_on" = true)
    (k14 : PySem.W.keepIn K (.ref f14) = true)
    (a15 : PySem.W.nsIn K mainGlobals "_law_is_int" = some (some (.ref f15)))
    (l15 : K.lookup f15 = some ⟨oc15, od15, .func (PySem.W.fnOf "_law_is_int" "_law_is_int" (defArgs sLInt) (defBody sLInt) (defScope sLInt) .none kV15 dc15 pm15 an15 cd15 ct15), sl15⟩)
    (c15 : PySem.W.codeIn K cd15 "_law_is_int" = true)
    (k15 : PySem.W.keepIn K (.ref f15) = true)
    (a16 : PySem.W.nsIn K mainGlobals "_law_is_kind" = some (some (.ref f16)))
    (l16 : K.lookup f16 = some ⟨oc16, od16, .func (PySem.W.fnOf "_law_is_kind" "_law_is_kind" (defArgs sLKind) (defBody sLKind) (defScope sLKind) .none kV16 dc16 pm16 an16 cd16 ct16), sl16⟩)
    (c16 : PySem.W.codeIn K cd16 "_law_is_kind" = true)
    (k16 : PySem.W.keepIn K (.ref f16) = true)
    (a17 : PySem.W.nsIn K mainGlobals "_law_is_cart" = some (some (.ref f17)))
    (l17 : K.lookup f17 = some ⟨oc17, od17, .func (PySem.W.fnOf "_law_is_cart" "_law_is_cart" (defArgs sLCart) (defBody sLCart) (defScope sLCart) .none kV17 dc17 pm17 an17 cd17 ct17), sl17⟩)
    (c17 : PySem.W.codeIn K cd17 "_law_is_cart" = true)
    (k17 : PySem.W.keepIn K (.ref f17) = true)
    (a18 : PySem.W.nsIn K mainGlobals "_law_is_step" = some (some (.ref f18)))
    (l18 : K.lookup f18 = some ⟨oc18, od18, .func (PySem.W.fnOf "_law_is_step" "_law_is_step" (defArgs sLStep) (defBody sLStep) (defScope sLStep) .none kV18 dc18 pm18 an18 cd18 ct18), sl18⟩)
    (c18 : PySem.W.codeIn K cd18 "_law_is_step" = true)
    (k18 : PySem.W.keepIn K (.ref f18) = true)
    (a19 : PySem.W.nsIn K mainGlobals "_law_odd_value" = some (some (.ref f19)))
    (l19 : K.lookup f19 = some ⟨oc19, od19, .func (PySem.W.fnOf "_law_odd_value" "_law_odd_value" (defArgs sOdd) (defBody sOdd) (defScope sOdd) .none kV19 dc19 pm19 an19 cd19 ct19), sl19⟩)
    (c19 : PySem.W.codeIn K cd19 "_law_odd_value" = true)
    (k19 : PySem.W.keepIn K (.ref f19) = true)
    (a20 : PySem.W.nsIn K mainGlobals "_law_bent" = some (some (.ref f20)))
    (l20 : K.lookup f20 = some ⟨oc20, od20, .func (PySem.W.fnOf "_law_bent" "_law_bent" (defArgs sBent) (defBody sBent) (defScope sBent) .none kV20 dc20 pm20 an20 cd20 ct20), sl20⟩)
    (c20 : PySem.W.codeIn K cd20 "_law_bent" = true)
    (k20 : PySem.W.keepIn K (.ref f20) = true)
    (a40 : PySem.W.nsIn K mainGlobals "_law_mixed" = some (some (.ref f40)))
    (l40 : K.lookup f40 = some ⟨oc40, od40, .func (PySem.W.fnOf "_law_mixed" "_law_mixed" (defArgs sMixed) (defBody sMixed) (defScope sMixed) .none kV40 dc40 pm40 an40 cd40 ct40), sl40⟩)
    (c40 : PySem.W.codeIn K cd40 "_law_mixed" = true)
    (k40 : PySem.W.keepIn K (.ref f40) = true)
    (a41 : PySem.W.nsIn K mainGlobals "_law_begin" = some (some (.ref f41)))
    (l41 : K.lookup f41 = some ⟨oc41, od41, .func (PySem.W.fnOf "_law_begin" "_law_begin" (defArgs sLBegin) (defBody sLBegin) (defScope sLBegin) .none kV41 dc41 pm41 an41 cd41 ct41), sl41⟩)
    (c41 : PySem.W.codeIn K cd41 "_law_begin" = true)
    (k41 : PySem.W.keepIn K (.ref f41) = true)
    (a42 : PySem.W.nsIn K mainGlobals "_law_end" = some (some (.ref f42)))
    (l42 : K.lookup f42 = some ⟨oc42, od42, .func (PySem.W.fnOf "_law_end" "_law_end" (defArgs sLEnd) (defBody sLEnd) (defScope sLEnd) .none kV42 dc42 pm42 an42 cd42 ct42), sl42⟩)
    (c42 : PySem.W.codeIn K cd42 "_law_end" = true)
    (k42 : PySem.W.keepIn K (.ref f42) = true)
    (a43 : PySem.W.nsIn K mainGlobals "_law_row_from" = some (some (.ref f43)))
    (l43 : K.lookup f43 = some ⟨oc43, od43, .func (PySem.W.fnOf "_law_row_from" "_law_row_from" (defArgs sRowFrom) (defBody sRowFrom) (defScope sRowFrom) .none kV43 dc43 pm43 an43 cd43 ct43), sl43⟩)
    (c43 : PySem.W.codeIn K cd43 "_law_row_from" = true)
    (k43 : PySem.W.keepIn K (.ref f43) = true)
    (a44 : PySem.W.nsIn K mainGlobals "_law_round" = some (some (.ref f44)))
    (l44 : K.lookup f44 = some ⟨oc44, od44, .func (PySem.W.fnOf "_law_round" "_law_round" (defArgs sRound) (defBody sRound) (defScope sRound) .none kV44 dc44 pm44 an44 cd44 ct44), sl44⟩)
    (c44 : PySem.W.codeIn K cd44 "_law_round" = true)
    (k44 : PySem.W.keepIn K (.ref f44) = true)
    (a45 : PySem.W.nsIn K mainGlobals "_law_train" = some (some (.ref f45)))
    (l45 : K.lookup f45 = some ⟨oc45, od45, .func (PySem.W.fnOf "_law_train" "_law_train" (defArgs sLTrain) (defBody sLTrain) (defScope sLTrain) .none kV45 dc45 pm45 an45 cd45 ct45), sl45⟩)
    (c45 : PySem.W.codeIn K cd45 "_law_train" = true)
    (k45 : PySem.W.keepIn K (.ref f45) = true)
    (a46 : PySem.W.nsIn K mainGlobals "_law_is_row" = some (some (.ref f46)))
    (l46 : K.lookup f46 = some ⟨oc46, od46, .func (PySem.W.fnOf "_law_is_row" "_law_is_row" (defArgs sLRow) (defBody sLRow) (defScope sLRow) .none kV46 dc46 pm46 an46 cd46 ct46), sl46⟩)
    (c46 : PySem.W.codeIn K cd46 "_law_is_row" = true)
    (k46 : PySem.W.keepIn K (.ref f46) = true)
    (a47 : PySem.W.nsIn K mainGlobals "_law_is_part" = some (some (.ref f47)))
    (l47 : K.lookup f47 = some ⟨oc47, od47, .func (PySem.W.fnOf "_law_is_part" "_law_is_part" (defArgs sLPart) (defBody sLPart) (defScope sLPart) .none kV47 dc47 pm47 an47 cd47 ct47), sl47⟩)
    (c47 : PySem.W.codeIn K cd47 "_law_is_part" = true)
    (k47 : PySem.W.keepIn K (.ref f47) = true)
    (a48 : PySem.W.nsIn K mainGlobals "_law_is_train" = some (some (.ref f48)))
    (l48 : K.lookup f48 = some ⟨oc48, od48, .func (PySem.W.fnOf "_law_is_train" "_law_is_train" (defArgs sLTr) (defBody sLTr) (defScope sLTr) .none kV48 dc48 pm48 an48 cd48 ct48), sl48⟩)
    (c48 : PySem.W.codeIn K cd48 "_law_is_train" = true)
    (k48 : PySem.W.keepIn K (.ref f48) = true)
    (a99 : PySem.W.nsIn K mainGlobals "law" = some (some (.ref f99)))
    (l99 : K.lookup f99 = some ⟨oc99, od99, .func (PySem.W.fnOf "law" "law" (defArgs sLaw) (defBody sLaw) (defScope sLaw) .none kV99 dc99 pm99 an99 cd99 ct99), sl99⟩)
    (c99 : PySem.W.codeIn K cd99 "law" = true)
    (k99 : PySem.W.keepIn K (.ref f99) = true)
    (aL : PySem.W.nsIn K mainGlobals "_LETTERS" = some (some (.str abc tL)))
    (z_abs : PySem.W.nsIn K mainGlobals "abs" = some none)
    (z_len : PySem.W.nsIn K mainGlobals "len" = some none)
    (z_int : PySem.W.nsIn K mainGlobals "int" = some none)
    (z_repr : PySem.W.nsIn K mainGlobals "repr" = some none)
    (z_range : PySem.W.nsIn K mainGlobals "range" = some none)
    (z_sorted : PySem.W.nsIn K mainGlobals "sorted" = some none)
    (z_min : PySem.W.nsIn K mainGlobals "min" = some none)
    (z_max : PySem.W.nsIn K mainGlobals "max" = some none)
    (z_isinstance : PySem.W.nsIn K mainGlobals "isinstance" = some none)
    (z_bool : PySem.W.nsIn K mainGlobals "bool" = some none)
    (z_str : PySem.W.nsIn K mainGlobals "str" = some none)
    (z_tuple : PySem.W.nsIn K mainGlobals "tuple" = some none)
    (z_list : PySem.W.nsIn K mainGlobals "list" = some none)
    (z_all : PySem.W.nsIn K mainGlobals "all" = some none)
    (z_zip : PySem.W.nsIn K mainGlobals "zip" = some none)
    (sm : K.lookup sysModules = none) :
    K.lookup sysModules = none ∧ ∃ fd : FuncData, (∀ (s : Shared) (v : Value), BindsTo s fd ⟨[v], []⟩ [("_law_script", v)]) ∧ ∀ base : Heap, K.In base → base.Ns mainGlobals mg → FnG P w K mg base CX0 10 fa fd ["_law_script"] (spLaw K) := by
  have e := hfa.symm.trans (PySem.W.mg_of X G a99)
  cases e
  have N : ∀ {x : Str}, PySem.W.nsIn K mainGlobals x = some none → mg x = none := fun z => PySem.W.mg_none_of X G z
  have M : ∀ {x : Str} {v : Value}, PySem.W.nsIn K mainGlobals x = some (some v) → mg x = some v := fun z => PySem.W.mg_of X G z
  have J : TxJ mg := ⟨N z_isinstance, fun x hx => by
    simp only [List.mem_cons, List.not_mem_nil, or_false] at hx
    rcases hx with rfl | rfl | rfl | rfl | rfl | rfl | rfl
    · exact N z_int
    · exact N z_bool
    · exact N z_str
    · exact N z_tuple
    · exact N z_list
    · exact N z_len
    · exact N z_all, ⟨tL, M aL⟩⟩
  have F1 := fun_mk (st := sInt) l1 c1 k1
  have b1 := F1.binds (ps := ["thing"]) fun _ _ _ _ _ _ us hl => match us, hl with | [_], _ => rfl
  have F2 := fun_mk (st := sNum) l2 c2 k2
  have b2 := F2.binds (ps := ["least", "thing"]) fun _ _ _ _ _ _ us hl => match us, hl with | [_, _], _ => rfl
  have F3 := fun_mk (st := sKind) l3 c3 k3
  have b3 := F3.binds (ps := ["thing"]) fun _ _ _ _ _ _ us hl => match us, hl with | [_], _ => rfl
  have F4 := fun_mk (st := sCart) l4 c4 k4
  have b4 := F4.binds (ps := ["thing"]) fun _ _ _ _ _ _ us hl => match us, hl with | [_], _ => rfl
  have F5 := fun_mk (st := sTwo) l5 c5 k5
  have b5 := F5.binds (ps := ["cart"]) fun _ _ _ _ _ _ us hl => match us, hl with | [_], _ => rfl
  have F6 := fun_mk (st := sStep) l6 c6 k6
  have b6 := F6.binds (ps := ["thing"]) fun _ _ _ _ _ _ us hl => match us, hl with | [_], _ => rfl
  have F30 := fun_mk (st := sBegin) l30 c30 k30
  have b30 := F30.binds (ps := ["step"]) fun _ _ _ _ _ _ us hl => match us, hl with | [_], _ => rfl
  have F31 := fun_mk (st := sEnd) l31 c31 k31
  have b31 := F31.binds (ps := ["step"]) fun _ _ _ _ _ _ us hl => match us, hl with | [_], _ => rfl
  have F32 := fun_mk (st := sCouple) l32 c32 k32
  have b32 := F32.binds (ps := ["step", "other"]) fun _ _ _ _ _ _ us hl => match us, hl with | [_, _], _ => rfl
  have F33 := fun_mk (st := sRow) l33 c33 k33
  have b33 := F33.binds (ps := ["thing"]) fun _ _ _ _ _ _ us hl => match us, hl with | [_], _ => rfl
  have F34 := fun_mk (st := sTrain) l34 c34 k34
  have b34 := F34.binds (ps := ["thing"]) fun _ _ _ _ _ _ us hl => match us, hl with | [_], _ => rfl
  have F35 := fun_mk (st := sPart) l35 c35 k35
  have b35 := F35.binds (ps := ["thing"]) fun _ _ _ _ _ _ us hl => match us, hl with | [_], _ => rfl
  have F36 := fun_mk (st := sPC) l36 c36 k36
  have b36 := F36.binds (ps := ["part", "other"]) fun _ _ _ _ _ _ us hl => match us, hl with | [_, _], _ => rfl
  have F8 := fun_mk (st := sBag) l8 c8 k8
  have b8 := F8.binds (ps := ["_law_script"]) fun _ _ _ _ _ _ us hl => match us, hl with | [_], _ => rfl
  have F9 := fun_mk (st := sTake) l9 c9 k9
  have b9 := F9.binds (ps := ["_law_bag_here", "_law_many"]) fun _ _ _ _ _ _ us hl => match us, hl with | [_, _], _ => rfl
  have F10 := fun_mk (st := sAlike) l10 c10 k10
  have b10 := F10.binds (ps := ["_law_found", "_law_due"]) fun _ _ _ _ _ _ us hl => match us, hl with | [_, _], _ => rfl
  have F11 := fun_mk (st := sOne) l11 c11 k11
  have b11 := F11.binds (ps := ["_law_bag_here", "_law_things"]) fun _ _ _ _ _ _ us hl => match us, hl with | [_, _], _ => rfl
  have F12 := fun_mk (st := sKinds) l12 c12 k12
  have b12 := F12.binds (ps := ["_law_bag_here", "_law_many"]) fun _ _ _ _ _ _ us hl => match us, hl with | [_, _], _ => rfl
  have F13 := fun_mk (st := sLNum) l13 c13 k13
  have b13 := F13.binds (ps := ["_law_bag_here"]) fun _ _ _ _ _ _ us hl => match us, hl with | [_], _ => rfl
  have F14 := fun_mk (st := sStepOn) l14 c14 k14
  have b14 := F14.binds (ps := ["_law_bag_here", "_law_here", "_law_there"]) fun _ _ _ _ _ _ us hl => match us, hl with | [_, _, _], _ => rfl
  have F15 := fun_mk (st := sLInt) l15 c15 k15
  have b15 := F15.binds (ps := ["_law_thing"]) fun _ _ _ _ _ _ us hl => match us, hl with | [_], _ => rfl
  have F16 := fun_mk (st := sLKind) l16 c16 k16
  have b16 := F16.binds (ps := ["_law_thing"]) fun _ _ _ _ _ _ us hl => match us, hl with | [_], _ => rfl
  have F17 := fun_mk (st := sLCart) l17 c17 k17
  have b17 := F17.binds (ps := ["_law_thing"]) fun _ _ _ _ _ _ us hl => match us, hl with | [_], _ => rfl
  have F18 := fun_mk (st := sLStep) l18 c18 k18
  have b18 := F18.binds (ps := ["_law_thing"]) fun _ _ _ _ _ _ us hl => match us, hl with | [_], _ => rfl
  have F19 := fun_mk (st := sOdd) l19 c19 k19
  have b19 := F19.binds (ps := ["_law_bag_here"]) fun _ _ _ _ _ _ us hl => match us, hl with | [_], _ => rfl
  have F20 := fun_mk (st := sBent) l20 c20 k20
  have b20 := F20.binds (ps := ["_law_bag_here", "_law_thing"]) fun _ _ _ _ _ _ us hl => match us, hl with | [_, _], _ => rfl
  have F40 := fun_mk (st := sMixed) l40 c40 k40
  have b40 := F40.binds (ps := ["_law_bag_here", "_law_things"]) fun _ _ _ _ _ _ us hl => match us, hl with | [_, _], _ => rfl
  have F41 := fun_mk (st := sLBegin) l41 c41 k41
  have b41 := F41.binds (ps := ["_law_step"]) fun _ _ _ _ _ _ us hl => match us, hl with | [_], _ => rfl
  have F42 := fun_mk (st := sLEnd) l42 c42 k42
  have b42 := F42.binds (ps := ["_law_step"]) fun _ _ _ _ _ _ us hl => match us, hl with | [_], _ => rfl
  have F43 := fun_mk (st := sRowFrom) l43 c43 k43
  have b43 := F43.binds (ps := ["_law_bag_here", "_law_kinds_here", "_law_here", "_law_upto"]) fun _ _ _ _ _ _ us hl => match us, hl with | [_, _, _, _], _ => rfl
  have F44 := fun_mk (st := sRound) l44 c44 k44
  have b44 := F44.binds (ps := ["_law_bag_here", "_law_kinds_here", "_law_here", "_law_upto"]) fun _ _ _ _ _ _ us hl => match us, hl with | [_, _, _, _], _ => rfl
  have F45 := fun_mk (st := sLTrain) l45 c45 k45
  have b45 := F45.binds (ps := ["_law_bag_here", "_law_kinds_here", "_law_upto"]) fun _ _ _ _ _ _ us hl => match us, hl with | [_, _, _], _ => rfl
  have F46 := fun_mk (st := sLRow) l46 c46 k46
  have b46 := F46.binds (ps := ["_law_thing"]) fun _ _ _ _ _ _ us hl => match us, hl with | [_], _ => rfl
  have F47 := fun_mk (st := sLPart) l47 c47 k47
  have b47 := F47.binds (ps := ["_law_thing"]) fun _ _ _ _ _ _ us hl => match us, hl with | [_], _ => rfl
  have F48 := fun_mk (st := sLTr) l48 c48 k48
  have b48 := F48.binds (ps := ["_law_thing"]) fun _ _ _ _ _ _ us hl => match us, hl with | [_], _ => rfl
  have F99 := fun_mk (st := sLaw) l99 c99 k99
  exact ⟨sm, _, fun s v => .of_eq rfl, fun base _ _ => ok_law F99
    { b := ⟨N z_abs, N z_len, N z_int⟩, k := ⟨N z_range, N z_sorted⟩, a := ⟨N z_repr⟩, j := J, m := ⟨N z_min, N z_max⟩, zp := N z_zip,
      g1 := M a1, F1 := F1, b1 := b1, g2 := M a2, F2 := F2, b2 := b2, g3 := M a3, F3 := F3, b3 := b3, g4 := M a4, F4 := F4, b4 := b4, g5 := M a5, F5 := F5, b5 := b5, g6 := M a6, F6 := F6, b6 := b6, g30 := M a30, F30 := F30, b30 := b30, g31 := M a31, F31 := F31, b31 := b31, g32 := M a32, F32 := F32, b32 := b32, g33 := M a33, F33 := F33, b33 := b33, g34 := M a34, F34 := F34, b34 := b34, g35 := M a35, F35 := F35, b35 := b35, g36 := M a36, F36 := F36, b36 := b36, g8 := M a8, F8 := F8, b8 := b8, g9 := M a9, F9 := F9, b9 := b9, g10 := M a10, F10 := F10, b10 := b10, g11 := M a11, F11 := F11, b11 := b11, g12 := M a12, F12 := F12, b12 := b12, g13 := M a13, F13 := F13, b13 := b13, g14 := M a14, F14 := F14, b14 := b14, g15 := M a15, F15 := F15, b15 := b15, g16 := M a16, F16 := F16, b16 := b16, g17 := M a17, F17 := F17, b17 := b17, g18 := M a18, F18 := F18, b18 := b18, g19 := M a19, F19 := F19, b19 := b19, g20 := M a20, F20 := F20, b20 := b20, g40 := M a40, F40 := F40, b40 := b40, g41 := M a41, F41 := F41, b41 := b41, g42 := M a42, F42 := F42, b42 := b42, g43 := M a43, F43 := F43, b43 := b43, g44 := M a44, F44 := F44, b44 := b44, g45 := M a45, F45 := F45, b45 := b45, g46 := M a46, F46 := F46, b46 := b46, g47 := M a47, F47 := F47, b47 := b47, g48 := M a48, F48 := F48, b48 := b48 }⟩
end K14
open PySem PySem.W PyProof.Rows in
set_option maxRecDepth 100000 in
set_option maxHeartbeats 0 in
theorem PySem.Challenge.cw_hookcarts_k14_trains_judged_holds : PySem.Challenge.rw_hookcarts_k14_trains_judged.Holds := by
  w_on; o_law; k_head; (case hw => w_witness2)
  k_fill
  refine HK.walkM (l := PySem.Challenge.rw_hookcarts_k14_trains_judged) (n := 63) (k := 10) (x := "_law_script") (sp := K14.spLaw) rfl (by decide) rfl ⟨rfl, by decide, by decide⟩ (by decide +kernel) (fun w h Y => PySem.W.kIn_of Y) ?F (fun K H a ns hl _ M hS => ⟨a, ns, rfl, M, hS, hl, fun _ => rfl⟩)
  case F =>
    intro w mg fa h KX G hmg
    refine' K14.all_mk KX G hmg ?a1 ?l1 ?c1 ?k1 ?a2 ?l2 ?c2 ?k2 ?a3 ?l3 ?c3 ?k3 ?a4 ?l4 ?c4 ?k4 ?a5 ?l5 ?c5 ?k5 ?a6 ?l6 ?c6 ?k6 ?a30 ?l30 ?c30 ?k30 ?a31 ?l31 ?c31 ?k31 ?a32 ?l32 ?c32 ?k32 ?a33 ?l33 ?c33 ?k33 ?a34 ?l34 ?c34 ?k34 ?a35 ?l35 ?c35 ?k35 ?a36 ?l36 ?c36 ?k36 ?a8 ?l8 ?c8 ?k8 ?a9 ?l9 ?c9 ?k9 ?a10 ?l10 ?c10 ?k10 ?a11 ?l11 ?c11 ?k11 ?a12 ?l12 ?c12 ?k12 ?a13 ?l13 ?c13 ?k13 ?a14 ?l14 ?c14 ?k14 ?a15 ?l15 ?c15 ?k15 ?a16 ?l16 ?c16 ?k16 ?a17 ?l17 ?c17 ?k17 ?a18 ?l18 ?c18 ?k18 ?a19 ?l19 ?c19 ?k19 ?a20 ?l20 ?c20 ?k20 ?a40 ?l40 ?c40 ?k40 ?a41 ?l41 ?c41 ?k41 ?a42 ?l42 ?c42 ?k42 ?a43 ?l43 ?c43 ?k43 ?a44 ?l44 ?c44 ?k44 ?a45 ?l45 ?c45 ?k45 ?a46 ?l46 ?c46 ?k46 ?a47 ?l47 ?c47 ?k47 ?a48 ?l48 ?c48 ?k48 ?a99 ?l99 ?c99 ?k99 ?aL ?z_abs ?z_len ?z_int ?z_repr ?z_range ?z_sorted ?z_min ?z_max ?z_isinstance ?z_bool ?z_str ?z_tuple ?z_list ?z_all ?z_zip ?sm
    (case a1 => first | k_is | rfl | decide +kernel)
    (case l1 => first | k_is | rfl | decide +kernel)
    (case c1 => first | k_is | rfl | decide +kernel)
    (case k1 => first | k_is | rfl | decide +kernel)
    (case a2 => first | k_is | rfl | decide +kernel)
    (case l2 => first | k_is | rfl | decide +kernel)
    (case c2 => first | k_is | rfl | decide +kernel)
    (case k2 => first | k_is | rfl | decide +kernel)
    (case a3 => first | k_is | rfl | decide +kernel)
    (case l3 => first | k_is | rfl | decide +kernel)
    (case c3 => first | k_is | rfl | decide +kernel)
    (case k3 => first | k_is | rfl | decide +kernel)
    (case a4 => first | k_is | rfl | decide +kernel)
    (case l4 => first | k_is | rfl | decide +kernel)
    (case c4 => first | k_is | rfl | decide +kernel)
    (case k4 => first | k_is | rfl | decide +kernel)
    (case a5 => first | k_is | rfl | decide +kernel)
    (case l5 => first | k_is | rfl | decide +kernel)
    (case c5 => first | k_is | rfl | decide +kernel)
    (case k5 => first | k_is | rfl | decide +kernel)
    (case a6 => first | k_is | rfl | decide +kernel)
    (case l6 => first | k_is | rfl | decide +kernel)
    (case c6 => first | k_is | rfl | decide +kernel)
    (case k6 => first | k_is | rfl | decide +kernel)
    (case a30 => first | k_is | rfl | decide +kernel)
    (case l30 => first | k_is | rfl | decide +kernel)
    (case c30 => first | k_is | rfl | decide +kernel)
    (case k30 => first | k_is | rfl | decide +kernel)
    (case a31 => first | k_is | rfl | decide +kernel)
    (case l31 => first | k_is | rfl | decide +kernel)
    (case c31 => first | k_is | rfl | decide +kernel)
    (case k31 => first | k_is | rfl | decide +kernel)
    (case a32 => first | k_is | rfl | decide +kernel)
    (case l32 => first | k_is | rfl | decide +kernel)
    (case c32 => first | k_is | rfl | decide +kernel)
    (case k32 => first | k_is | rfl | decide +kernel)
    (case a33 => first | k_is | rfl | decide +kernel)
    (case l33 => first | k_is | rfl | decide +kernel)
    (case c33 => first | k_is | rfl | decide +kernel)
    (case k33 => first | k_is | rfl | decide +kernel)
    (case a34 => first | k_is | rfl | decide +kernel)
    (case l34 => first | k_is | rfl | decide +kernel)
    (case c34 => first | k_is | rfl | decide +kernel)
    (case k34 => first | k_is | rfl | decide +kernel)
    (case a35 => first | k_is | rfl | decide +kernel)
    (case l35 => first | k_is | rfl | decide +kernel)
    (case c35 => first | k_is | rfl | decide +kernel)
    (case k35 => first | k_is | rfl | decide +kernel)
    (case a36 => first | k_is | rfl | decide +kernel)
    (case l36 => first | k_is | rfl | decide +kernel)
    (case c36 => first | k_is | rfl | decide +kernel)
    (case k36 => first | k_is | rfl | decide +kernel)
    (case a8 => first | k_is | rfl | decide +kernel)
    (case l8 => first | k_is | rfl | decide +kernel)
    (case c8 => first | k_is | rfl | decide +kernel)
    (case k8 => first | k_is | rfl | decide +kernel)
    (case a9 => first | k_is | rfl | decide +kernel)
    (case l9 => first | k_is | rfl | decide +kernel)
    (case c9 => first | k_is | rfl | decide +kernel)
    (case k9 => first | k_is | rfl | decide +kernel)
    (case a10 => first | k_is | rfl | decide +kernel)
    (case l10 => first | k_is | rfl | decide +kernel)
    (case c10 => first | k_is | rfl | decide +kernel)
    (case k10 => first | k_is | rfl | decide +kernel)
    (case a11 => first | k_is | rfl | decide +kernel)
    (case l11 => first | k_is | rfl | decide +kernel)
    (case c11 => first | k_is | rfl | decide +kernel)
    (case k11 => first | k_is | rfl | decide +kernel)
    (case a12 => first | k_is | rfl | decide +kernel)
    (case l12 => first | k_is | rfl | decide +kernel)
    (case c12 => first | k_is | rfl | decide +kernel)
    (case k12 => first | k_is | rfl | decide +kernel)
    (case a13 => first | k_is | rfl | decide +kernel)
    (case l13 => first | k_is | rfl | decide +kernel)
    (case c13 => first | k_is | rfl | decide +kernel)
    (case k13 => first | k_is | rfl | decide +kernel)
    (case a14 => first | k_is | rfl | decide +kernel)
    (case l14 => first | k_is | rfl | decide +kernel)
    (case c14 => first | k_is | rfl | decide +kernel)
    (case k14 => first | k_is | rfl | decide +kernel)
    (case a15 => first | k_is | rfl | decide +kernel)
    (case l15 => first | k_is | rfl | decide +kernel)
    (case c15 => first | k_is | rfl | decide +kernel)
    (case k15 => first | k_is | rfl | decide +kernel)
    (case a16 => first | k_is | rfl | decide +kernel)
    (case l16 => first | k_is | rfl | decide +kernel)
    (case c16 => first | k_is | rfl | decide +kernel)
    (case k16 => first | k_is | rfl | decide +kernel)
    (case a17 => first | k_is | rfl | decide +kernel)
    (case l17 => first | k_is | rfl | decide +kernel)
    (case c17 => first | k_is | rfl | decide +kernel)
    (case k17 => first | k_is | rfl | decide +kernel)
    (case a18 => first | k_is | rfl | decide +kernel)
    (case l18 => first | k_is | rfl | decide +kernel)
    (case c18 => first | k_is | rfl | decide +kernel)
    (case k18 => first | k_is | rfl | decide +kernel)
    (case a19 => first | k_is | rfl | decide +kernel)
    (case l19 => first | k_is | rfl | decide +kernel)
    (case c19 => first | k_is | rfl | decide +kernel)
    (case k19 => first | k_is | rfl | decide +kernel)
    (case a20 => first | k_is | rfl | decide +kernel)
    (case l20 => first | k_is | rfl | decide +kernel)
    (case c20 => first | k_is | rfl | decide +kernel)
    (case k20 => first | k_is | rfl | decide +kernel)
    (case a40 => first | k_is | rfl | decide +kernel)
    (case l40 => first | k_is | rfl | decide +kernel)
    (case c40 => first | k_is | rfl | decide +kernel)
    (case k40 => first | k_is | rfl | decide +kernel)
    (case a41 => first | k_is | rfl | decide +kernel)
    (case l41 => first | k_is | rfl | decide +kernel)
    (case c41 => first | k_is | rfl | decide +kernel)
    (case k41 => first | k_is | rfl | decide +kernel)
    (case a42 => first | k_is | rfl | decide +kernel)
    (case l42 => first | k_is | rfl | decide +kernel)
    (case c42 => first | k_is | rfl | decide +kernel)
    (case k42 => first | k_is | rfl | decide +kernel)
    (case a43 => first | k_is | rfl | decide +kernel)
    (case l43 => first | k_is | rfl | decide +kernel)
    (case c43 => first | k_is | rfl | decide +kernel)
    (case k43 => first | k_is | rfl | decide +kernel)
    (case a44 => first | k_is | rfl | decide +kernel)
    (case l44 => first | k_is | rfl | decide +kernel)
    (case c44 => first | k_is | rfl | decide +kernel)
    (case k44 => first | k_is | rfl | decide +kernel)
    (case a45 => first | k_is | rfl | decide +kernel)
    (case l45 => first | k_is | rfl | decide +kernel)
    (case c45 => first | k_is | rfl | decide +kernel)
    (case k45 => first | k_is | rfl | decide +kernel)
    (case a46 => first | k_is | rfl | decide +kernel)
    (case l46 => first | k_is | rfl | decide +kernel)
    (case c46 => first | k_is | rfl | decide +kernel)
    (case k46 => first | k_is | rfl | decide +kernel)
    (case a47 => first | k_is | rfl | decide +kernel)
    (case l47 => first | k_is | rfl | decide +kernel)
    (case c47 => first | k_is | rfl | decide +kernel)
    (case k47 => first | k_is | rfl | decide +kernel)
    (case a48 => first | k_is | rfl | decide +kernel)
    (case l48 => first | k_is | rfl | decide +kernel)
    (case c48 => first | k_is | rfl | decide +kernel)
    (case k48 => first | k_is | rfl | decide +kernel)
    (case a99 => first | k_is | rfl | decide +kernel)
    (case l99 => first | k_is | rfl | decide +kernel)
    (case c99 => first | k_is | rfl | decide +kernel)
    (case k99 => first | k_is | rfl | decide +kernel)
    (case aL => first | k_is | rfl | decide +kernel)
    (case z_abs => first | k_is | rfl | decide +kernel)
    (case z_len => first | k_is | rfl | decide +kernel)
    (case z_int => first | k_is | rfl | decide +kernel)
    (case z_repr => first | k_is | rfl | decide +kernel)
    (case z_range => first | k_is | rfl | decide +kernel)
    (case z_sorted => first | k_is | rfl | decide +kernel)
    (case z_min => first | k_is | rfl | decide +kernel)
    (case z_max => first | k_is | rfl | decide +kernel)
    (case z_isinstance => first | k_is | rfl | decide +kernel)
    (case z_bool => first | k_is | rfl | decide +kernel)
    (case z_str => first | k_is | rfl | decide +kernel)
    (case z_tuple => first | k_is | rfl | decide +kernel)
    (case z_list => first | k_is | rfl | decide +kernel)
    (case z_all => first | k_is | rfl | decide +kernel)
    (case z_zip => first | k_is | rfl | decide +kernel)
    (case sm => first | k_is | rfl | decide +kernel)
#print axioms PySem.Challenge.cw_hookcarts_k14_trains_judged_holds
