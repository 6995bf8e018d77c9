import PyProof.Rows.All
import Wide.All
import OpenK.AllK
import Wide.FinOn
import HandS.ForMost
import HandS.IsInst
import HandS.TupAny
import HandS.TupMul
import HandS.Conv
import PyProof.NeKinds
import PyProof.ReprLen
import HandS.Walk
import HandS.Replace
import PySem.Challenge.RW_pairedaway_k22_words_of_machines
set_option Elab.async false
set_option maxRecDepth 100000
set_option maxHeartbeats 4000000
/-! Own layer for laws that call repr: promises of defs that run where no repr is under way, data with empty dicts, repr's rule. -/
namespace GL
open PySem PySem.Spec PyProof.Rows L2

/-- a def's promise, claimed only where no guard of repr stands around -/
structure Fg (P : Program) (w : World) (K : PySem.W.Frag) (mg : Str → Option Value) (base : Heap) (CX : CXT) (k : Nat) (f : Addr) (fd : FuncData) (ps : List Str) (sp : Sp) : Prop where
  ln : ∀ vs H Q E, sp vs H Q E → vs.length = ps.length
  go : ∀ (A : Around) (outer : List Env) (s : Shared) (H : Hp) (args : Args) (us : List Value) (vs : List V) (Q : VK) (E : XK), A.guards = some [] → Room k A → Env0 P w K mg base A outer s H →
    BindsTo s fd args (ps.zip us) → Vals vs us → sp vs H Q E → codeAny (model P w) A (.call (.ref f) args) (CR CX outer P w H s Q E) s

theorem Fg.of {P : Program} {w : World} {K : PySem.W.Frag} {mg : Str → Option Value} {base : Heap} {CX : CXT} {k : Nat} {f : Addr} {fd : FuncData} {ps : List Str} {sp : Sp} (F : FnOk P w K mg base CX k f fd ps sp) : Fg P w K mg base CX k f fd ps sp :=
  ⟨F.len, fun A outer s H args us vs Q E _ => F.run A outer s H args us vs Q E⟩

theorem guards_deeper {A : Around} {env : Env} (h : A.guards = some []) : (A.deeper env).guards = some [] := by
  simp [Around.deeper, h]

section
variable {P : Program} {w : World} {K : PySem.W.Frag} {mg : Str → Option Value} {base : Heap}
/-- the rule for such a def: as for any other, with the fact about guards at hand -/
theorem ok_g {x qual : Str} {st : Stmt} {f : Addr} {fd : FuncData} {N ps : List Str} {k : Nat} {sp : Sp} (F : Fun K x qual st f fd) (S : FnScope N ps (defScope st)) (ln : ∀ vs H Q E, sp vs H Q E → vs.length = ps.length)
    (bd : ∀ (cdv : Value) (A : Around) (outer : List Env) (s : Shared) (H : Hp) (vs : List V) (Q : VK) (E : XK), (A.deeper (envOfC qual (defScope st) s.heap.objs.size f cdv)).guards = some [] → Room k (A.deeper (envOfC qual (defScope st) s.heap.objs.size f cdv)) → sp vs H Q E →
      ∃ t, PSs (cxOf CX0 P w K mg base N qual (defScope st) f cdv A outer s H E).nox (defBody st) t ∧ t { nx := fun _ H' => Q .non H', rt := Q } (start N vs) H) : Fg P w K mg base CX0 (k + 1) f fd ps sp := by
  obtain ⟨oc, od, kV, doc, pm, an, cdv, ct, osl, rfl, lk, hcd⟩ := F.ex
  refine ⟨ln, fun A outer s H args us vs Q E hg hr e0 hb r hsp => ?_⟩
  have lv := ln _ _ _ _ hsp
  have KI : K.In s.heap := e0.mod.kin.keeps fun b o q => (e0.bs b o q).1
  have NL : s.heap.NoLimit := e0.mod.nolimit.keeps fun b o q => (e0.bs b o q).1
  have kinds : ∀ y ∈ ps.zip us, (defScope st).names.lookup y.1 = some .local ∨ ((defScope st).names.lookup y.1 = some .cell ∧ ((cellsFrom (s.heap.objs.size + 1) (defScope st).names []).lookup y.1).isSome = true) := by
    rintro ⟨n, v⟩ hy
    cases S.par n (List.of_mem_zip hy).1 with
    | inl q => exact .inl q
    | inr q => exact .inr ⟨q, PySem.W.cellsFrom_some _ _ _ (.inl q)⟩
  refine codeAny_call_function hr.depth (KI _ _ lk) rfl S.co S.gen rfl (PySem.W.codeRec_of KI hcd) (hb _ _ _ _ (wpAny_newFunctionEnv_cells S.kind kinds fun env he s1 x => ?_))
  cases he
  obtain ⟨t, ht, hq⟩ := bd cdv A outer s H vs Q E (guards_deeper hg) (hr.deeper _) hsp
  refine ⟨NL.keeps x.toInCall.keep, codeAny_func (wpAny_mono (ht.nox.run [] s1 (start N vs) H _ (inv_start S hr.hd e0 lv r x) hq) (fun fl s' hs => ?_) fun e s' hs => hs)⟩
  have fin : ∀ {τ : L2.St} {G : Hp} {v : V} {u : Value}, Inv (cxOf CX0 P w K mg base N qual (defScope st) f cdv A outer s H E) [] τ G s' → RelV v u → Q v G → CE outer P w H s Q u s' :=
    fun {τ G v u} J rv q => ⟨v, G, J.os, J.bare, J.base, J.hok, rv, q⟩
  match fl, hs with
  | .ret u, ⟨v, τ, G, J, rv, q⟩ => exact fin J rv q
  | .next, ⟨τ, G, J, q⟩ => exact fin (v := V.non) (u := Value.none) J rfl q
  | .brk, ⟨_, _, _, q⟩ => exact q.elim
  | .cont, ⟨_, _, _, q⟩ => exact q.elim
end

section
variable {X : Cx} {CX : CXT} {k : Nat} {f : Addr} {fd : FuncData} {ps : List Str} {sp : Sp} {E : XK} {x : Str} {p pos : Pos} {e : Expr} {es : List Expr} {t : TA}
/-- f(e, ..) of such a def, without defaults -/
theorem pe_callg (hg : X.A.guards = some []) (F : Fg X.prog X.w X.K X.mg X.base CX k f fd ps sp) (hr : Room k X.A) (gl : Gl X x) (hm : X.mg x = some (.ref f)) (kp : PySem.W.keepIn X.K (.ref f) = true) (hb : Binds X.K fd ps []) (hx : Passes CX X E)
    (ha : PA X (e :: es) t) (hdb : (x == ("__debug__" : Str)) = false := by decide) (se : starEach (e :: es) X.env = (false, eval e X.env) :: starEach es X.env := by rfl) (pl : (backTo pos (starEach es X.env)).any (·.1) = false := by rfl) :
    PE X (.Call (.Name x p) (e :: es) [] pos) (tCall sp [] E t) := by
  refine ⟨fun pins s σ H Q I h => wpAny_Call_Name_kw (ld_glob I gl hm ?_ hdb)⟩
  refine PySem.W.callWith_K (h₀ := X.base) I.ok.mod.kin kp (thn (ha.run pos pins s σ H _ I h) fun us s1 ⟨vs, G, J, r, q⟩ => ⟨J.kIn, ?_⟩) se pl
  replace q : sp vs G Q E := by simpa using q
  have ll : (us ++ ([] : List Value)).length = ps.length := by rw [List.append_nil, ← r.length]; exact F.ln _ _ _ _ q
  have bb := hb s1 us J.kIn ll
  rw [List.append_nil] at bb
  refine wpAny_call (codeAny_mono (F.go X.A X.stack s1 G ⟨us, []⟩ us vs Q E hg hr J.env0 bb r q) fun res s' hq => ?_)
  match res, hq with
  | .error e, hq => exact hx pins σ G s1 e s' J hq
  | .ok (.ret u), hq => exact J.after hq
  | .ok .next, hq => exact hq.elim
  | .ok .brk, hq => exact hq.elim
  | .ok .cont, hq => exact hq.elim
end

/-! ### data, empty dicts among them -/
mutual
inductive Dt (K : PySem.W.Frag) (H : Hp) : V → PyData → Prop
  | non : Dt K H .non .none
  | bl (b : Bool) : Dt K H (.bl b) (.bool b)
  | int (i : Int) : Dt K H (.int i) (.int i)
  | str (x : Str) : Dt K H (.str x) (.str x)
  | lst {a : Addr} {vs : List V} {ds : List PyData} : H a = some (.lst vs) → DtAll K H vs ds → Dt K H (.ref a) (.list ds)
  | tup {a : Addr} {vs : List V} {ds : List PyData} : H a = some (.tup vs) → DtAll K H vs ds → Dt K H (.ref a) (.tuple ds)
  | dic {a : Addr} : H a = some (.dK []) → Dt K H (.ref a) (.dict [])
inductive DtAll (K : PySem.W.Frag) (H : Hp) : List V → List PyData → Prop
  | nil : DtAll K H [] []
  | cons {v : V} {vs : List V} {d : PyData} {ds : List PyData} : Dt K H v d → DtAll K H vs ds → DtAll K H (v :: vs) (d :: ds)
end
section
variable {K : PySem.W.Frag} {H H' : Hp}
mutual
theorem Dt.same (e : Same H H') : ∀ {d : PyData} {v : V}, Dt K H v d → Dt K H' v d
  | _, _, .non => .non
  | _, _, .bl b => .bl b
  | _, _, .int i => .int i
  | _, _, .str x => .str x
  | _, _, .lst h a => .lst (e _ _ h) (DtAll.same e a)
  | _, _, .tup h a => .tup (e _ _ h) (DtAll.same e a)
  | _, _, .dic h => .dic (e _ _ h)
theorem DtAll.same (e : Same H H') : ∀ {ds : List PyData} {vs : List V}, DtAll K H vs ds → DtAll K H' vs ds
  | _, _, .nil => .nil
  | _, _, .cons h a => .cons (Dt.same e h) (DtAll.same e a)
end
theorem DtAll.length {ds : List PyData} : ∀ {vs : List V}, DtAll K H vs ds → vs.length = ds.length := by
  induction ds with
  | nil => intro vs h; cases h; rfl
  | cons d ds ih => intro vs h; cases h with | cons h1 h2 => simp [ih h2]
theorem DtAll.append : ∀ {ds es : List PyData} {vs us : List V}, DtAll K H vs ds → DtAll K H us es → DtAll K H (vs ++ us) (ds ++ es)
  | _, _, _, _, .nil, h => h
  | _, _, _, _, .cons a b, h => .cons a (DtAll.append b h)
theorem DtAll.take : ∀ {ds : List PyData} {vs : List V} (n : Nat), DtAll K H vs ds → DtAll K H (vs.take n) (ds.take n)
  | _, _, 0, _ => .nil
  | _, _, _ + 1, .nil => .nil
  | _, _, n + 1, .cons a b => .cons a (DtAll.take n b)
theorem DtAll.drop : ∀ {ds : List PyData} {vs : List V} (n : Nat), DtAll K H vs ds → DtAll K H (vs.drop n) (ds.drop n)
  | _, _, 0, h => h
  | _, _, _ + 1, .nil => .nil
  | _, _, n + 1, .cons _ b => DtAll.drop n b
theorem DtAll.get : ∀ {ds : List PyData} {vs : List V} {i : Nat} {v : V}, DtAll K H vs ds → vs[i]? = some v → ∃ d, ds[i]? = some d ∧ Dt K H v d
  | _, _, i, _, .nil, h => by simp at h
  | _, _, 0, _, .cons a _, h => by simp at h; subst h; exact ⟨_, rfl, a⟩
  | _, _, i + 1, v, .cons _ b, h => by
    obtain ⟨d, h1, h2⟩ := DtAll.get (i := i) (v := v) b (by simpa using h)
    exact ⟨d, by simpa using h1, h2⟩
end

section
variable {X : Cx} {pins : List (Addr × Obj)} {σ : L2.St} {H : Hp} {s : Shared}
/-- what repr's rules of the library ask of a value -/
structure Shows (prog : Program) (w : World) (h : Heap) (u : Value) (d : PyData) : Prop where
  ex : ∃ as bs, Reads h u d as ∧ ReadAtMost h d.depth bs ∧ ReprK prog w bs h d.depth u d.shown
structure ShowsAll (prog : Program) (w : World) (h : Heap) (us : List Value) (ds : List PyData) : Prop where
  ex : ∃ as bs, ReadsAll h us ds as ∧ ReadAtMost h (PyData.depthAll ds) bs ∧ ReprAllK prog w bs h (PyData.depthAll ds) us (PyData.shownAll ds)
theorem dic_at (I : Inv X pins σ H s) {a : Addr} (h : H a = some (.dK [])) : (a == sysModules) = false ∧ ∃ o es ep, s.heap.get? a = some o ∧ o.cls = .type "dict" ∧ o.data = .dict es ep ∧ es.toList = [] := by
  obtain ⟨_, ne, vs, kv, o, es, ep, h1, h2, h3, _, h5, _⟩ := (show ObjOk X.prog X.w H s.heap a (.dK []) from I.hok a _ h)
  cases kv
  refine ⟨ne, o, es, ep, h1, h2.1, h3, ?_⟩
  cases q : es.toList with
  | nil => rfl
  | cons y ys => rw [q] at h5; cases h5
theorem lst_at (I : Inv X pins σ H s) {a : Addr} {vs : List V} (h : H a = some (.lst vs)) : ∃ its n, Vals vs its ∧ s.heap.get? a = some { cls := .type "list", data := .seq its.toArray n } := by
  obtain ⟨_, its, n, r, e⟩ := (show ObjOk X.prog X.w H s.heap a (.lst vs) from I.hok a _ h)
  exact ⟨its, n, r, e⟩
theorem tup_at (I : Inv X pins σ H s) {a : Addr} {vs : List V} (h : H a = some (.tup vs)) : ∃ its o n, Vals vs its ∧ s.heap.get? a = some o ∧ o.cls = .type "tuple" ∧ o.data = .seq its.toArray n := by
  obtain ⟨_, its, r, o, h1, h2, n, h3⟩ := (show ObjOk X.prog X.w H s.heap a (.tup vs) from I.hok a _ h)
  exact ⟨its, o, n, r, h1, h2, h3⟩
mutual
theorem Dt.shows (I : Inv X pins σ H s) : ∀ (d : PyData) (v : V) (u : Value), Dt X.K H v d → RelV v u → d.showable = true → d.shown.length ≤ sizeLine → Shows X.prog X.w s.heap u d
  | .none, _, _, h, r, _, _ => by
    cases h; cases r
    exact ⟨_, [], .none, (fun _ q => nomatch q), by simp only [PyData.shown]; exact .of_is ReprIs.none _ _ _⟩
  | .bool b, _, _, h, r, _, _ => by
    cases h; cases r
    exact ⟨_, [], .bool b, (fun _ q => nomatch q), by simp only [PyData.shown]; exact .of_is (ReprIs.bool b) _ _ _⟩
  | .int i, _, _, h, r, hs, _ => by
    cases h
    obtain ⟨t, rfl⟩ := r
    exact ⟨_, [], .int i t, (fun _ q => nomatch q), by simp only [PyData.shown]; exact .of_is (ReprIs.int t (by simpa [PyData.showable] using hs)) _ _ _⟩
  | .str x, _, _, h, r, _, hz => by
    cases h
    obtain ⟨t, rfl⟩ := r
    exact ⟨_, [], .str x t, (fun _ q => nomatch q), by simp only [PyData.shown]; exact .of_is (ReprIs.str x t (by simpa only [PyData.shown] using hz)) _ _ _⟩
  | .list ds, _, _, h, r, hs, hz => by
    cases h with
    | @lst a vs _ hl ha =>
      cases r
      have hz' : (listText (PyData.shownAll ds)).length ≤ sizeLine := by simpa only [PyData.shown] using hz
      obtain ⟨its, n, rv, e⟩ := lst_at I hl
      obtain ⟨as, bs, r4, rb, rk⟩ := (Dt.showsAll I ds vs its ha rv (by simpa [PyData.showable] using hs) (fun t ht => Nat.le_trans (listText_mem_le ht) hz')).ex
      have rr : Reads s.heap (.ref a) (.list ds) (a :: as) := .list e rfl rfl r4
      have nm : a ∉ bs := not_mem_of_deeper rr (by simp only [PyData.depth]; omega) rb
      refine ⟨_, a :: bs, rr, ReadAtMost.cons rr (by simp only [PyData.depth]; omega) rb, ?_⟩
      simp only [PyData.depth, PyData.shown]
      cases its with
      | nil =>
        cases r4
        simp only [PyData.shownAll, listText_nil]
        exact ReprK.listEmpty e rfl rfl
      | cons y ys => exact ReprK.list e rfl rfl nm (by simpa using rk.length_eq) (fun i z q => rk.item i z (by simpa using q))
  | .tuple ds, _, _, h, r, hs, hz => by
    cases h with
    | @tup a vs _ hl ha =>
      cases r
      have hz' : (tupleText (PyData.shownAll ds)).length ≤ sizeLine := by simpa only [PyData.shown] using hz
      obtain ⟨its, o, n, rv, e1, e2, e3⟩ := tup_at I hl
      obtain ⟨as, bs, r4, rb, rk⟩ := (Dt.showsAll I ds vs its ha rv (by simpa [PyData.showable] using hs) (fun t ht => Nat.le_trans (tupleText_mem_le ht) hz')).ex
      have rr : Reads s.heap (.ref a) (.tuple ds) as := .tuple e1 e2 e3 r4
      have nm : a ∉ bs := not_mem_of_deeper rr (by simp only [PyData.depth]; omega) rb
      refine ⟨_, a :: bs, rr, ReadAtMost.cons rr (by simp only [PyData.depth]; omega) rb, ?_⟩
      simp only [PyData.depth, PyData.shown]
      exact ReprK.tuple e1 e2 e3 nm rk
  | .dict _, _, _, h, r, _, _ => by
    cases h with
    | @dic a hd =>
      cases r
      obtain ⟨ne, o, es, ep, e1, e2, e3, e4⟩ := dic_at I hd
      have rr : Reads s.heap (.ref a) (.dict []) (a :: [] ++ []) := .dict e1 e2 e3 (by rw [e4]; exact .nil) (by rw [e4]; exact .nil)
      refine ⟨_, [a], rr, ReadAtMost.cons (n := 0) rr (Nat.zero_le _) (fun _ q => nomatch q), ?_⟩
      simp only [PyData.depth, PyData.shown, PyData.shownKv]
      exact ReprK.dict (d := 0) e1 e2 e3 ne (fun q => nomatch q) (by rw [e4]; exact .nil)
theorem Dt.showsAll (I : Inv X pins σ H s) : ∀ (ds : List PyData) (vs : List V) (us : List Value), DtAll X.K H vs ds → Vals vs us → PyData.showableAll ds = true → (∀ t ∈ PyData.shownAll ds, t.length ≤ sizeLine) → ShowsAll X.prog X.w s.heap us ds
  | [], _, _, h, r, _, _ => by
    cases h; cases r
    exact ⟨_, [], .nil, (fun _ q => nomatch q), by simp only [PyData.shownAll]; exact .nil⟩
  | d :: ds, _, _, h, r, hs, hz => by
    cases h with
    | cons h1 h2 =>
      cases r with
      | cons r1 r2 =>
        have hs' : d.showable = true ∧ PyData.showableAll ds = true := by simpa [PyData.showableAll] using hs
        obtain ⟨as, bs, a1, a2, a3⟩ := (Dt.shows I d _ _ h1 r1 hs'.1 (hz _ (by simp only [PyData.shownAll]; exact List.mem_cons_self ..))).ex
        obtain ⟨cs, es, c1, c2, c3⟩ := (Dt.showsAll I ds _ _ h2 r2 hs'.2 (fun t ht => hz t (by simp only [PyData.shownAll]; exact List.mem_cons_of_mem _ ht))).ex
        refine ⟨_, bs ++ es, .cons a1 c1, ?_, ?_⟩
        · simp only [PyData.depthAll]
          exact (a2.mono (Nat.le_max_left _ _)).append (c2.mono (Nat.le_max_right _ _))
        · simp only [PyData.depthAll, PyData.shownAll]
          exact .cons ((a3.more fun b hb => List.mem_append_left _ hb).level_le (Nat.le_max_left _ _)) (c3.more_le (fun b hb => List.mem_append_right _ hb) (Nat.le_max_right _ _))
end
end

/-- repr of data -/
def rReprD (K : PySem.W.Frag) : List V → Hp → VK → Prop := fun xs H Q => ∃ v d, xs = [v] ∧ Dt K H v d ∧ d.showable = true ∧ d.depth ≤ 60 ∧ d.shown.length ≤ sizeLine ∧ Q (.str d.shown) H
theorem call_reprD {X : Cx} (hg : X.A.guards = some []) (hu : X.A.units + 64 < cLine) : CallR X (.builtin "repr") (rReprD X.K) := by
  intro pins s σ H xs us Q I r h
  obtain ⟨v, d, rfl, hd, hs, hdep, hz, q⟩ := h
  obtain ⟨u, rfl, ru⟩ := vals1 r
  have keep : ∀ b o, s.heap.get? b = some o → s.heap.get? b = some o := fun _ _ e => e
  have fin : ∀ (h' : Heap) (t : Tok) (tk : Nat), (∀ b o, s.heap.get? b = some o → h'.get? b = some o) → EP X pins σ Q (.str d.shown t) { s with heap := h', toks := tk } :=
    fun h' t tk k => ⟨.str d.shown, H, I.kept k, ⟨t, rfl⟩, q⟩
  cases hd with
  | non => cases ru; simp only [PyData.shown] at fin; exact PySem.P.repr_of_none (fin _ _ _ keep)
  | bl b => cases ru; simp only [PyData.shown] at fin; exact PySem.P.repr_of_bool (fin _ _ _ keep)
  | int i => obtain ⟨t, rfl⟩ := ru; simp only [PyData.shown] at fin; exact PySem.P.repr_of_int (by simpa [PyData.showable] using hs) (fin _ _ _ keep)
  | str x => obtain ⟨t, rfl⟩ := ru; simp only [PyData.shown] at fin; exact PySem.P.repr_of_str (fin _ _ _ keep) (by simpa only [PyData.shown] using hz)
  | @lst a vs ds hl ha =>
    cases ru
    simp only [PyData.depth] at hdep
    simp only [PyData.shown] at fin
    have hz' : (listText (PyData.shownAll ds)).length ≤ sizeLine := by simpa only [PyData.shown] using hz
    obtain ⟨its, n, rv, e⟩ := lst_at I hl
    obtain ⟨as, bs, r4, rb, rk⟩ := (Dt.showsAll I ds vs its ha rv (by simpa [PyData.showable] using hs) (fun t ht => Nat.le_trans (listText_mem_le ht) hz')).ex
    have rr : Reads s.heap (.ref a) (.list ds) (a :: as) := .list e rfl rfl r4
    have nm : a ∉ bs := not_mem_of_deeper rr (by simp only [PyData.depth]; omega) rb
    refine call_repr_slot (T := "list") (by omega) ⟨_, e, rfl⟩ F.slot_list_repr.toG ?_
    cases its with
    | nil =>
      cases r4
      simp only [PyData.shownAll, listText_nil] at fin
      exact call_list_repr_empty ⟨_, e, rfl⟩ e rfl ⟨_, _, rfl, fin _ _ _ keep⟩
    | cons y ys =>
      exact call_list_reprK e rfl rfl nm (by simpa using rk.length_eq) (fun i z q => rk.item i z (by simpa using q)) (A := X.A.in1) hg (fun b _ => Clear.nil b) (by show X.A.units + 1 + _ < cLine; omega) keep (fun h' t tk k => ⟨_, _, rfl, fin h' t tk k⟩) hz'
  | @tup a vs ds hl ha =>
    cases ru
    simp only [PyData.depth] at hdep
    simp only [PyData.shown] at fin
    have hz' : (tupleText (PyData.shownAll ds)).length ≤ sizeLine := by simpa only [PyData.shown] using hz
    obtain ⟨its, o, n, rv, e1, e2, e3⟩ := tup_at I hl
    obtain ⟨as, bs, r4, rb, rk⟩ := (Dt.showsAll I ds vs its ha rv (by simpa [PyData.showable] using hs) (fun t ht => Nat.le_trans (tupleText_mem_le ht) hz')).ex
    have rr : Reads s.heap (.ref a) (.tuple ds) as := .tuple e1 e2 e3 r4
    have nm : a ∉ bs := not_mem_of_deeper rr (by simp only [PyData.depth]; omega) rb
    refine call_repr_slot (T := "tuple") (by omega) ⟨_, e1, e2⟩ F.slot_tuple_repr ?_
    exact call_tuple_reprK e1 e2 e3 nm rk (A := X.A.in1) hg (fun b _ => Clear.nil b) (by show X.A.units + 1 + _ < cLine; omega) keep (fun h' t tk k => ⟨_, _, rfl, fin h' t tk k⟩) hz'
  | @dic a hdk =>
    cases ru
    simp only [PyData.shown, PyData.shownKv] at fin
    obtain ⟨ne, o, es, ep, e1, e2, e3, e4⟩ := dic_at I hdk
    refine call_repr_slot (T := "dict") (by omega) ⟨_, e1, e2⟩ F.slot_dict_repr ?_
    exact call_dict_reprK (ps := []) (d := 0) (as := []) e1 e2 e3 ne (fun q => nomatch q) (by rw [e4]; exact .nil) (A := X.A.in1) hg (fun b _ => Clear.nil b) (by show X.A.units + 1 + _ < cLine; omega) keep (fun h' t tk k => ⟨_, _, rfl, fin h' t tk k⟩) (by simp only [PyData.shown, PyData.shownKv] at hz; exact hz)
end GL
/-! The end of a law whose def is promised where no guard of repr stands. -/
namespace GL
open PySem PySem.Spec PyProof.Rows L2 PySem.W

section
variable {P : Program} {w : World} {K : PySem.W.Frag} {mg mb : Str → Option Value} {k : Nat} {fa a : Addr} {fd : FuncData} {x : Str} {sp : Sp} {s₁ : Shared} {vs : List Value} {ns : List Int}
theorem nil_no {b : Addr} : b ∉ ([] : List Addr) := fun z => nomatch z
/-- the law's call, from one abstract heap in which the script alone may be tracked -/
theorem law_core (KI : K.In s₁.heap) (g1 : s₁.heap.Ns mainGlobals mg) (g2 : s₁.heap.Ns builtinsNs mb) (g3 : ∀ y : Str, y ≠ "__name__" → mb y = bootBuiltins y) (nl : s₁.heap.NoLimit) (hg : s₁.gens = #[])
    (ha : s₁.heap.get? a = some { cls := .type "list", data := .seq vs.toArray }) (hr : Room k callerA)
    (F : ∀ base : Heap, K.In base → base.Ns mainGlobals mg → Fg P w K mg base CX0 k fa fd [x] sp) (bd : ∀ (s : Shared) (u : Value), BindsTo s fd ⟨[u], []⟩ [(x, u)])
    (H : Hp) (on : Only H) (hq : sp [.ref a] H (fun v _ => v = .bl true) fun _ _ _ => False) (ok : HOk P w H s₁.heap) (one : ∀ b, H b ≠ none → b = a) (nk : H a ≠ none → K.lookup a = none) :
    codeAny (model P w) callerA (.call (.ref fa) ⟨[.ref a], []⟩) (fun r s' => r = .ok (.ret (.bool true)) ∧ OldK s₁.heap s'.heap ∧ s'.os = s₁.os ∧ AllBare s'.gens) s₁ := by
  have out : ∀ {b : Addr} {o : Obj}, s₁.heap.get? b = some o → (b = a → H a = none) → (hidT s₁.heap H).get? b = some o := fun {b o} e n => hidT_get e (by
    by_cases z : H b = none
    · exact z
    · have zz := one b z
      rw [zz]; exact n zz)
  have dct : ∀ {b : Addr} {o : Obj} {es : Array DictEntry} {ep : Nat}, s₁.heap.get? b = some o → o.data = .dict es ep → b ≠ a := fun {b o es ep} e d z => by
    rw [z, ha] at e
    cases e
    exact nomatch (show Data.seq vs.toArray _ = Data.dict es ep from d)
  have nsK : ∀ {b : Addr} {m : Str → Option Value}, s₁.heap.Ns b m → (hidT s₁.heap H).Ns b m := fun {b m} q => by
    obtain ⟨o, es, ep, e, d, r⟩ := q
    exact ⟨o, es, ep, out e (fun z => absurd z (dct e d)), d, r⟩
  have KB : K.In (hidT s₁.heap H) := fun b o e => out (KI b o e) fun z => by
    by_cases y : H a = none
    · exact y
    · rw [z, nk y] at e; cases e
  have md : Mod K mg (hidT s₁.heap H) := ⟨KB, nsK g1, ⟨mb, nsK g2, g3⟩, let ⟨mc, c1, c2⟩ := nl; ⟨mc, nsK c1, c2⟩⟩
  have ev : Env0 P w K mg (hidT s₁.heap H) callerA [] s₁ H := ⟨rfl, md, fun _ _ e => of_hidT e, Nat.le_of_eq (hidT_size _ _), trivial, fun b z => absurd z nil_no, ok, .of_eq hg⟩
  refine codeAny_mono ((F _ KB (nsK g1)).go callerA [] s₁ H ⟨[.ref a], []⟩ [.ref a] [.ref a] _ _ rfl hr ev (bd s₁ (.ref a)) (.cons rfl .nil) hq) fun r s' h => ?_
  match r, h with
  | .error e, h => exact h.elim
  | .ok .next, h => exact h.elim
  | .ok .brk, h => exact h.elim
  | .ok .cont, h => exact h.elim
  | .ok (.ret u), ⟨v, G, os, br, un, okG, rv, q⟩ =>
    cases (show v = .bl true from q)
    cases (show u = Value.bool true from rv)
    refine ⟨rfl, OldK.of_keep fun b o e => ?_, os, br⟩
    rcases on b with z | ⟨ob, xs, z⟩
    · exact un.keep b o e z nil_no nil_no
    · have e1 := (ok b _ z).1
      have e2 := (okG b _ (un.frzs b ob _ z)).1
      rw [e] at e1
      cases e1
      exact e2

theorem law_end (KI : K.In s₁.heap) (g1 : s₁.heap.Ns mainGlobals mg) (g2 : s₁.heap.Ns builtinsNs mb) (g3 : ∀ y : Str, y ≠ "__name__" → mb y = bootBuiltins y) (nl : s₁.heap.NoLimit) (hg : s₁.gens = #[])
    (ha : s₁.heap.get? a = some { cls := .type "list", data := .seq vs.toArray }) (hi : IntsAre vs ns) (hz : ns.length ≤ sizeLine) (hr : Room k callerA)
    (F : ∀ base : Heap, K.In base → base.Ns mainGlobals mg → Fg P w K mg base CX0 k fa fd [x] sp) (bd : ∀ (s : Shared) (u : Value), BindsTo s fd ⟨[u], []⟩ [(x, u)])
    (hsp : ∀ H : Hp, Only H → SqL K H a (ns.map V.int) → sp [.ref a] H (fun v _ => v = .bl true) fun _ _ _ => False) :
    codeAny (model P w) callerA (.call (.ref fa) ⟨[.ref a], []⟩) (fun r s' => r = .ok (.ret (.bool true)) ∧ OldK s₁.heap s'.heap ∧ s'.os = s₁.os ∧ AllBare s'.gens) s₁ := by
  have rv := vals_ints hi
  have ll : vs.length = ns.length := hi.length
  cases hk : K.lookup a with
  | some o =>
    have e := KI a o hk
    rw [ha] at e
    cases e
    have no : ∀ {b : Addr} {u : HO}, ((fun _ => none) : Hp) b ≠ some u := fun {b u} z => nomatch (show (none : Option HO) = some u from z)
    exact law_core KI g1 g2 g3 nl hg ha hr F bd (fun _ => none) (fun _ => .inl rfl) (hsp _ (fun _ => .inl rfl) (.inr ⟨_, vs.toArray, _, hk, rfl, rfl, rfl, by rw [List.size_toArray, ll]; exact hz, by simpa using rv⟩))
      (fun b u z => absurd z (no (b := b))) (fun b z => absurd rfl z) (fun z => absurd rfl z)
  | none =>
    have g : ∃ G : Hp, G a = some (.frz { cls := .type "list", data := .seq vs.toArray } (.lst (ns.map V.int))) ∧ ∀ b, b ≠ a → G b = none := ⟨fun b => if b = a then _ else none, if_pos rfl, fun b n => if_neg n⟩
    obtain ⟨G, y1, y2⟩ := g
    have on : Only G := fun b => by
      by_cases e : b = a
      · exact .inr ⟨_, _, e ▸ y1⟩
      · exact .inl (y2 b e)
    refine law_core KI g1 g2 g3 nl hg ha hr F bd G on (hsp G on (.inl (.inr ⟨_, y1⟩))) (fun b u z => ?_) (fun b z => ?_) fun _ => hk
    · by_cases e : b = a
      · subst e
        rw [y1] at z
        cases z
        exact ⟨ha, by rw [List.length_map]; exact hz, vs, _, rv, ha⟩
      · rw [y2 b e] at z; cases z
    · exact Classical.byContradiction fun e => z (y2 b e)
end

/-- the goal that the head leaves -/
theorem walk_g {l : PySem.W.OpenLaw} {n k : Nat} {q : Program} {loose : List Str} {XP : (Str → Option Value) → Heap → Prop} {YP : World → Heap → Prop} {d : DefRec} {K : Params → PySem.W.Frag} {sp : PySem.W.Frag → Sp} {x : Str}
    (hn : l.most = some n) (n2 : n ≤ sizeLine) (nd : d.params.defaults = []) (hr : Room k callerA) (hY : ∀ (w : World) (h : Heap), YP w h → (K w.params).In h)
    (F : ∀ (w : World) (mg : Str → Option Value) (fa : Addr) (h : Heap), (K w.params).In h → h.Ns mainGlobals mg → mg d.name = some (.ref fa) →
      ∃ fd : FuncData, (∀ (s : Shared) (u : Value), BindsTo s fd ⟨[u], []⟩ [(x, u)]) ∧ ∀ base : Heap, (K w.params).In base → base.Ns mainGlobals mg → Fg l.prog w (K w.params) mg base CX0 k fa fd [x] (sp (K w.params)))
    (hsp : ∀ (K : PySem.W.Frag) (H : Hp) (a : Addr) (ns : List Int), ns.length ≤ n → Only H → SqL K H a (ns.map V.int) → sp K [.ref a] H (fun v _ => v = .bl true) fun _ _ _ => False) :
    PySem.W.WalkO q loose XP YP l.row.toRowW d [] (fun f vs => PySem.call f vs) := by
  refine Att.attach_call hn nd fun w s₀ s₁ mg mb fa o pm cd doc a vs ns G Y ho hd hcd hmg hobj hints hlen hg => ?_
  have KI := hY w _ Y
  obtain ⟨fd, hb, hF⟩ := F w mg fa _ KI G.T.g hmg
  exact law_end KI G.T.g G.T.b G.T.builtins G.T.nolimit hg hobj hints (Nat.le_trans hlen n2) hr hF hb fun H on hS => hsp _ H a ns hlen on hS
end GL
namespace KC
open PySem L2 GL
theorem same_new {H : Hp} {p : Addr} (h : H p = none) (o : HO) : Same H (upd H p o) := fun b u q => by rw [upd_ne (ne_of_none q h)]; exact q
theorem same_grow {H H1 : Hp} {p : Addr} (h : H p = none) (e : Same H H1) (o : HO) : Same H (upd H1 p o) := fun b u q => by rw [upd_ne (ne_of_none q h)]; exact e b u q
structure Dfn (P : Program) (w : World) (K : PySem.W.Frag) (mg : Str → Option Value) (base : Heap) (name : Str) (k : Nat) (f : Addr) (fd : FuncData) (ps : List Str) (sp : Sp) : Prop where
  ok : FnOk P w K mg base CX0 k f fd ps sp
  b : L2.Binds K fd ps []
  m : mg name = some (.ref f)
  kp : PySem.W.keepIn K (.ref f) = true
/-- a def promised where no guard of repr stands -/
structure Gfn (P : Program) (w : World) (K : PySem.W.Frag) (mg : Str → Option Value) (base : Heap) (name : Str) (k : Nat) (f : Addr) (fd : FuncData) (ps : List Str) (sp : Sp) : Prop where
  ok : Fg P w K mg base CX0 k f fd ps sp
  b : L2.Binds K fd ps []
  m : mg name = some (.ref f)
  kp : PySem.W.keepIn K (.ref f) = true
/-- len of a list or tuple, the written part by its name -/
def rLenS (K : PySem.W.Frag) : List V → Hp → VK → Prop := fun xs H Q => ∃ (p : Addr) (ys : List V), xs = [.ref p] ∧ (SqL K H p ys ∨ SqT K H p ys) ∧ Q (.int ys.length) H
theorem call_lenS {X : Cx} : CallR X (.builtin "len") (rLenS X.K) := call_len_seq
/-! ### how long a value is when it is shown -/
mutual
def wt : PyData → Nat
  | .none => 4
  | .bool _ => 5
  | .int i => (PyData.int i).shown.length
  | .str x => (PyData.str x).shown.length
  | .list ds => wts ds + 3
  | .tuple ds => wts ds + 3
  | .dict _ => 2
def wts : List PyData → Nat
  | [] => 0
  | d :: ds => wt d + 2 + wts ds
end
theorem len_wts : ∀ ds : List PyData, ds.length ≤ wts ds
  | [] => Nat.le_refl _
  | d :: ds => by have := len_wts ds; simp only [wts, List.length_cons]; omega
theorem mem_wts {d : PyData} : ∀ {ds : List PyData}, d ∈ ds → wt d ≤ wts ds
  | e :: ds, h => by
    simp only [wts]
    rcases List.mem_cons.mp h with rfl | h
    · omega
    · have := mem_wts h; omega
/-! ### the deck: a list of a list of numbers and of how many were drawn -/
/-- the heap without the deck's two lists -/
def Hd (d c : Addr) (H : Hp) : Hp := fun b => if b = d ∨ b = c then none else H b
theorem hd_some {d c b : Addr} {H : Hp} {o : HO} (h : Hd d c H b = some o) : H b = some o ∧ b ≠ d ∧ b ≠ c := by
  unfold Hd at h
  by_cases e : b = d ∨ b = c
  · rw [if_pos e] at h; cases h
  · rw [if_neg e] at h; exact ⟨h, fun z => e (.inl z), fun z => e (.inr z)⟩
theorem hd_of {d c b : Addr} {H : Hp} {o : HO} (h : H b = some o) (n1 : b ≠ d) (n2 : b ≠ c) : Hd d c H b = some o := by
  unfold Hd
  rw [if_neg fun e => e.elim n1 n2]; exact h
theorem hd_sub {d c : Addr} {H : Hp} : Same (Hd d c H) H := fun _ _ h => (hd_some h).1
theorem hd_new {d c p : Addr} {H : Hp} (h : H p = none) (o : HO) : Same (Hd d c H) (Hd d c (upd H p o)) := fun b u q => by
  obtain ⟨q1, q2, q3⟩ := hd_some q
  exact hd_of (same_new h o b u q1) q2 q3
theorem hd_put {d c p : Addr} {H : Hp} (h : p = d ∨ p = c) (o : HO) : Same (Hd d c H) (Hd d c (upd H p o)) := fun b u q => by
  obtain ⟨q1, q2, q3⟩ := hd_some q
  refine hd_of ?_ q2 q3
  rw [upd_ne (fun e => h.elim (fun z => q2 (e.trans z)) fun z => q3 (e.trans z))]; exact q1
theorem hd_same {d c : Addr} {H H' : Hp} (h : Same H H') : Same (Hd d c H) (Hd d c H') := fun b u q => by
  obtain ⟨q1, q2, q3⟩ := hd_some q
  exact hd_of (h b u q1) q2 q3

/-- the deck at d, its cells at c, with at most m numbers drawn -/
structure Deck (H : Hp) (d c : Addr) (m : Nat) : Prop where
  ne : d ≠ c
  ex : ∃ (L : List Int) (n : Nat), H d = some (.lst [.ref c, .int n]) ∧ H c = some (.lst (L.map V.int)) ∧ L.length ≤ 63 ∧ (∀ x ∈ L, 0 ≤ x) ∧ n ≤ m
theorem Deck.same {H H' : Hp} {d c : Addr} {m : Nat} (D : Deck H d c m) (s : Same H H') : Deck H' d c m := by
  obtain ⟨L, n, h1, h2, h3⟩ := D.ex
  exact ⟨D.ne, L, n, s _ _ h1, s _ _ h2, h3⟩
theorem Deck.mono {H : Hp} {d c : Addr} {m k : Nat} (D : Deck H d c m) (h : m ≤ k) : Deck H d c k := by
  obtain ⟨L, n, h1, h2, h3, h4, h5⟩ := D.ex
  exact ⟨D.ne, L, n, h1, h2, h3, h4, Nat.le_trans h5 h⟩
theorem Deck.new {H : Hp} {d c : Addr} {m : Nat} (D : Deck H d c m) {p : Addr} (h : H p = none) (o : HO) : Deck (upd H p o) d c m := D.same (same_new h o)

def spDeck (K : PySem.W.Frag) : Sp := fun vs H Q _ => ∃ (a : Addr) (ns : List Int), vs = [.ref a] ∧ SqL K H a (ns.map V.int) ∧ ns.length ≤ 63 ∧ ∀ d c H', Same H H' → H d = none → H c = none → Deck H' d c 0 → Q (.ref d) H'
def spDraw : Sp := fun vs H Q _ => ∃ (d c : Addr) (many : Int) (m : Nat), vs = [.ref d, .int many] ∧ Deck H d c m ∧ m ≤ 1000000000 ∧ 0 < many ∧ many < 1073741824 ∧
  ∀ (r : Int) (H' : Hp), 0 ≤ r → r < many → Deck H' d c (m + 1) → Same (Hd d c H) (Hd d c H') → Q (.int r) H'
def spOne : Sp := fun vs H Q _ => ∃ (d c a : Addr) (xs : List V) (m : Nat), vs = [.ref d, .ref a] ∧ Deck H d c m ∧ m ≤ 1000000000 ∧ Hd d c H a = some (.lst xs) ∧ 0 < xs.length ∧ xs.length ≤ 100000 ∧
  ∀ (v : V) (H' : Hp), v ∈ xs → Deck H' d c (m + 1) → Same (Hd d c H) (Hd d c H') → Q v H'

def rAbs : List V → Hp → VK → Prop := fun xs H Q => ∃ i : Int, xs = [.int i] ∧ Q (.int (if i < 0 then -i else i)) H
theorem call_absS {X : Cx} : CallR X (.builtin "abs") rAbs := call_abs
theorem cut_mem {xs : List V} {lo hi : Option Int} {x : V} (h : x ∈ cutV xs lo hi) : x ∈ xs := List.mem_of_mem_drop (List.mem_of_mem_take h)

/-! ### machines that are drawn -/
def emp : Hp := fun _ => none
theorem emp_same {H : Hp} : Same emp H := fun _ _ h => nomatch (show (none : Option HO) = some _ from h)
/-- one more thing hidden -/
def Hr (R : Addr) (H : Hp) : Hp := fun b => if b = R then none else H b
theorem hr_some {R b : Addr} {H : Hp} {o : HO} (h : Hr R H b = some o) : H b = some o ∧ b ≠ R := by
  unfold Hr at h
  by_cases e : b = R
  · rw [if_pos e] at h; cases h
  · rw [if_neg e] at h; exact ⟨h, e⟩
theorem hr_of {R b : Addr} {H : Hp} {o : HO} (h : H b = some o) (n : b ≠ R) : Hr R H b = some o := by
  unfold Hr; rw [if_neg n]; exact h
theorem hr_sub {R : Addr} {H : Hp} : Same (Hr R H) H := fun _ _ h => (hr_some h).1
theorem hr_same {R : Addr} {H H' : Hp} (s : Same H H') : Same (Hr R H) (Hr R H') := fun b o h => hr_of (s _ _ (hr_some h).1) (hr_some h).2
theorem hr_put {R d c : Addr} {G : Hp} {o : HO} : Same (Hr R (Hd d c G)) (Hr R (Hd d c (upd G R o))) := fun b u h => by
  obtain ⟨h1, h2⟩ := hr_some h
  obtain ⟨h3, h4, h5⟩ := hd_some h1
  exact hr_of (hd_of (by rw [upd_ne h2]; exact h3) h4 h5) h2
theorem hd_none {d c p : Addr} {H : Hp} (n : H p = none) : Hd d c H p = none := by
  unfold Hd
  split
  · rfl
  · exact n
theorem hd_grow {d c p : Addr} {H G : Hp} (n : Hd d c H p = none) (s : Same (Hd d c H) (Hd d c G)) (o : HO) : Same (Hd d c H) (Hd d c (upd G p o)) := fun b u h => by
  obtain ⟨_, h2, h3⟩ := hd_some h
  exact hd_of (by rw [upd_ne (ne_of_none h n)]; exact (hd_some (s _ _ h)).1) h2 h3
theorem Deck.put {H : Hp} {d c p : Addr} {m : Nat} (D : Deck H d c m) (n1 : p ≠ d) (n2 : p ≠ c) (o : HO) : Deck (upd H p o) d c m := by
  obtain ⟨L, n, h1, h2, h3⟩ := D.ex
  exact ⟨D.ne, L, n, by rw [upd_ne n1.symm]; exact h1, by rw [upd_ne n2.symm]; exact h2, h3⟩
theorem Deck.free {H : Hp} {d c p : Addr} {m : Nat} (D : Deck H d c m) (n : H p = none) : p ≠ d ∧ p ≠ c := by
  obtain ⟨L, k, h1, h2, h3⟩ := D.ex
  exact ⟨(ne_of_none h1 n).symm, (ne_of_none h2 n).symm⟩

def IsRow (l n : Nat) (r : PyData) : Prop := ∃ xs, r = .tuple xs ∧ xs.length = l ∧ ∀ x ∈ xs, x = .none ∨ ∃ i : Int, x = .int i ∧ 0 ≤ i ∧ i < n
def IsMach (l n : Nat) (md : PyData) : Prop := ∃ (rs : List PyData) (bs : List Bool), md = .tuple [.int l, .tuple rs, .tuple (bs.map .bool)] ∧ rs.length = n ∧ bs.length = n ∧ ∀ r ∈ rs, IsRow l n r
def spMach (K : PySem.W.Frag) : Sp := fun vs H Q _ => ∃ (d c : Addr) (l n m : Nat), vs = [.ref d, .int l, .int n] ∧ Deck H d c m ∧ m ≤ 900000000 ∧ 1 ≤ l ∧ l ≤ 4 ∧ 1 ≤ n ∧ n ≤ 400 ∧
  ∀ (p : Addr) (md : PyData) (H' : Hp), IsMach l n md → Dt K (Hd d c H') (.ref p) md → Deck H' d c (m + 4000) → Same (Hd d c H) (Hd d c H') → Q (.ref p) H'
theorem bools_dt {K : PySem.W.Frag} {H : Hp} : ∀ bs : List Bool, DtAll K H (bs.map V.bl) (bs.map .bool)
  | [] => .nil
  | b :: bs => .cons (.bl b) (bools_dt bs)

/-! ### a list against an empty one, a tuple against an empty one -/
def rNe0 : R2 := fun x y H Q => ∃ (a b : Addr) (xs : List V), x = .ref a ∧ y = .ref b ∧ H a = some (.lst xs) ∧ H b = some (.lst []) ∧ Q (.bl (!xs.isEmpty)) H
def rEq0 : R2 := fun x y H Q => ∃ (a b : Addr) (xs : List V), x = .ref a ∧ y = .ref b ∧ H a = some (.tup xs) ∧ H b = some (.tup []) ∧ Q (.bl xs.isEmpty) H
theorem op_ne0 {X : Cx} (hu : X.A.units < cLine) : OpR X (compareOp .NotEq) rNe0 := by
  intro pins s σ H x y v u Q I rx ry h
  obtain ⟨a, b, xs, rfl, rfl, ha, hb, q⟩ := h
  cases rx
  cases ry
  obtain ⟨its, n, rv, e⟩ := lst_at I ha
  obtain ⟨its2, n2, rv2, e2⟩ := lst_at I hb
  cases rv2
  have l1 : s.heap.IsList a its.toArray := ⟨_, e, rfl, n, rfl⟩
  have l2 : s.heap.IsList b ([] : List Value).toArray := ⟨_, e2, rfl, n2, rfl⟩
  cases its with
  | nil =>
    cases rv
    exact SeqAt.RcNeAt.lists (e := fun _ => true) l1 l2 rfl hu (fun j h1 _ => absurd h1 (Nat.not_lt_zero j)) X.prog X.w _ _ ⟨.bl false, H, I, rfl, q⟩
  | cons y ys =>
    cases rv with
    | cons r1 r2 => exact SeqAt.RcNeAt.lists_lengths l1 l2 rfl hu X.prog X.w _ _ ⟨.bl true, H, I, rfl, q⟩
theorem op_eq0 {X : Cx} (hu : X.A.units < cLine) : OpR X (compareOp .Eq) rEq0 := by
  intro pins s σ H x y v u Q I rx ry h
  obtain ⟨a, b, xs, rfl, rfl, ha, hb, q⟩ := h
  cases rx
  cases ry
  obtain ⟨its, o, n, rv, e, ec, ed⟩ := tup_at I ha
  obtain ⟨its2, o2, n2, rv2, e2, ec2, ed2⟩ := tup_at I hb
  cases rv2
  have l1 : s.heap.IsTuple a its.toArray := ⟨_, e, ec, n, ed⟩
  have l2 : s.heap.IsTuple b ([] : List Value).toArray := ⟨_, e2, ec2, n2, ed2⟩
  cases its with
  | nil =>
    cases rv
    exact SeqAt.RcAt.tuples (e := fun _ => true) l1 l2 hu (fun j h1 _ => absurd h1 (Nat.not_lt_zero j)) X.prog X.w _ _ ⟨.bl true, H, I, rfl, q⟩
  | cons y ys =>
    cases rv with
    | cons r1 r2 => exact SeqAt.RcAt.tuples (e := fun _ => true) l1 l2 hu (fun j _ h2 => absurd h2 (Nat.not_lt_zero j)) X.prog X.w _ _ ⟨.bl false, H, I, rfl, q⟩

/-! ### what can be shown -/
mutual
theorem shown_wt {K : PySem.W.Frag} {H : Hp} : ∀ (d : PyData) (v : V), Dt K H v d → d.shown.length ≤ wt d
  | .none, _, _ => by decide +kernel
  | .bool b, _, _ => by cases b <;> decide +kernel
  | .int _, _, _ => Nat.le_refl _
  | .str _, _, _ => Nat.le_refl _
  | .list ds, _, h => by
    cases h with
    | lst _ ha =>
      have h1 := listText_len_le (PyData.shownAll ds)
      have h2 := shownAll_wt ds _ ha
      simp only [PyData.shown, wt]
      omega
  | .tuple ds, _, h => by
    cases h with
    | tup _ ha =>
      have h1 := tupleText_len_le (PyData.shownAll ds)
      have h2 := shownAll_wt ds _ ha
      simp only [PyData.shown, wt]
      omega
  | .dict _, _, h => by
    cases h with
    | dic _ =>
      simp only [PyData.shown, PyData.shownKv, wt]
      decide +kernel
theorem shownAll_wt {K : PySem.W.Frag} {H : Hp} : ∀ (ds : List PyData) (vs : List V), DtAll K H vs ds → ((PyData.shownAll ds).map (·.length)).sum + 2 * (PyData.shownAll ds).length ≤ wts ds
  | [], _, _ => by simp [PyData.shownAll, wts]
  | d :: ds, _, h => by
    cases h with
    | cons h1 h2 =>
      have e1 := shown_wt d _ h1
      have e2 := shownAll_wt ds _ h2
      simp only [PyData.shownAll, wts, List.map_cons, List.sum_cons, List.length_cons]
      omega
end
/-- small, shallow, with ints that can be shown -/
structure Fit (n k : Nat) (d : PyData) : Prop where
  w : wt d ≤ n
  k : d.depth ≤ k
  s : d.showable = true
structure FitAll (n k : Nat) (ds : List PyData) : Prop where
  w : wts ds ≤ n
  k : PyData.depthAll ds ≤ k
  s : PyData.showableAll ds = true
theorem Fit.mono {n k m j : Nat} {d : PyData} (h : Fit n k d) (a : n ≤ m) (b : k ≤ j) : Fit m j d := ⟨Nat.le_trans h.w a, Nat.le_trans h.k b, h.s⟩
theorem Fit.tup {n k : Nat} {ds : List PyData} (h : FitAll n k ds) : Fit (n + 3) (k + 1) (.tuple ds) := ⟨by simp only [wt]; have := h.w; omega, by simp only [PyData.depth]; have := h.k; omega, by simp only [PyData.showable]; exact h.s⟩
theorem Fit.lst {n k : Nat} {ds : List PyData} (h : FitAll n k ds) : Fit (n + 3) (k + 1) (.list ds) := ⟨by simp only [wt]; have := h.w; omega, by simp only [PyData.depth]; have := h.k; omega, by simp only [PyData.showable]; exact h.s⟩
theorem FitAll.nil {k : Nat} : FitAll 0 k [] := ⟨by simp only [wts]; exact Nat.le_refl 0, by simp only [PyData.depthAll]; exact Nat.zero_le _, by simp only [PyData.showableAll]⟩
theorem FitAll.cons {n m k : Nat} {d : PyData} {ds : List PyData} (a : Fit n k d) (b : FitAll m k ds) : FitAll (n + 2 + m) k (d :: ds) :=
  ⟨by simp only [wts]; have := a.w; have := b.w; omega, by simp only [PyData.depthAll]; exact Nat.max_le.mpr ⟨a.k, b.k⟩, by simp only [PyData.showableAll, a.s, b.s, Bool.and_self]⟩
theorem FitAll.mono {n k m j : Nat} {ds : List PyData} (h : FitAll n k ds) (a : n ≤ m) (b : k ≤ j) : FitAll m j ds := ⟨Nat.le_trans h.w a, Nat.le_trans h.k b, h.s⟩
theorem FitAll.append {n m k : Nat} : ∀ {ds es : List PyData}, FitAll n k ds → FitAll m k es → FitAll (n + m) k (ds ++ es)
  | [], es, _, b => b.mono (Nat.le_add_left _ _) (Nat.le_refl _)
  | d :: ds, es, a, b => by
    have w := a.w
    have kk := a.k
    have ss := a.s
    simp only [wts] at w
    simp only [PyData.depthAll] at kk
    simp only [PyData.showableAll, Bool.and_eq_true] at ss
    have r : FitAll (wts ds + m) k (ds ++ es) := FitAll.append ⟨Nat.le_refl _, Nat.le_trans (Nat.le_max_right _ _) kk, ss.2⟩ b
    exact (FitAll.cons (n := wt d) ⟨Nat.le_refl _, Nat.le_trans (Nat.le_max_left _ _) kk, ss.1⟩ r).mono (by omega) (Nat.le_refl _)
theorem FitAll.take {n k : Nat} : ∀ {ds : List PyData} (i : Nat), FitAll n k ds → FitAll n k (ds.take i)
  | ds, 0, _ => by rw [List.take_zero]; exact FitAll.nil.mono (Nat.zero_le _) (Nat.le_refl _)
  | [], i + 1, a => a
  | d :: ds, i + 1, a => by
    have w := a.w
    have kk := a.k
    have ss := a.s
    simp only [wts] at w
    simp only [PyData.depthAll] at kk
    simp only [PyData.showableAll, Bool.and_eq_true] at ss
    have r : FitAll (wts ds) k (ds.take i) := FitAll.take i ⟨Nat.le_refl _, Nat.le_trans (Nat.le_max_right _ _) kk, ss.2⟩
    exact (FitAll.cons (n := wt d) ⟨Nat.le_refl _, Nat.le_trans (Nat.le_max_left _ _) kk, ss.1⟩ r).mono (by omega) (Nat.le_refl _)
theorem FitAll.drop {n k : Nat} : ∀ {ds : List PyData} (i : Nat), FitAll n k ds → FitAll n k (ds.drop i)
  | ds, 0, a => a
  | [], i + 1, a => a
  | d :: ds, i + 1, a => by
    have w := a.w
    have kk := a.k
    have ss := a.s
    simp only [wts] at w
    simp only [PyData.depthAll] at kk
    simp only [PyData.showableAll, Bool.and_eq_true] at ss
    have r : FitAll (wts ds) k (ds.drop i) := FitAll.drop i ⟨Nat.le_refl _, Nat.le_trans (Nat.le_max_right _ _) kk, ss.2⟩
    exact r.mono (by omega) (Nat.le_refl _)
theorem FitAll.mem {n k : Nat} {d : PyData} : ∀ {ds : List PyData}, FitAll n k ds → d ∈ ds → Fit n k d
  | e :: ds, a, h => by
    have w := a.w
    have kk := a.k
    have ss := a.s
    simp only [wts] at w
    simp only [PyData.depthAll] at kk
    simp only [PyData.showableAll, Bool.and_eq_true] at ss
    rcases List.mem_cons.mp h with rfl | h
    · exact ⟨by omega, Nat.le_trans (Nat.le_max_left _ _) kk, ss.1⟩
    · exact FitAll.mem (ds := ds) ⟨by omega, Nat.le_trans (Nat.le_max_right _ _) kk, ss.2⟩ h
theorem Fit.all {n k : Nat} {ds : List PyData} (h : Fit n k (.tuple ds)) : FitAll n k ds ∧ PyData.depthAll ds + 1 ≤ k := by
  have w := h.w
  have kk := h.k
  have ss := h.s
  simp only [wt] at w
  simp only [PyData.depth] at kk
  simp only [PyData.showable] at ss
  exact ⟨⟨by omega, by omega, ss⟩, kk⟩
theorem fit_int {i : Int} {n : Nat} (h : i.natAbs < 10 ^ 41) (hn : 42 ≤ n) {k : Nat} : Fit n k (.int i) := by
  have e := int_text_length_le10 (k := 41) (by decide) h
  have l : wt (.int i) = (toString i).length := by simp only [wt, PyData.shown]; exact ofString_length _
  refine ⟨by rw [l]; omega, by simp only [PyData.depth]; exact Nat.zero_le _, ?_⟩
  simp only [PyData.showable, decide_eq_true_eq]
  have h2 : i.natAbs < 2 ^ 1920 := Nat.lt_trans h (by decide +kernel)
  by_cases z : i.natAbs = 0
  · rw [z]; decide
  · exact (Nat.log2_lt z).mpr h2
theorem fit_non {n k : Nat} (h : 5 ≤ n) : Fit n k .none := ⟨by simp only [wt]; omega, by simp only [PyData.depth]; exact Nat.zero_le _, by simp only [PyData.showable]⟩
theorem fit_bl {n k : Nat} {b : Bool} (h : 5 ≤ n) : Fit n k (.bool b) := ⟨by simp only [wt]; omega, by simp only [PyData.depth]; exact Nat.zero_le _, by simp only [PyData.showable]⟩
theorem fit_dic {n k : Nat} (h : 2 ≤ n) (hk : 1 ≤ k) : Fit n k (.dict []) := ⟨by simp only [wt]; omega, by simp only [PyData.depth, PyData.depthKv]; omega, by simp only [PyData.showable, PyData.showableKv]⟩
theorem fit_str {n k m : Nat} {x : Str} (e : (PyData.str x).shown.length ≤ m) (h : m ≤ n) : Fit n k (.str x) := ⟨by simp only [wt]; omega, by simp only [PyData.depth]; exact Nat.zero_le _, by simp only [PyData.showable]⟩
theorem fit_mach {l n : Nat} {md : PyData} (h : IsMach l n md) (hl : l ≤ 4) (hn : n ≤ 400) : Fit (188 * n + 60) 3 md := by
  obtain ⟨rs, bs, rfl, h1, h2, h3⟩ := h
  have row : ∀ xs : List PyData, (∀ x ∈ xs, x = .none ∨ ∃ i : Int, x = .int i ∧ 0 ≤ i ∧ i < n) → FitAll (44 * xs.length) 0 xs := by
    intro xs
    induction xs with
    | nil => intro _; exact FitAll.nil
    | cons x xs ih =>
      intro hx
      have a : Fit 42 0 x := by
        rcases hx x List.mem_cons_self with rfl | ⟨i, rfl, i0, i1⟩
        · exact fit_non (by decide)
        · exact fit_int (by have : i.natAbs < 400 := by omega
                            omega) (by decide)
      exact (FitAll.cons a (ih fun y hy => hx y (List.mem_cons_of_mem _ hy))).mono (by rw [List.length_cons]; omega) (Nat.le_refl _)
  have rows : ∀ rs : List PyData, (∀ r ∈ rs, IsRow l n r) → FitAll (181 * rs.length) 1 rs := by
    intro rs
    induction rs with
    | nil => intro _; exact FitAll.nil
    | cons r rs ih =>
      intro hr
      obtain ⟨xs, rfl, x1, x2⟩ := hr r List.mem_cons_self
      have a := Fit.tup (row xs x2)
      exact (FitAll.cons a (ih fun y hy => hr y (List.mem_cons_of_mem _ hy))).mono (by rw [List.length_cons, x1]; omega) (Nat.le_refl _)
  have bools : ∀ bs : List Bool, FitAll (7 * bs.length) 1 (bs.map PyData.bool) := by
    intro bs
    induction bs with
    | nil => exact FitAll.nil
    | cons b bs ih => exact (FitAll.cons (n := 5) (fit_bl (by decide)) ih).mono (by rw [List.length_cons]; omega) (Nat.le_refl _)
  have r1 := rows rs h3
  rw [h1] at r1
  have r2 := bools bs
  rw [h2] at r2
  have il : (l : Int).natAbs < 10 ^ 41 := Nat.lt_of_lt_of_le (show (l : Int).natAbs < 5 by omega) (by decide +kernel)
  exact (Fit.tup (FitAll.cons (fit_int (n := 42) il (by decide)) (FitAll.cons (Fit.tup r1) (FitAll.cons (Fit.tup r2) FitAll.nil)))).mono (by omega) (Nat.le_refl _)

/-! ### slices and sums of tuples, one way each -/
def rSlD : V → Option Int → Option Int → Hp → VK → Prop := fun x lo hi H Q => ∃ (a : Addr) (xs : List V), x = .ref a ∧ H a = some (.tup xs) ∧ ∀ (b : Addr) (G : Hp), Same H G → G b = some (.tup (cutV xs lo hi)) → Q (.ref b) G
theorem cut_whole {xs : List V} {lo hi : Option Int} (h : HT.sIx xs.length 0 lo = 0 ∧ HT.sIx xs.length xs.length hi = xs.length) : cutV xs lo hi = xs := by
  unfold cutV
  rw [h.1, h.2, List.drop_zero, Nat.sub_zero, List.take_length]
theorem sl_tupD {X : Cx} : SlR X rSlD := by
  intro pins s σ H x v vl vu lo hi sl Q I rx hs pl pu h
  obtain ⟨a, xs, rfl, ha, q⟩ := h
  exact sl_tupA pins s σ H _ v vl vu lo hi sl Q I rx hs pl pu ⟨a, xs, rfl, .inl (.inl ha), fun hw => q a H (Same.refl H) (by rw [cut_whole hw]; exact ha), fun _ p np => q p _ (same_new np _) upd_same⟩
def rCatD : R2 := fun x y H Q => ∃ (a b : Addr) (xs ys : List V), x = .ref a ∧ y = .ref b ∧ H a = some (.tup xs) ∧ H b = some (.tup ys) ∧ xs.length + ys.length ≤ sizeLine ∧ ∀ (p : Addr) (G : Hp), Same H G → G p = some (.tup (xs ++ ys)) → Q (.ref p) G
theorem op_catD {X : Cx} : OpR X (binaryOp .Add) rCatD := by
  intro pins s σ H x y v u Q I rx ry h
  obtain ⟨a, b, xs, ys, rfl, rfl, ha, hb, hz, q⟩ := h
  refine op_catA pins s σ H _ _ v u Q I rx ry ⟨a, b, xs, ys, rfl, rfl, .inl (.inl ha), .inl (.inl hb), hz, fun e => ?_, fun _ e => ?_, fun _ _ p np => q p _ (same_new np _) upd_same⟩
  · subst e; exact q b H (Same.refl H) hb
  · subst e; exact q a H (Same.refl H) (by rw [List.append_nil]; exact ha)
theorem cut_dt {K : PySem.W.Frag} {H : Hp} {vs : List V} {ds : List PyData} (lo hi : Option Int) (h : DtAll K H vs ds) : ∃ es, DtAll K H (cutV vs lo hi) es ∧ ∀ n k, FitAll n k ds → FitAll n k es :=
  ⟨_, (h.drop _).take _, fun _ _ f => (f.drop _).take _⟩
theorem Deck.tup {H : Hp} {d c b : Addr} {m : Nat} {xs : List V} (D : Deck H d c m) (h : H b = some (.tup xs)) : Hd d c H b = some (.tup xs) := by
  obtain ⟨L, n, h1, h2, _⟩ := D.ex
  exact hd_of h (ne_of h h1 fun z => nomatch z) (ne_of h h2 fun z => nomatch z)

/-- where the top has left a def -/
structure DF (K : PySem.W.Frag) (x : Str) (st : Stmt) (f : Addr) (fd : FuncData) : Prop where
  ns : PySem.W.nsIn K mainGlobals x = some (some (.ref f))
  fn : Fun K x x st f fd
theorem df {K : PySem.W.Frag} {x : Str} {st : Stmt} {f : Addr} {oc : Value} {od an : Option Addr} {osl : Array (Option Value)} {kV doc pm cdv ct : Value} (a : PySem.W.nsIn K mainGlobals x = some (some (.ref f)))
    (l : K.lookup f = some ⟨oc, od, .func (PySem.W.fnOf x x (defArgs st) (defBody st) (defScope st) .none kV doc pm an cdv ct), osl⟩) (c : PySem.W.codeIn K cdv x = true) (k : PySem.W.keepIn K (.ref f) = true) :
    DF K x st f (PySem.W.fnOf x x (defArgs st) (defBody st) (defScope st) .none kV doc pm an cdv ct) := ⟨a, fun_mk l c k⟩
/-- the names that the deck's defs use -/
structure TxC (mg : Str → Option Value) : Prop where
  int : mg "int" = none
  tuple : mg "tuple" = none
  len : mg "len" = none
  abs : mg "abs" = none
  range : mg "range" = none
end KC
namespace K22
open PySem L2 GL KC
def top (i : Nat) : Stmt := PySem.Challenge.pw_pairedaway_k22_words_of_machines.main.body.getD i (.Pass ⟨0, 0, 0, 0⟩)
abbrev sDeck : Stmt := top 4
abbrev sDraw : Stmt := top 5
abbrev sOne : Stmt := top 6
abbrev sMach : Stmt := top 7
section
variable {P : Program} {w : World} {K : PySem.W.Frag} {mg : Str → Option Value} {base : Heap}
theorem scDeck : FnScope ["_law_script", "_law_cell"] ["_law_script"] (defScope sDeck) := ⟨rfl, rfl, rfl, by decide +kernel, rfl, by decide +kernel, by decide +kernel⟩
theorem ok_deck {f : Addr} {fd : FuncData} (F : Fun K "_law_deck" "_law_deck" sDeck f fd) (T : TxC mg) : FnOk P w K mg base CX0 1 f fd ["_law_script"] (spDeck K) := by
  refine F.ok scDeck (fun vs H Q E h => ?_) (fun cdv A outer s H vs Q E hr h => ?_)
  · obtain ⟨a, ns, rfl, _⟩ := h
    rfl
  obtain ⟨a, ns, rfl, hS, hl, q⟩ := h
  refine ⟨_, pss_one (ps_ret (pe_lst (pa_cons (pe_lc (own := [("_law_cell", 1)]) (g := gName 1) (tt := tYes) rfl scDeck.nd (pi_list (pe_slice sl_list (pv 0) po_none (po_some pe_int)))
      (blkOk_by (own := [("_law_cell", 1)]) (N := ["_law_script", "_law_cell"]) (sc := defScope sDeck) (by decide +kernel)) (fun _ _ _ _ _ => pg_name (i := 1) scDeck.nd rfl (Or.inl rfl)) (fun _ _ _ _ _ => pts_nil)
      (fun _ _ _ _ _ => pe_callB call_absS (by rfl) T.abs (by decide +kernel) (pa_cons (pv 1) pa_nil))) (pa_cons pe_int pa_nil)))), ?_⟩
  refine ⟨_, rfl, _, rfl, a, _, rfl, hS, fun p np => ?_⟩
  have isI : ∀ x ∈ cutV (ns.map V.int) none (some 63), ∃ i : Int, x = .int i := fun x hx => by
    obtain ⟨i, _, e⟩ := List.mem_map.mp (cut_mem hx)
    exact ⟨i, e.symm⟩
  have ll : (cutV (ns.map V.int) none (some 63)).length ≤ 63 := by
    have := cutV_length (ns.map V.int) none (some 63)
    rw [List.length_map] at this
    omega
  generalize cutV (ns.map V.int) none (some 63) = xs at isI ll
  have sp : Same H (upd H p (.lst xs)) := same_new np _
  refine ⟨p, rfl, ⟨_, .inl (.inl upd_same)⟩, fun L nL => lc_list (K := K) (a := p) (xs := xs) (fun i G => Same (upd H p (.lst xs)) G ∧ ∃ ys : List Int, G L = some (.lst (ys.map V.int)) ∧ ys.length = i ∧ ∀ y ∈ ys, 0 ≤ y)
    ⟨same_new nL _, [], upd_same, rfl, fun y z => nomatch z⟩ (fun i G _ h => .inl (.inl (h.1 _ _ upd_same))) (fun i x G hx h => ?_) fun G h => ?_⟩
  · obtain ⟨s1, ys, y1, y2, y3⟩ := h
    obtain ⟨z, rfl⟩ := isI x (List.mem_of_getElem? hx)
    have il : i < xs.length := (List.getElem?_eq_some_iff.mp hx).1
    refine ⟨rfl, _, rfl, z, rfl, _, y1, by rw [List.length_map, y2]; show i < 2 ^ 24; omega, same_grow nL s1 _, ys ++ [if z < 0 then -z else z], by rw [upd_same, List.map_append]; rfl, by rw [List.length_append, y2]; rfl, ?_⟩
    intro y hy
    rcases List.mem_append.mp hy with hy | hy
    · exact y3 y hy
    · rw [List.mem_singleton.mp hy]
      split <;> omega
  · obtain ⟨s1, ys, y1, y2, y3⟩ := h
    refine ⟨by show 2 ≤ 2 ^ 24; decide, fun d nd => ?_⟩
    have sG : Same H G := sp.trans s1
    have ndL : d ≠ L := fun e => by rw [e, y1] at nd; cases nd
    have nHL : H L = none := sp.free nL
    refine q d L _ (sG.trans (same_new nd _)) (sG.free nd) nHL ⟨ndL, ys, 0, upd_same, by rw [upd_ne ndL.symm]; exact y1, by omega, y3, Nat.le_refl _⟩
theorem scDraw : FnScope ["_law_deck_here", "_law_many", "_law_cell", "_law_at", "_law_mixed"] ["_law_deck_here", "_law_many"] (defScope sDraw) := ⟨rfl, rfl, rfl, by decide +kernel, rfl, by decide +kernel, by decide +kernel⟩
theorem ok_draw {f : Addr} {fd : FuncData} (F : Fun K "_law_draw" "_law_draw" sDraw f fd) (T : TxC mg) : FnOk P w K mg base CX0 1 f fd ["_law_deck_here", "_law_many"] spDraw := by
  refine F.ok scDraw (fun vs H Q E h => ?_) (fun cdv A outer s H vs Q E hr h => ?_)
  · obtain ⟨d, c, many, m, rfl, _⟩ := h
    rfl
  obtain ⟨d, c, many, m, rfl, D, hm, p1, p2, q⟩ := h
  refine ⟨_, pss_cons (ps_asg (pe_op op_add (pe_ix ix_list (pv 0) pe_int (fun _ _ => rfl)) pe_int) (pg_sub (pv 0) pe_int set_list))
    (pss_cons (ps_asg (pe_tup (pa_cons pe_int (pa_cons (pe_un un_neg pe_int) pa_nil))) (pg_tup (by rfl) (pgs_cons (pg_name (i := 2) scDraw.nd rfl (Or.inl rfl)) (pgs_cons (pg_name (i := 3) scDraw.nd rfl (Or.inl rfl)) pgs_nil))))
    (pss_cons (ps_if (pt_cmpR op_gt (pe_callB call_len_seq (by rfl) T.len PySem.boot_len (pa_cons (pe_ix ix_list (pv 0) pe_int (fun _ _ => rfl)) pa_nil)) pe_int (nomark _))
      (pss_cons (ps_set (i := 3) scDraw.nd rfl (Or.inl rfl) (pe_op op_mod (pe_callTy call_int1 (by rfl) T.int (by decide +kernel) (pa_cons (pe_ix ix_list (pv 0) pe_int (fun _ _ => rfl)) pa_nil)) (pe_callB call_len_seq (by rfl) T.len PySem.boot_len (pa_cons (pe_ix ix_list (pv 0) pe_int (fun _ _ => rfl)) pa_nil))))
      (pss_one (ps_set (i := 2) scDraw.nd rfl (Or.inl rfl) (pe_ix ix_list (pe_ix ix_list (pv 0) pe_int (fun _ _ => rfl)) (pv 3) (fun _ _ => rfl))))) pss_nil)
    (pss_cons (ps_if (pt_cmpR op_ge (pv 2) (pe_op op_pow pe_int pe_int) (nomark _))
      (pss_cons (ps_asg (pe_op op_fdiv (pe_callTy call_int1 (by rfl) T.int (by decide +kernel) (pa_cons (pv 2) pa_nil)) (pv 1)) (pg_sub (pe_ix ix_list (pv 0) pe_int (fun _ _ => rfl)) (pv 3) set_list))
      (pss_one (ps_ret (pe_op op_mod (pe_callTy call_int1 (by rfl) T.int (by decide +kernel) (pa_cons (pv 2) pa_nil)) (pv 1))))) pss_nil)
    (pss_cons (ps_set (i := 4) scDraw.nd rfl (Or.inl rfl) (pe_op op_add (pe_op op_add (pe_op op_mod (pe_callTy call_int1 (by rfl) T.int (by decide +kernel) (pa_cons (pv 2) pa_nil)) pe_int) (pe_op op_mul pe_int (pe_ix ix_list (pv 0) pe_int (fun _ _ => rfl)))) pe_int))
    (pss_one (ps_ret (pe_op op_mod (pe_callTy call_int1 (by rfl) T.int (by decide +kernel) (pa_cons (pe_op op_mod (pe_callTy call_int1 (by rfl) T.int (by decide +kernel) (pa_cons (pe_op op_pow (pv 4) pe_int) pa_nil)) pe_int) pa_nil)) (pv 1)))))))), ?_⟩
  obtain ⟨ne, L, n, h1, h2, h3, h4, h5⟩ := D
  -- the count goes up
  refine ⟨_, rfl, d, _, 1, .int n, rfl, rfl, .inl (.inl h1), rfl, _, _, rfl, rfl, _, rfl, d, _, 1, 1, rfl, rfl, h1, rfl, ?_⟩
  have e1 : (List.set [V.ref c, V.int n] 1 (V.int ((n : Int) + 1))) = [.ref c, .int ((n + 1 : Nat) : Int)] := rfl
  rw [e1]
  have g1 : upd H d (.lst [.ref c, .int ((n + 1 : Nat) : Int)]) d = some (.lst [.ref c, .int ((n + 1 : Nat) : Int)]) := upd_same
  have g2 : upd H d (.lst [.ref c, .int ((n + 1 : Nat) : Int)]) c = some (.lst (L.map V.int)) := by rw [upd_ne ne.symm]; exact h2
  have sH : Same (Hd d c H) (Hd d c (upd H d (.lst [.ref c, .int ((n + 1 : Nat) : Int)]))) := hd_put (.inl rfl) _
  generalize upd H d (.lst [.ref c, .int ((n + 1 : Nat) : Int)]) = H1 at g1 g2 sH
  have D1 : Deck H1 d c (m + 1) := ⟨ne, L, n + 1, g1, g2, h3, h4, Nat.succ_le_succ h5⟩
  -- the cell and its place
  refine ⟨_, rfl, by show 2 ≤ 2 ^ 24; decide, fun p np => ?_⟩
  replace sH := sH.trans (hd_new np (.tup [V.int 0, V.int (-1)]))
  have gt : upd H1 p (.tup [V.int 0, V.int (-1)]) p = some (.tup [V.int 0, V.int (-1)]) := upd_same
  replace g1 := same_new np (.tup [V.int 0, V.int (-1)]) _ _ g1
  replace g2 := same_new np (.tup [V.int 0, V.int (-1)]) _ _ g2
  replace D1 := D1.new np (.tup [V.int 0, V.int (-1)])
  generalize upd H1 p (.tup [V.int 0, V.int (-1)]) = H2 at sH gt g1 g2 D1
  refine ⟨p, _, rfl, .inl (.inl gt), rfl, _, _, rfl, _, _, rfl, rfl, ?_⟩
  refine ⟨_, rfl, d, _, 0, _, rfl, rfl, .inl (.inl g1), rfl, c, _, rfl, .inl (.inl (.inl g2)), _, _, rfl, rfl, _, rfl, ?_⟩
  have hL : ((L.map V.int).length : Int) = (L.length : Int) := by rw [List.length_map]
  refine ite2 (fun c0 => ?_) (fun c0 => ?_)
  · have lp : 0 < L.length := by have := of_decide_eq_true c0; rw [hL] at this; omega
    have k0 : 0 ≤ ((n + 1 : Nat) : Int) % ((L.map V.int).length : Int) := Int.emod_nonneg _ (by rw [hL]; omega)
    have k1 : ((n + 1 : Nat) : Int) % ((L.map V.int).length : Int) < (L.length : Int) := by
      have := Int.emod_lt_of_pos ((n + 1 : Nat) : Int) (b := ((L.map V.int).length : Int)) (by rw [hL]; omega)
      rw [hL] at this ⊢
      exact this
    have hk : ∀ z : Int, (10 : Int) ^ (18 : Int).toNat ≤ z → ∃ j, ixN (L.map V.int).length (((n + 1 : Nat) : Int) % ((L.map V.int).length : Int)) = some j ∧ j < L.length := fun _ _ => ⟨_, by unfold ixN; rw [if_pos k0, if_pos (by omega)], by omega⟩
    obtain ⟨j0, ej⟩ : ∃ j : Nat, ((n + 1 : Nat) : Int) % ((L.map V.int).length : Int) = (j : Int) := ⟨_, (Int.toNat_of_nonneg k0).symm⟩
    have jl : j0 < L.length := by rw [ej] at k1; omega
    obtain ⟨z, hz0⟩ : ∃ z, L[j0]? = some z := ⟨_, List.getElem?_eq_getElem jl⟩
    have hz : 0 ≤ z := h4 _ (List.mem_of_getElem? hz0)
    replace hk := hk z
    refine ⟨_, rfl, d, _, 1, _, rfl, rfl, .inl (.inl g1), rfl, .inl ⟨_, rfl, ?_⟩⟩
    refine ⟨_, rfl, d, _, 0, _, rfl, rfl, .inl (.inl g1), rfl, c, _, rfl, .inl (.inl (.inl g2)), _, _, rfl, rfl, (by rw [hL]; show (0 : Int) < L.length; omega), ?_⟩
    refine ⟨_, rfl, d, _, 0, _, rfl, rfl, .inl (.inl g1), rfl, _, rfl, c, _, _, _, rfl, rfl, .inl (.inl g2), at_of ej (by rw [List.getElem?_map, hz0]; rfl), ?_⟩
    refine ⟨_, rfl, _, _, rfl, rfl, ⟨by decide, by decide, by decide⟩, _, _, rfl, rfl, _, rfl, ite2 (fun c1 => ?_) (fun c1 => ?_)⟩
    · obtain ⟨j, hj, hj2⟩ := hk (of_decide_eq_true c1)
      refine ⟨_, rfl, .inl ⟨_, rfl, _, rfl, _, _, rfl, rfl, ⟨p1, p2⟩, _, rfl, d, _, 0, _, rfl, rfl, .inl (.inl g1), rfl, _, rfl, c, _, _, j, rfl, rfl, g2, hj, ?_⟩⟩
      refine ⟨_, rfl, .inl ⟨_, rfl, _, rfl, _, _, rfl, rfl, p1, ?_⟩⟩
      refine q _ _ (Int.emod_nonneg _ (by omega)) (Int.emod_lt_of_pos _ p1) ⟨ne, L.set j (z / many), n + 1, ?_, ?_, ?_, ?_, Nat.succ_le_succ h5⟩ (sH.trans (hd_put (.inr rfl) _))
      · rw [upd_ne ne]; exact g1
      · rw [upd_same, List.map_set]
      · rw [List.length_set]; exact h3
      · intro x hx
        rcases List.mem_or_eq_of_mem_set hx with hx | hx
        · exact h4 x hx
        · rw [hx]; exact Int.ediv_nonneg hz (by omega)
    · have b1 : 0 ≤ z % 2147483563 := Int.emod_nonneg _ (by decide)
      have b2 : z % 2147483563 < 2147483563 := Int.emod_lt_of_pos _ (by decide)
      refine ⟨_, rfl, .inl ⟨_, rfl, _, _, rfl, rfl, by show (0 : Int) < 2147483563; decide, _, rfl, d, _, 1, _, rfl, rfl, .inl (.inl g1), rfl, _, _, rfl, rfl, .inl ⟨by decide, by decide⟩, _, _, rfl, rfl, _, _, rfl, rfl, ?_⟩⟩
      refine ⟨_, rfl, _, _, rfl, rfl, ⟨by decide, by decide, ?_⟩, .inl ⟨_, rfl, _, _, rfl, rfl, by show (0 : Int) < 2147483629; decide, .inl ⟨_, rfl, _, rfl, _, _, rfl, rfl, p1, ?_⟩⟩⟩
      · show (z % 2147483563 + 8117 * ((n + 1 : Nat) : Int) + 3).natAbs < 2 ^ 64
        omega
      · exact q _ _ (Int.emod_nonneg _ (by omega)) (Int.emod_lt_of_pos _ p1) D1 sH
  · have hz : (0 : Int) ≤ 0 := Int.le_refl 0
    have hk : (10 : Int) ^ (18 : Int).toNat ≤ 0 → ∃ j, ixN (L.map V.int).length (-1) = some j ∧ j < L.length := fun h => absurd h (by decide)
    refine ⟨_, rfl, _, _, rfl, rfl, ⟨by decide, by decide, by decide⟩, _, _, rfl, rfl, _, rfl, ite2 (fun c1 => ?_) (fun c1 => ?_)⟩
    · obtain ⟨j, hj, hj2⟩ := hk (of_decide_eq_true c1)
      refine ⟨_, rfl, .inl ⟨_, rfl, _, rfl, _, _, rfl, rfl, ⟨p1, p2⟩, _, rfl, d, _, 0, _, rfl, rfl, .inl (.inl g1), rfl, _, rfl, c, _, _, j, rfl, rfl, g2, hj, ?_⟩⟩
      refine ⟨_, rfl, .inl ⟨_, rfl, _, rfl, _, _, rfl, rfl, p1, ?_⟩⟩
      refine q _ _ (Int.emod_nonneg _ (by omega)) (Int.emod_lt_of_pos _ p1) ⟨ne, L.set j ((0 : Int) / many), n + 1, ?_, ?_, ?_, ?_, Nat.succ_le_succ h5⟩ (sH.trans (hd_put (.inr rfl) _))
      · rw [upd_ne ne]; exact g1
      · rw [upd_same, List.map_set]
      · rw [List.length_set]; exact h3
      · intro x hx
        rcases List.mem_or_eq_of_mem_set hx with hx | hx
        · exact h4 x hx
        · rw [hx]; exact Int.ediv_nonneg hz (by omega)
    · have b1 : 0 ≤ (0 : Int) % 2147483563 := Int.emod_nonneg _ (by decide)
      have b2 : (0 : Int) % 2147483563 < 2147483563 := Int.emod_lt_of_pos _ (by decide)
      refine ⟨_, rfl, .inl ⟨_, rfl, _, _, rfl, rfl, by show (0 : Int) < 2147483563; decide, _, rfl, d, _, 1, _, rfl, rfl, .inl (.inl g1), rfl, _, _, rfl, rfl, .inl ⟨by decide, by decide⟩, _, _, rfl, rfl, _, _, rfl, rfl, ?_⟩⟩
      refine ⟨_, rfl, _, _, rfl, rfl, ⟨by decide, by decide, ?_⟩, .inl ⟨_, rfl, _, _, rfl, rfl, by show (0 : Int) < 2147483629; decide, .inl ⟨_, rfl, _, rfl, _, _, rfl, rfl, p1, ?_⟩⟩⟩
      · show ((0 : Int) % 2147483563 + 8117 * ((n + 1 : Nat) : Int) + 3).natAbs < 2 ^ 64
        omega
      · exact q _ _ (Int.emod_nonneg _ (by omega)) (Int.emod_lt_of_pos _ p1) D1 sH
end
section
variable {P : Program} {w : World} {K : PySem.W.Frag} {mg : Str → Option Value} {base : Heap}
theorem scOne : FnScope ["_law_deck_here", "_law_items"] ["_law_deck_here", "_law_items"] (defScope sOne) := ⟨rfl, rfl, rfl, by decide +kernel, rfl, by decide +kernel, by decide +kernel⟩
theorem ok_one {f fD : Addr} {fd fdD : FuncData} (F : Fun K "_law_one" "_law_one" sOne f fd) (T : TxC mg) (W : Dfn P w K mg base "_law_draw" 1 fD fdD ["_law_deck_here", "_law_many"] spDraw) :
    FnOk P w K mg base CX0 2 f fd ["_law_deck_here", "_law_items"] spOne := by
  refine F.ok scOne (fun vs H Q E h => ?_) (fun cdv A outer s H vs Q E hr h => ?_)
  · obtain ⟨d, c, a, xs, m, rfl, _⟩ := h
    rfl
  obtain ⟨d, c, a, xs, m, rfl, D, hm, ha, x0, x1, q⟩ := h
  refine ⟨_, pss_one (ps_ret (pe_ix ix_list (pv 1) (pe_call W.ok hr rfl W.m W.kp W.b .nil pass0 (pa_cons (pv 0) (pa_cons (pe_callB call_len_seq (by rfl) T.len PySem.boot_len (pa_cons (pv 1) pa_nil)) pa_nil))) (fun _ _ => rfl))), ?_⟩
  refine ⟨_, rfl, _, rfl, _, rfl, a, xs, rfl, .inl (.inl (.inl (hd_sub _ _ ha))), d, c, xs.length, m, rfl, D, hm, by omega, by omega, fun r G r0 r1 D2 s2 => ?_⟩
  obtain ⟨j, rfl⟩ : ∃ j : Nat, r = (j : Int) := ⟨r.toNat, by omega⟩
  have jl : j < xs.length := by omega
  obtain ⟨v, hv⟩ : ∃ v, xs[j]? = some v := ⟨_, List.getElem?_eq_getElem jl⟩
  exact ⟨a, xs, _, v, rfl, rfl, .inl (.inl (hd_sub _ _ (s2 _ _ ha))), atI_nat hv, q v G (List.mem_of_getElem? hv) D2 s2⟩

theorem scMach : FnScope ["_law_deck_here", "_law_letters", "_law_many", "_law_none", "_law_rows", "_law_k", "_law_row", "_law_j"] ["_law_deck_here", "_law_letters", "_law_many"] (defScope sMach) := ⟨rfl, rfl, rfl, by decide +kernel, rfl, by decide +kernel, by decide +kernel⟩
theorem ok_mach {f fD fO : Addr} {fd fdD fdO : FuncData} (F : Fun K "_law_machine" "_law_machine" sMach f fd) (T : TxC mg) (W : Dfn P w K mg base "_law_draw" 1 fD fdD ["_law_deck_here", "_law_many"] spDraw)
    (O : Dfn P w K mg base "_law_one" 2 fO fdO ["_law_deck_here", "_law_items"] spOne) : FnOk P w K mg base CX0 3 f fd ["_law_deck_here", "_law_letters", "_law_many"] (spMach K) := by
  refine F.ok scMach (fun vs H Q E h => ?_) (fun cdv A outer s H vs Q E hr h => ?_)
  · obtain ⟨d, c, l, n, m, rfl, _⟩ := h
    rfl
  obtain ⟨d, c, l, n, m, rfl, D, hm, l0, l1, n0, n1, q⟩ := h
  have hr1 : Room 1 _ := hr.mono (by decide)
  refine ⟨_, pss_cons (ps_set (i := 3) scMach.nd rfl (Or.inr rfl) (pe_call O.ok hr rfl O.m O.kp O.b .nil pass0 (pa_cons (pv 0) (pa_cons (pe_lst (pa_cons pe_int (pa_cons pe_int (pa_cons pe_int pa_nil)))) pa_nil))))
    (pss_cons (ps_set (i := 4) scMach.nd rfl (Or.inl rfl) (pe_lst pa_nil))
    (pss_cons (ps_for PassesOwn.never rfl (pi_range1 rfl T.range (pa_cons (pv 2) pa_nil)) (pg_name (i := 5) scMach.nd rfl (Or.inl rfl))
      (pss_cons (ps_setLc (i := 6) (own := [("_law_j", 7)]) (g := gName 7) (tt := tYes) rfl scMach.nd rfl rfl (sw_true rfl rfl rfl (by decide +kernel)) (pi_range1 rfl T.range (pa_cons (pv 1) pa_nil))
        (blkOk_by (own := [("_law_j", 7)]) (N := ["_law_deck_here", "_law_letters", "_law_many", "_law_none", "_law_rows", "_law_k", "_law_row", "_law_j"]) (sc := defScope sMach) (by decide +kernel)) (fun _ _ _ _ _ => pg_name (i := 7) scMach.nd rfl (Or.inl rfl)) (fun _ _ _ _ _ => pts_nil)
        (fun _ _ _ _ _ => pe_ifExp (pt_cmpR op_gt (pe_call W.ok hr1 rfl W.m W.kp W.b .nil pass0 (pa_cons (pv 0) (pa_cons (pv 3) pa_nil))) pe_int (nomark _)) (pe_call W.ok hr1 rfl W.m W.kp W.b .nil pass0 (pa_cons (pv 0) (pa_cons (pv 2) pa_nil))) pe_non))
      (pss_one (ps_expr (pe_bm PySem.F.plainAttrs_list PySem.F.slot_list_append PySem.F.type_list_append mt_append (pv 4) (pa_cons (pe_callTy call_tuple_of (by rfl) T.tuple (by decide +kernel) (pa_cons (pv 6) pa_nil)) pa_nil))))))
    (pss_one (ps_ret (pe_tup (pa_cons (pv 1) (pa_cons (pe_callTy call_tuple_of (by rfl) T.tuple (by decide +kernel) (pa_cons (pv 4) pa_nil)) (pa_cons (pe_callTy call_tuple_of (by rfl) T.tuple (by decide +kernel) (pa_cons
      (pe_lc (own := [("_law_k", 5)]) (g := gName 5) (tt := tYes) rfl scMach.nd (pi_range1 rfl T.range (pa_cons (pv 2) pa_nil))
        (blkOk_by (own := [("_law_k", 5)]) (N := ["_law_deck_here", "_law_letters", "_law_many", "_law_none", "_law_rows", "_law_k", "_law_row", "_law_j"]) (sc := defScope sMach) (by decide +kernel)) (fun _ _ _ _ _ => pg_name (i := 5) scMach.nd rfl (Or.inl rfl)) (fun _ _ _ _ _ => pts_nil)
        (fun _ _ _ _ _ => pe_cmp (pc_gt (pe_call W.ok hr1 rfl W.m W.kp W.b .nil pass0 (pa_cons (pv 0) (pa_cons pe_int pa_nil))) pe_int) rfl)) pa_nil)) pa_nil)))))))), ?_⟩
  refine ⟨_, rfl, by show 3 ≤ 2 ^ 24; decide, fun a na => ?_⟩
  have Da := D.new na (.lst [V.int 2, V.int 4, V.int 9])
  have ha : upd H a (.lst [V.int 2, V.int 4, V.int 9]) a = some (.lst [V.int 2, V.int 4, V.int 9]) := upd_same
  have sa : Same (Hd d c H) (Hd d c (upd H a (.lst [V.int 2, V.int 4, V.int 9]))) := hd_new na _
  have fa := D.free na
  refine ⟨d, c, a, _, m, rfl, Da, by omega, hd_of ha fa.1 fa.2, by decide, by decide, fun v G hv D2 s2 => ?_⟩
  obtain ⟨z, rfl, z0, z1⟩ : ∃ z : Int, v = .int z ∧ 0 < z ∧ z < 10 := by
    rcases List.mem_cons.mp hv with rfl | hv
    · exact ⟨2, rfl, by decide, by decide⟩
    · rcases List.mem_cons.mp hv with rfl | hv
      · exact ⟨4, rfl, by decide, by decide⟩
      · exact ⟨9, List.mem_singleton.mp hv, by decide, by decide⟩
  replace s2 := sa.trans s2
  refine ⟨by show 0 ≤ 2 ^ 24; decide, fun R nR => ?_⟩
  have D3 := D2.new nR (.lst [])
  have s3 : Same (Hd d c H) (Hd d c (upd G R (.lst []))) := s2.trans (hd_new nR _)
  have fR := D2.free nR
  have gR : Hd d c (upd G R (.lst [])) R = some (.lst []) := hd_of upd_same fR.1 fR.2
  generalize upd G R (.lst []) = G1 at D3 s3 gR
  refine ⟨_, rfl, n, rfl, by omega, by omega, ?_⟩
  have nHR : Hd d c H R = none := s2.free (hd_none nR)
  refine for_range (lo := 0) (n := n) (fun i σ G => ∃ (k5 k6 : Option V) (us : List V) (rs : List PyData), σ = [some (.ref d), some (.int l), some (.int n), some (.int z), some (.ref R), k5, k6, none] ∧ Deck G d c (m + 1 + 8 * i) ∧
      Same (Hd d c H) (Hd d c G) ∧ Hd d c G R = some (.lst us) ∧ DtAll K (Hr R (Hd d c G)) us rs ∧ rs.length = i ∧ ∀ r ∈ rs, IsRow l n r)
    ⟨none, none, [], [], rfl, D3, s3, gR, .nil, rfl, fun r hr => nomatch hr⟩ ?_ ?_
  · rintro i σ G4 hi ⟨k5, k6, us, rs, rfl, D4, s4, g4, d4, l4, r4⟩
    refine ⟨_, rfl, l, rfl, by omega, by omega, fun L nL => lc_range (lo := 0) (n := l) (fun j G5 => Deck G5 d c (m + 1 + 8 * i + 2 * j) ∧ Same (Hd d c G4) (Hd d c G5) ∧ ∃ (ys : List V) (xs : List PyData), G5 L = some (.lst ys) ∧ DtAll K emp ys xs ∧ xs.length = j ∧
        ∀ x ∈ xs, x = .none ∨ ∃ i : Int, x = .int i ∧ 0 ≤ i ∧ i < n) ⟨D4.new nL _, hd_new nL _, [], [], upd_same, .nil, rfl, fun x hx => nomatch hx⟩ ?_ ?_⟩
    · rintro j G5 hj ⟨D5, s5, ys, xs, y1, y2, y3, y4⟩
      have fL := D4.free nL
      have nHL : Hd d c G4 L = none := hd_none nL
      -- the list grows by a leaf
      have grow : ∀ (G6 : Hp) (k : Nat) (v : V) (x : PyData), k ≤ m + 1 + 8 * i + 2 * (j + 1) → Deck G6 d c k → Same (Hd d c G5) (Hd d c G6) → Dt K emp v x → (x = .none ∨ ∃ i : Int, x = .int i ∧ 0 ≤ i ∧ i < n) →
          ∃ acc, G6 L = some (.lst acc) ∧ acc.length < sizeLine ∧ Deck (upd G6 L (.lst (acc ++ [v]))) d c (m + 1 + 8 * i + 2 * (j + 1)) ∧ Same (Hd d c G4) (Hd d c (upd G6 L (.lst (acc ++ [v])))) ∧
            ∃ (ys : List V) (xs : List PyData), upd G6 L (.lst (acc ++ [v])) L = some (.lst ys) ∧ DtAll K emp ys xs ∧ xs.length = j + 1 ∧ ∀ x ∈ xs, x = .none ∨ ∃ i : Int, x = .int i ∧ 0 ≤ i ∧ i < n := by
        intro G6 k v x hk D6 s6 hv hx
        refine ⟨ys, hd_sub _ _ (s6 _ _ (hd_of y1 fL.1 fL.2)), ?_, (D6.mono hk).put fL.1 fL.2 _, hd_grow nHL (s5.trans s6) _, ys ++ [v], xs ++ [x], upd_same, y2.append (.cons hv .nil), by rw [List.length_append, y3]; rfl, ?_⟩
        · rw [y2.length, y3]
          show j < 2 ^ 24
          omega
        · intro y hy
          rcases List.mem_append.mp hy with hy | hy
          · exact y4 y hy
          · rw [List.mem_singleton.mp hy]; exact hx
      refine ⟨rfl, _, rfl, _, rfl, d, c, z, _, rfl, D5, by omega, z0, by omega, fun r G6 r0 r1 D6 s6 => ⟨_, _, rfl, rfl, _, rfl, ite2 (fun c1 => ?_) (fun c1 => ?_)⟩⟩
      · refine ⟨_, rfl, _, rfl, d, c, n, _, rfl, D6, by omega, by omega, by omega, fun r2 G7 r3 r4 D7 s7 => ?_⟩
        exact grow G7 _ _ _ (by omega) D7 (s6.trans s7) (.int r2) (.inr ⟨r2, rfl, r3, r4⟩)
      · exact grow G6 _ _ _ (by omega) D6 s6 .non (.inl rfl)
    · rintro G5 ⟨D5, s5, ys, xs, y1, y2, y3, y4⟩
      refine ⟨_, rfl, .inl ⟨rfl, _, .inl (.inl (hd_sub _ _ (s5 _ _ g4)))⟩, _, rfl, L, ys, rfl, .inl ⟨.inl (.inl y1), fun t nt => ?_⟩⟩
      have tR : t ≠ R := fun e => by rw [e, hd_sub _ _ (s5 _ _ g4)] at nt; cases nt
      have fT := D5.free nt
      have fRr := hd_some g4
      refine ⟨R, us, .ref t, rfl, rfl, same_new nt _ _ _ (hd_sub _ _ (s5 _ _ g4)), by rw [d4.length, l4]; show i < 2 ^ 24; omega, _, _, us ++ [.ref t], rs ++ [.tuple xs], rfl, ?_, ?_, hd_of upd_same fRr.2.1 fRr.2.2, ?_, ?_, ?_⟩
      · exact ((D5.mono (by omega)).new nt _).put fRr.2.1 fRr.2.2 _
      · exact hd_grow nHR (s4.trans (s5.trans (hd_new nt _))) _
      · refine (d4.same ((hr_same (s5.trans (hd_new nt _))).trans hr_put)).append (.cons (.tup (hr_of (hd_of (by rw [upd_ne tR]; exact upd_same) fT.1 fT.2) tR) (y2.same emp_same)) .nil)
      · rw [List.length_append, l4]; rfl
      · intro r hr'
        rcases List.mem_append.mp hr' with hr' | hr'
        · exact r4 r hr'
        · rw [List.mem_singleton.mp hr']; exact ⟨xs, rfl, y3, y4⟩
  · rintro σ G4 ⟨k5, k6, us, rs, rfl, D4, s4, g4, d4, l4, r4⟩
    refine ⟨_, rfl, _, rfl, R, us, rfl, .inl ⟨.inl (.inl (hd_sub _ _ g4)), fun t nt => ?_⟩⟩
    have fT := D4.free nt
    have D5 := D4.new nt (.tup us)
    have s5 := s4.trans (hd_new nt (.tup us))
    have g5 : Hd d c (upd G4 t (.tup us)) t = some (.tup us) := hd_of upd_same fT.1 fT.2
    have d5 : DtAll K (Hd d c (upd G4 t (.tup us))) us rs := (d4.same hr_sub).same (hd_new nt _)
    generalize upd G4 t (.tup us) = G5 at D5 s5 g5 d5
    refine ⟨_, rfl, n, rfl, by omega, by omega, fun L nL => lc_range (lo := 0) (n := n) (fun j G6 => Deck G6 d c (m + 1 + 8 * n + j) ∧ Same (Hd d c G5) (Hd d c G6) ∧ ∃ bs : List Bool, G6 L = some (.lst (bs.map V.bl)) ∧ bs.length = j)
      ⟨D5.new nL _, hd_new nL _, [], upd_same, rfl⟩ ?_ ?_⟩
    · rintro j G6 hj ⟨D6, s6, bs, y1, y2⟩
      have fL := D5.free nL
      refine ⟨rfl, _, rfl, d, c, 3, _, rfl, D6, by omega, by decide, by decide, fun r G7 r0 r1 D7 s7 => ⟨_, _, rfl, rfl, _, hd_sub _ _ (s7 _ _ (hd_of y1 fL.1 fL.2)), ?_, D7.put fL.1 fL.2 _, hd_grow (hd_none nL) (s6.trans s7) _, bs ++ [decide (r > 0)], ?_, ?_⟩⟩
      · rw [List.length_map, y2]
        show j < 2 ^ 24
        omega
      · rw [upd_same, List.map_append]; rfl
      · rw [List.length_append, y2]; rfl
    · rintro G6 ⟨D6, s6, bs, y1, y2⟩
      refine ⟨L, _, rfl, .inl ⟨.inl (.inl y1), fun e nE => ?_⟩⟩
      have fE := D6.free nE
      refine ⟨by show 3 ≤ 2 ^ 24; decide, fun p np => ?_⟩
      have D7 := D6.new nE (.tup (bs.map V.bl))
      have fP := D7.free np
      refine q p (.tuple [.int l, .tuple rs, .tuple (bs.map .bool)]) _ ⟨rs, bs, rfl, l4, y2, r4⟩ ?_ ((D7.new np _).mono (by omega)) (s5.trans (s6.trans ((hd_new nE _).trans (hd_new np _))))
      have st : Same (Hd d c G6) (Hd d c (upd (upd G6 e (.tup (bs.map V.bl))) p (.tup [.int l, .ref t, .ref e]))) := (hd_new nE _).trans (hd_new np _)
      refine .tup (hd_of upd_same fP.1 fP.2) (.cons (.int _) (.cons (.tup (st _ _ (s6 _ _ g5)) (d5.same (s6.trans st))) (.cons (.tup (hd_of ?_ fE.1 fE.2) (bools_dt bs)) .nil)))
      exact same_new np _ _ _ upd_same
end
end K22
namespace K22
open PySem L2 GL KC
abbrev sIs : Stmt := top 2
abbrev sWord : Stmt := top 8
abbrev sWalked : Stmt := top 9
abbrev sRead : Stmt := top 10
abbrev sRen : Stmt := top 11
abbrev sOth : Stmt := top 12
abbrev sLaw : Stmt := top 13
/-! ### machines and words, plainly -/
abbrev Rows := List (List (Option Nat))
def stepM (rows : Rows) (s j : Nat) : Option Nat := (rows.getD s []).getD j none
def run (rows : Rows) : Nat → List Nat → Option Nat
  | s, [] => some s
  | s, j :: w => match stepM rows s j with
    | none => none
    | some t => run rows t w
def isOf (rows : Rows) (ends : List Bool) (w : List Nat) : Bool := match run rows 0 w with
  | none => false
  | some s => ends.getD s false
theorem run_append (rows : Rows) : ∀ (w : List Nat) (s : Nat) (u : List Nat), run rows s (w ++ u) = (run rows s w).bind fun t => run rows t u
  | [], s, u => rfl
  | j :: w, s, u => by
    show (match stepM rows s j with | none => none | some t => run rows t (w ++ u)) = (match stepM rows s j with | none => none | some t => run rows t w).bind _
    cases stepM rows s j with
    | none => rfl
    | some t => exact run_append rows w t u
/-- n rows of l items each, below n; n ends -/
structure WF (l n : Nat) (rows : Rows) (ends : List Bool) : Prop where
  l1 : 1 ≤ l
  l4 : l ≤ 4
  n1 : 1 ≤ n
  n4 : n ≤ 400
  rl : rows.length = n
  el : ends.length = n
  rw : ∀ r ∈ rows, r.length = l ∧ ∀ k, some k ∈ r → k < n
theorem WF.row {l n : Nat} {rows : Rows} {ends : List Bool} (W : WF l n rows ends) {s : Nat} (hs : s < n) : ∃ r, rows[s]? = some r ∧ r.length = l ∧ (∀ k, some k ∈ r → k < n) ∧ ∀ j, stepM rows s j = r.getD j none := by
  have hl : s < rows.length := by rw [W.rl]; exact hs
  refine ⟨rows[s], List.getElem?_eq_getElem hl, (W.rw _ (List.getElem_mem hl)).1, (W.rw _ (List.getElem_mem hl)).2, fun j => ?_⟩
  simp [stepM, List.getD_eq_getElem?_getD, List.getElem?_eq_getElem hl]
theorem WF.step_lt {l n : Nat} {rows : Rows} {ends : List Bool} (W : WF l n rows ends) {s j t : Nat} (hs : s < n) (h : stepM rows s j = some t) : t < n := by
  obtain ⟨r, _, _, r3, r4⟩ := W.row hs
  rw [r4, List.getD_eq_getElem?_getD] at h
  cases e : r[j]? with
  | none => rw [e] at h; cases h
  | some o =>
    rw [e] at h
    have h' : o = some t := h
    subst h'
    exact r3 t (List.mem_of_getElem? e)
def oV : Option Nat → V
  | none => .non
  | some k => .int k
structure MachAt (H : Hp) (p : Addr) (l : Nat) (rows : Rows) (ends : List Bool) : Prop where
  ex : ∃ (pr pe : Addr) (rvs : List V), H p = some (.tup [.int l, .ref pr, .ref pe]) ∧ H pr = some (.tup rvs) ∧ H pe = some (.tup (ends.map V.bl)) ∧ rvs.length = rows.length ∧
    ∀ (i : Nat) (r : List (Option Nat)), rows[i]? = some r → ∃ t : Addr, rvs[i]? = some (V.ref t) ∧ H t = some (.tup (r.map oV))
theorem MachAt.same {H H' : Hp} {p : Addr} {l : Nat} {rows : Rows} {ends : List Bool} (M : MachAt H p l rows ends) (s : Same H H') : MachAt H' p l rows ends := by
  obtain ⟨pr, pe, rvs, h1, h2, h3, h4, h5⟩ := M.ex
  exact ⟨pr, pe, rvs, s _ _ h1, s _ _ h2, s _ _ h3, h4, fun i r e => let ⟨t, a, b⟩ := h5 i r e; ⟨t, a, s _ _ b⟩⟩
/-- a letter, a word -/
def sg (j : Nat) : Str := ⟨#[97 + j]⟩
def wS (w : List Nat) : Str := ⟨(w.map (97 + ·)).toArray⟩
theorem wS_nil : wS [] = ("" : Str) := by decide +kernel
theorem wS_len (w : List Nat) : (wS w).length = w.length := by
  show ((w.map (97 + ·)).toArray).size = _
  simp
theorem wS_size (w : List Nat) : (wS w).cps.size = w.length := wS_len w
theorem wS_at {w : List Nat} {i c : Nat} (h : (wS w).cps[i]? = some c) : ∃ j, w[i]? = some j ∧ c = 97 + j := by
  have h' : (w.map (97 + ·))[i]? = some c := by simpa [wS] using h
  rw [List.getElem?_map] at h'
  cases e : w[i]? with
  | none => rw [e] at h'; cases h'
  | some j => rw [e] at h'; exact ⟨j, rfl, (Option.some.inj h').symm⟩
theorem wS_app (w u : List Nat) : wS w ++ wS u = wS (w ++ u) := by
  have e : ∀ a b : Str, a ++ b = ⟨a.cps ++ b.cps⟩ := fun _ _ => rfl
  rw [e]
  simp [wS]
theorem sg_wS (j : Nat) : sg j = wS [j] := rfl
/-- the place of a letter -/
theorem occ_at : ∀ j, j < 4 → Builtin.Str.occurrences ("abcd" : Str) (sg j) 0 ("abcd" : Str).length 1 = [j] := by
  intro j hj
  rcases j with _ | _ | _ | _ | j
  · decide +kernel
  · decide +kernel
  · decide +kernel
  · decide +kernel
  · omega
structure Txt (mg : Str → Option Value) : Prop where
  c : TxC mg
  repr : mg "repr" = none
  list : mg "list" = none
  dict : mg "dict" = none
  let' : ∃ t, mg "LETTERS" = some (.str "abcd" t)

def spIs : Sp := fun vs H Q _ => ∃ (p : Addr) (l n : Nat) (rows : Rows) (ends : List Bool) (w : List Nat), vs = [.ref p, .str (wS w)] ∧ MachAt H p l rows ends ∧ WF l n rows ends ∧ (∀ j ∈ w, j < l) ∧ ∀ G, Same H G → Q (.bl (isOf rows ends w)) G

section
variable {P : Program} {w : World} {K : PySem.W.Frag} {mg : Str → Option Value} {base : Heap}
theorem cut2 (a b c : V) : cutV [a, b, c] (some 1) none = [b, c] := rfl
theorem scI : FnScope ["machine", "word", "rows", "ends", "state", "letter"] ["machine", "word"] (defScope sIs) := ⟨rfl, rfl, rfl, by decide +kernel, rfl, by decide +kernel, by decide +kernel⟩
theorem ok_is {f : Addr} {fd : FuncData} (F : Fun K "is_of" "is_of" sIs f fd) (T : Txt mg) : FnOk P w K mg base CX0 1 f fd ["machine", "word"] spIs := by
  refine F.ok scI (fun vs H Q E h => ?_) (fun cdv A outer s H vs Q E hr h => ?_)
  · obtain ⟨p, l, n, rows, ends, w, rfl, _⟩ := h
    rfl
  obtain ⟨p, l, n, rows, ends, wd, rfl, M, W, hw, q⟩ := h
  obtain ⟨tk, ml⟩ := T.let'
  refine ⟨_, pss_cons (ps_asg (pe_slice sl_tupD (pv 0) (po_some pe_int) po_none) (pg_tup (by rfl) (pgs_cons (pg_name (i := 2) scI.nd rfl (Or.inl rfl)) (pgs_cons (pg_name (i := 3) scI.nd rfl (Or.inl rfl)) pgs_nil))))
    (pss_cons (ps_set (i := 4) scI.nd rfl (Or.inl rfl) pe_int)
    (pss_cons (ps_for PassesOwn.never rfl (pi_str (pv 1)) (pg_name (i := 5) scI.nd rfl (Or.inl rfl))
      (pss_cons (ps_set (i := 4) scI.nd rfl (Or.inl rfl) (pe_ix ix_tup (pe_ix ix_tup (pv 2) (pv 4) (fun _ _ => rfl)) (pe_bm PySem.F.plainAttrs_str PySem.F.slot_str_index PySem.F.type_str_index mt_sindex (pe_glob (v := .str "abcd") rfl ml ⟨_, rfl⟩) (pa_cons (pv 5) pa_nil)) (fun _ _ => rfl)))
      (pss_one (ps_if (pt_cmpR op_isN (pv 4) pe_non (nomark _)) (pss_one (ps_ret pe_bl)) pss_nil))))
    (pss_one (ps_ret (pe_ix ix_tup (pv 3) (pv 4) (fun _ _ => rfl)))))), ?_⟩
  obtain ⟨pr, pe, rvs, h1, h2, h3, h4, h5⟩ := M.ex
  refine ⟨_, rfl, _, rfl, p, _, rfl, h1, fun b G s1 g1 => ?_⟩
  rw [cut2] at g1
  refine ⟨b, _, rfl, .inl (.inl g1), rfl, _, _, rfl, _, _, rfl, rfl, ?_⟩
  refine ⟨_, rfl, _, rfl, for_it (walk_str (z := wS wd)) (fun i σ G' => ∃ (st : Nat) (k5 : Option V), σ = [some (.ref p), some (.str (wS wd)), some (.ref pr), some (.ref pe), some (.int st), k5] ∧ Same G G' ∧ st < n ∧ run rows 0 (wd.take i) = some st)
    ⟨0, none, rfl, Same.refl G, W.n1, rfl⟩ (fun _ _ _ _ _ => True.intro) ?_ ?_⟩
  · rintro i x σ G2 H' hi ⟨st, k5, rfl, s2, sl, r1⟩ ⟨rfl, c, hc, rfl⟩
    obtain ⟨j, j1, rfl⟩ := wS_at hc
    have jl := hw j (List.mem_of_getElem? j1)
    obtain ⟨r, w1, w2, w3, w4⟩ := W.row sl
    obtain ⟨t, t1, t2⟩ := h5 st r w1
    have jr : j < r.length := by rw [w2]; exact jl
    have run1 : run rows 0 (wd.take (i + 1)) = stepM rows st j := by
      rw [List.take_add_one, j1, run_append, r1]
      show (match stepM rows st j with | none => none | some t => run rows t []) = _
      cases stepM rows st j <;> rfl
    refine ⟨_, rfl, _, rfl, pr, _, _, .ref t, rfl, rfl, .inl (.inl (s2 _ _ (s1 _ _ h2))), atI_nat t1, ?_⟩
    refine ⟨rfl, _, rfl, _, sg j, j, [], rfl, rfl, occ_at j (Nat.lt_of_lt_of_le jl W.l4), t, _, _, oV (r.getD j none), rfl, rfl, .inl (.inl (s2 _ _ (s1 _ _ t2))), atI_nat ?_, ?_⟩
    · rw [List.getElem?_map, List.getD_eq_getElem?_getD, List.getElem?_eq_getElem jr]; rfl
    rw [← w4 j]
    refine ⟨_, rfl, rfl, _, rfl, ?_⟩
    cases e : stepM rows st j with
    | none =>
      have no : isOf rows ends wd = false := by
        unfold isOf
        have e1 : run rows 0 wd = none := by
          rw [← List.take_append_drop (i + 1) wd, run_append, run1, e]; rfl
        rw [e1]
      have k2 := q H' (s1.trans s2)
      rw [no] at k2
      exact k2
    | some t' =>
      exact ⟨t', _, rfl, s2, W.step_lt sl e, by rw [run1, e]⟩
  · rintro σ G2 ⟨st, k5, rfl, s2, sl, r1⟩
    rw [wS_size, List.take_length] at r1
    have el : st < ends.length := by rw [W.el]; exact sl
    refine ⟨_, rfl, _, rfl, pe, _, _, .bl (ends.getD st false), rfl, rfl, .inl (.inl (s2 _ _ (s1 _ _ h3))), atI_nat ?_, ?_⟩
    · rw [List.getElem?_map, List.getD_eq_getElem?_getD, List.getElem?_eq_getElem el]; rfl
    · have k2 := q G2 (s1.trans s2)
      unfold isOf at k2
      rw [r1] at k2
      exact k2
end
end K22
namespace K22
open PySem L2 GL KC
theorem join_sg : ∀ w : List Nat, Txt.join ("" : Str) (w.map sg) = wS w := by
  intro w
  rw [TL.join_eq]
  have e0 : ∀ a : Str, a ++ ("" : Str) = a := by
    intro a
    show (⟨a.cps ++ #[]⟩ : Str) = a
    simp
  induction w with
  | nil => exact wS_nil.symm
  | cons j w ih =>
    cases w with
    | nil => rfl
    | cons k w =>
      show sg j ++ ("" : Str) ++ Str.join ("" : Str) ((k :: w).map sg) = _
      rw [ih, e0, sg_wS, wS_app]
      rfl
theorem cut_abcd : ∀ l : Nat, 1 ≤ l → l ≤ 4 → cutS ("abcd" : Str) none (some (l : Int)) = wS (List.range l) := by
  intro l h1 h4
  rcases l with _ | _ | _ | _ | _ | l
  · omega
  · decide +kernel
  · decide +kernel
  · decide +kernel
  · decide +kernel
  · omega
def spOneS : Sp := fun vs H Q _ => ∃ (d c : Addr) (u : List Nat) (m : Nat), vs = [.ref d, .str (wS u)] ∧ Deck H d c m ∧ m ≤ 1000000000 ∧ 0 < u.length ∧ u.length ≤ 1000 ∧
  ∀ (j : Nat) (G : Hp), j ∈ u → Deck G d c (m + 1) → Same (Hd d c H) (Hd d c G) → Q (.str (sg j)) G
def spWord : Sp := fun vs H Q _ => ∃ (d c : Addr) (l most m : Nat), vs = [.ref d, .int l, .int most] ∧ Deck H d c m ∧ m ≤ 900000000 ∧ 1 ≤ l ∧ l ≤ 4 ∧ most ≤ 1000 ∧
  ∀ (w : List Nat) (G : Hp), (∀ j ∈ w, j < l) → w.length ≤ most → Deck G d c (m + 1002) → Same (Hd d c H) (Hd d c G) → Q (.str (wS w)) G
/-- the states' list -/
def oL : Option Nat → List V
  | none => []
  | some s => [.int s]
section
variable {P : Program} {w : World} {K : PySem.W.Frag} {mg : Str → Option Value} {base : Heap}
theorem ok_oneS {f fD : Addr} {fd fdD : FuncData} (F : Fun K "_law_one" "_law_one" sOne f fd) (T : Txt mg) (W : Dfn P w K mg base "_law_draw" 1 fD fdD ["_law_deck_here", "_law_many"] spDraw) :
    FnOk P w K mg base CX0 2 f fd ["_law_deck_here", "_law_items"] spOneS := by
  refine F.ok scOne (fun vs H Q E h => ?_) (fun cdv A outer s H vs Q E hr h => ?_)
  · obtain ⟨d, c, u, m, rfl, _⟩ := h
    rfl
  obtain ⟨d, c, u, m, rfl, D, hm, x0, x1, q⟩ := h
  have z : (wS u).length ≤ 2 ^ 24 := by rw [wS_len]; omega
  refine ⟨_, pss_one (ps_ret (pe_ix ix_str (pv 1) (pe_call W.ok hr rfl W.m W.kp W.b .nil pass0 (pa_cons (pv 0) (pa_cons (pe_callB call_len_str (by rfl) T.c.len PySem.boot_len (pa_cons (pv 1) pa_nil)) pa_nil))) (fun _ _ => rfl))), ?_⟩
  refine ⟨_, rfl, _, rfl, _, rfl, _, rfl, z, d, c, ((wS u).length : Int), m, rfl, D, hm, by rw [wS_len]; omega, by rw [wS_len]; omega, fun r G r0 r1 D2 s2 => ?_⟩
  rw [wS_len] at r1
  obtain ⟨j, rfl⟩ : ∃ j : Nat, r = (j : Int) := ⟨r.toNat, by omega⟩
  have jl : j < u.length := by omega
  obtain ⟨k, hk⟩ : ∃ k, u[j]? = some k := ⟨_, List.getElem?_eq_getElem jl⟩
  refine ⟨_, _, 97 + k, rfl, rfl, z, atI_nat ?_, q k G (List.mem_of_getElem? hk) D2 s2⟩
  show ((u.map (97 + ·)).toArray).toList[j]? = _
  simp [hk]
theorem scWd : FnScope ["_law_deck_here", "_law_letters", "_law_most", "_law_k"] ["_law_deck_here", "_law_letters", "_law_most"] (defScope sWord) := ⟨rfl, rfl, rfl, by decide +kernel, rfl, by decide +kernel, by decide +kernel⟩
theorem ok_word {f fD fO : Addr} {fd fdD fdO : FuncData} (F : Fun K "_law_word" "_law_word" sWord f fd) (T : Txt mg) (W : Dfn P w K mg base "_law_draw" 1 fD fdD ["_law_deck_here", "_law_many"] spDraw)
    (O : Dfn P w K mg base "_law_one" 2 fO fdO ["_law_deck_here", "_law_items"] spOneS) : FnOk P w K mg base CX0 3 f fd ["_law_deck_here", "_law_letters", "_law_most"] spWord := by
  refine F.ok scWd (fun vs H Q E h => ?_) (fun cdv A outer s H vs Q E hr h => ?_)
  · obtain ⟨d, c, l, most, m, rfl, _⟩ := h
    rfl
  obtain ⟨d, c, l, most, m, rfl, D, hm, l1, l4, hmo, q⟩ := h
  have hr1 : Room 1 _ := hr.mono (by decide)
  refine ⟨_, pss_one (ps_ret (pe_join pe_str (pe_lc (own := [("_law_k", 3)]) (g := gName 3) (tt := tYes) rfl scWd.nd (pi_range1 rfl T.c.range (pa_cons (pe_call W.ok hr1 rfl W.m W.kp W.b .nil pass0 (pa_cons (pv 0) (pa_cons (pe_op op_add (pv 2) pe_int) pa_nil))) pa_nil))
      (blkOk_by (own := [("_law_k", 3)]) (N := ["_law_deck_here", "_law_letters", "_law_most", "_law_k"]) (sc := defScope sWord) (by decide +kernel)) (fun _ _ _ _ _ => pg_name (i := 3) scWd.nd rfl (Or.inl rfl)) (fun _ _ _ _ _ => pts_nil)
      (fun _ _ _ _ _ => pe_call O.ok hr rfl O.m O.kp O.b .nil pass0 (pa_cons (pv 0) (pa_cons (pe_slice sl_str pe_str po_none (po_some (pv 1))) pa_nil)))))), ?_⟩
  refine ⟨⟨_, rfl⟩, _, rfl, _, rfl, _, _, rfl, rfl, d, c, (most : Int) + 1, m, rfl, D, by omega, by omega, by omega, fun r G r0 r1 D1 s1 => ?_⟩
  obtain ⟨n, rfl⟩ : ∃ n : Nat, r = (n : Int) := ⟨r.toNat, by omega⟩
  refine ⟨n, rfl, by omega, by omega, fun L nL => lc_range (lo := 0) (n := n) (fun i G' => Deck G' d c (m + 1 + i) ∧ Same (Hd d c G) (Hd d c G') ∧ ∃ u : List Nat, G' L = some (.lst (u.map fun j => V.str (sg j))) ∧ u.length = i ∧ ∀ j ∈ u, j < l)
    ⟨D1.new nL _, hd_new nL _, [], upd_same, rfl, fun j h => nomatch h⟩ ?_ ?_⟩
  · rintro i G' hi ⟨D2, s2, u, u1, u2, u3⟩
    have fL := D1.free nL
    refine ⟨rfl, _, rfl, _, rfl, l, rfl, _, rfl, by decide, d, c, List.range l, m + 1 + i, ?_, D2, by omega, by rw [List.length_range]; omega, by rw [List.length_range]; omega, fun j G2 hj D3 s3 => ?_⟩
    · show [V.ref d, V.str (cutS ("abcd" : Str) none (some (l : Int)))] = _
      rw [cut_abcd l l1 l4]
    · refine ⟨_, hd_sub _ _ (s3 _ _ (hd_of u1 fL.1 fL.2)), ?_, D3.put fL.1 fL.2 _, hd_grow (hd_none nL) (s2.trans s3) _, u ++ [j], ?_, by rw [List.length_append, u2]; rfl, ?_⟩
      · rw [List.length_map, u2]
        show i < 2 ^ 24
        omega
      · rw [upd_same, List.map_append]; rfl
      · intro k hk
        rcases List.mem_append.mp hk with hk | hk
        · exact u3 k hk
        · rw [List.mem_singleton.mp hk]; exact List.mem_range.mp hj
  · rintro G' ⟨D2, s2, u, u1, u2, u3⟩
    have e1 : (u.map fun j => V.str (sg j)) = (u.map sg).map V.str := by rw [List.map_map]; rfl
    rw [e1] at u1
    have z : ∀ us : List Nat, ((us.map sg).map (·.length)).sum = us.length := by
      intro us
      induction us with
      | nil => rfl
      | cons y ys ih =>
        rw [List.map_cons, List.map_cons, List.sum_cons, ih, List.length_cons]
        show 1 + ys.length = ys.length + 1
        omega
    refine ⟨_, L, u.map sg, rfl, rfl, .inl (.inl (.inl u1)), ?_, ?_⟩
    · rw [z, List.length_map]
      show u.length + u.length * 0 ≤ 16777216
      omega
    · rw [join_sg]
      exact q u G' u3 (by omega) (D2.mono (by omega)) (s1.trans s2)
end
end K22
namespace K22
open PySem L2 GL KC
theorem cutS_wS (u : List Nat) (lo hi : Option Int) : ∃ u' : List Nat, cutS (wS u) lo hi = wS u' ∧ (∀ j ∈ u', j ∈ u) ∧ u'.length ≤ u.length := by
  refine ⟨(u.drop (HT.sIx (wS u).length 0 lo)).take (HT.sIx (wS u).length (wS u).length hi - HT.sIx (wS u).length 0 lo), ?_, fun j h => List.mem_of_mem_drop (List.mem_of_mem_take h), by rw [List.length_take, List.length_drop]; omega⟩
  unfold cutS
  show (⟨_⟩ : Str) = ⟨_⟩
  congr 1
  congr 1
  show ((((u.map (97 + ·)).toArray).toList.drop _).take _) = _
  rw [List.map_take, List.map_drop]
theorem cutS_400 (u : List Nat) : ∃ u' : List Nat, cutS (wS u) none (some 400) = wS u' ∧ (∀ j ∈ u', j ∈ u) ∧ u'.length ≤ 400 := by
  refine ⟨(u.drop (HT.sIx (wS u).length 0 none)).take (HT.sIx (wS u).length (wS u).length (some 400) - HT.sIx (wS u).length 0 none), ?_, fun j h => List.mem_of_mem_drop (List.mem_of_mem_take h), ?_⟩
  · unfold cutS
    show (⟨_⟩ : Str) = ⟨_⟩
    congr 1
    congr 1
    show ((((u.map (97 + ·)).toArray).toList.drop _).take _) = _
    rw [List.map_take, List.map_drop]
  · have h1 : HT.sIx (wS u).length (wS u).length (some 400) ≤ 400 := by
      unfold HT.sIx
      simp
      omega
    rw [List.length_take]
    omega
theorem filter1_pos {p : V → Bool} {x : V} (h : p x = true) : List.filter p [x] = [x] := by simp [h]
theorem filter1_neg {p : V → Bool} {x : V} (h : ¬ p x = true) : List.filter p [x] = [] := by simp [h]
def fS (rows : Rows) (j : Nat) : V → V
  | .int st => oV (stepM rows st.toNat j)
  | _ => .non
def eS (ends : List Bool) : V → Bool
  | .int st => ends.getD st.toNat false
  | _ => false
theorem oL_mem {o : Option Nat} {x : V} (h : x ∈ oL o) : ∃ st, o = some st ∧ x = .int st := by
  cases o with
  | none => cases h
  | some st => exact ⟨st, rfl, List.mem_singleton.mp h⟩
theorem oL_len (o : Option Nat) : (oL o).length ≤ 1 := by
  cases o with
  | none => exact Nat.zero_le _
  | some st => exact Nat.le_refl _
theorem oL_step (rows : Rows) (j : Nat) (o : Option Nat) : ((oL o).map (fS rows j)).filter (fun v => !decide (v = .non)) = oL (o.bind fun st => stepM rows st j) := by
  cases o with
  | none => rfl
  | some st =>
    show ([oV (stepM rows st j)] : List V).filter _ = oL (stepM rows st j)
    cases stepM rows st j with
    | none => rfl
    | some t => rfl
theorem oL_end (ends : List Bool) (o : Option Nat) : (!((oL o).filter (eS ends)).isEmpty) = (match o with | none => false | some s => ends.getD s false) := by
  cases o with
  | none => rfl
  | some st =>
    show (!(([V.int (st : Int)] : List V).filter (eS ends)).isEmpty) = ends.getD st false
    have e : eS ends (V.int (st : Int)) = ends.getD st false := rfl
    cases z : ends.getD st false with
    | true => rw [List.filter_cons_of_pos (by rw [e, z])]; rfl
    | false => rw [List.filter_cons_of_neg (by rw [e, z]; exact Bool.false_ne_true)]; rfl
section
variable {P : Program} {w : World} {K : PySem.W.Frag} {mg : Str → Option Value} {base : Heap}
theorem pe_ixT {X : Cx} {a b : Expr} {ta tb : TE} {pos : Pos} (ha : PE X a ta) (hb : PE X b tb) (hs : PlainIx b) : PE X (.Subscript a b pos) (tOp (rIxT X.K) ta tb) := pe_ix ix_tup ha hb hs
theorem scRd : FnScope ["_law_machine_here", "_law_word_here", "_law_states", "_law_letter", "_law_state"] ["_law_machine_here", "_law_word_here"] (defScope sRead) := ⟨rfl, rfl, rfl, by decide +kernel, rfl, by decide +kernel, by decide +kernel⟩
theorem ok_read {f : Addr} {fd : FuncData} (F : Fun K "_law_read" "_law_read" sRead f fd) : FnOk P w K mg base CX0 1 f fd ["_law_machine_here", "_law_word_here"] spIs := by
  refine F.ok scRd (fun vs H Q E h => ?_) (fun cdv A outer s H vs Q E hr h => ?_)
  · obtain ⟨p, l, n, rows, ends, w, rfl, _⟩ := h
    rfl
  obtain ⟨p, l, n, rows, ends, wd, rfl, M, W, hw, q⟩ := h
  refine ⟨_, pss_cons (ps_set (i := 2) scRd.nd rfl (Or.inl rfl) (pe_lst (pa_cons pe_int pa_nil)))
    (pss_cons (ps_for PassesOwn.never rfl (pi_str (pv 1)) (pg_name (i := 3) scRd.nd rfl (Or.inr rfl))
      (pss_cons (ps_setLc (i := 2) (own := [("_law_state", 4)]) (g := gName 4) (tt := tYes) rfl scRd.nd rfl rfl (sw_true rfl rfl rfl (by decide +kernel)) (pi_list (pv 2))
        (blkOk_by (own := [("_law_state", 4)]) (N := ["_law_machine_here", "_law_word_here", "_law_states", "_law_letter", "_law_state"]) (sc := defScope sRead) (by decide +kernel)) (fun _ _ _ _ _ => pg_name (i := 4) scRd.nd rfl (Or.inl rfl)) (fun _ _ _ _ _ => pts_nil)
        (fun _ _ _ _ _ => show PE _ _ (tOp (rIxT K) (tOp (rIxT K) (tOp (rIxT K) _ _) _) (tBM K "str" _ _ _)) from pe_ixT (pe_ixT (pe_ixT (pv 0) pe_int (fun _ _ => rfl)) (pv 4) (fun _ _ => rfl)) (pe_bm PySem.F.plainAttrs_str PySem.F.slot_str_index PySem.F.type_str_index mt_sindex pe_str (pa_cons (pv 3) pa_nil)) (fun _ _ => rfl)))
      (pss_one (ps_setLc (i := 2) (own := [("_law_state", 4)]) (g := gName 4) rfl scRd.nd rfl rfl (sw_true rfl rfl rfl (by decide +kernel)) (pi_list (pv 2))
        (blkOk_by (own := [("_law_state", 4)]) (N := ["_law_machine_here", "_law_word_here", "_law_states", "_law_letter", "_law_state"]) (sc := defScope sRead) (by decide +kernel)) (fun _ _ _ _ _ => pg_name (i := 4) scRd.nd rfl (Or.inl rfl)) (fun _ _ _ _ _ => pts_one (pt_cmpR op_notN (pv 4) pe_non (nomark _)))
        (fun _ _ _ _ _ => pv 4)))))
    (pss_one (ps_ret (pe_cmpR (op_ne0 hr.units0) (pe_lc (own := [("_law_state", 4)]) (g := gName 4) rfl scRd.nd (pi_list (pv 2))
        (blkOk_by (own := [("_law_state", 4)]) (N := ["_law_machine_here", "_law_word_here", "_law_states", "_law_letter", "_law_state"]) (sc := defScope sRead) (by decide +kernel)) (fun _ _ _ _ _ => pg_name (i := 4) scRd.nd rfl (Or.inl rfl))
        (fun _ _ _ _ _ => pts_one (pt_val (show PE _ _ (tOp (rIxT K) (tOp (rIxT K) _ _) _) from pe_ixT (pe_ixT (pv 0) pe_int (fun _ _ => rfl)) (pv 4) (fun _ _ => rfl)))) (fun _ _ _ _ _ => pv 4)) (pe_lst pa_nil) (nomark _))))), ?_⟩
  obtain ⟨pr, pe, rvs, h1, h2, h3, h4, h5⟩ := M.ex
  refine ⟨by show 1 ≤ 2 ^ 24; decide, fun a0 na0 => ?_⟩
  have sa := same_new na0 (.lst [V.int 0])
  have ga : upd H a0 (.lst [V.int 0]) a0 = some (.lst [V.int 0]) := upd_same
  generalize upd H a0 (.lst [V.int 0]) = G at sa ga
  refine ⟨_, rfl, _, rfl, for_it (walk_str (z := wS wd)) (fun i σ G' => ∃ (a : Addr) (k3 : Option V), σ = [some (.ref p), some (.str (wS wd)), some (.ref a), k3, none] ∧ Same G G' ∧ G' a = some (.lst (oL (run rows 0 (wd.take i)))) ∧ ∀ st, run rows 0 (wd.take i) = some st → st < n)
    ⟨a0, none, rfl, Same.refl G, ga, fun st e => by cases e; exact W.n1⟩ (fun _ _ _ _ _ => True.intro) ?_ ?_⟩
  · rintro i x σ G2 H' hi ⟨a, k3, rfl, s2, g2, b2⟩ ⟨rfl, c, hc, rfl⟩
    obtain ⟨j, j1, rfl⟩ := wS_at hc
    have jl := hw j (List.mem_of_getElem? j1)
    have run1 : run rows 0 (wd.take (i + 1)) = (run rows 0 (wd.take i)).bind fun st => stepM rows st j := by
      rw [List.take_add_one, j1, run_append]
      cases run rows 0 (wd.take i) with
      | none => rfl
      | some st =>
        show (match stepM rows st j with | none => none | some t => run rows t []) = stepM rows st j
        cases stepM rows st j <;> rfl
    generalize run rows 0 (wd.take i) = o at g2 b2 run1
    have xl := oL_len o
    refine ⟨_, rfl, a, rfl, ⟨_, .inl (.inl g2)⟩, fun L nL => lc_list (K := K) (a := a) (xs := oL o) (fun k G' => Same H' G' ∧ G' L = some (.lst (((oL o).take k).map (fS rows j)))) ⟨same_new nL _, upd_same⟩ (fun k G' _ h => .inl (.inl (h.1 _ _ g2))) ?_ ?_⟩
    · rintro k x G3 hx ⟨s3, g3⟩
      obtain ⟨st, rfl, rfl⟩ := oL_mem (List.mem_of_getElem? hx)
      have kl : k < (oL (some st)).length := (List.getElem?_eq_some_iff.mp hx).1
      have sl := b2 st rfl
      obtain ⟨r, w1, w2, w3, w4⟩ := W.row sl
      obtain ⟨t, t1, t2⟩ := h5 st r w1
      have jr : j < r.length := by rw [w2]; exact jl
      have s4 := sa.trans (s2.trans s3)
      refine ⟨rfl, _, rfl, p, _, 1, .ref pr, rfl, rfl, .inl (.inl (s4 _ _ h1)), rfl, _, rfl, pr, rvs, st, .ref t, rfl, rfl, .inl (.inl (s4 _ _ h2)), atI_nat t1, rfl, _, rfl, _, sg j, j, [], rfl, rfl, occ_at j (Nat.lt_of_lt_of_le jl W.l4), t, _, _, oV (r.getD j none), rfl, rfl, .inl (.inl (s4 _ _ t2)), atI_nat ?_, ?_⟩
      · rw [List.getElem?_map, List.getD_eq_getElem?_getD, List.getElem?_eq_getElem jr]; rfl
      rw [← w4 j]
      refine ⟨_, g3, by rw [List.length_map, List.length_take]; show _ < 2 ^ 24; omega, same_grow nL s3 _, ?_⟩
      rw [upd_same, List.take_add_one, hx, List.map_append]
      rfl
    · rintro G3 ⟨s3, g3⟩
      rw [List.take_length] at g3
      have yl : ((oL o).map (fS rows j)).length ≤ 1 := by rw [List.length_map]; exact xl
      refine ⟨_, rfl, L, rfl, ⟨_, .inl (.inl g3)⟩, fun L2 nL2 => lc_list (K := K) (a := L) (xs := (oL o).map (fS rows j)) (fun k G' => Same G3 G' ∧ G' L2 = some (.lst ((((oL o).map (fS rows j)).take k).filter fun v => !decide (v = .non)))) ⟨same_new nL2 _, upd_same⟩
        (fun k G' _ h => .inl (.inl (h.1 _ _ g3))) ?_ ?_⟩
      · rintro k x G4 hx ⟨s4, g4⟩
        refine ⟨rfl, _, rfl, rfl, _, rfl, ite2 (fun c1 => ?_) (fun c1 => ?_)⟩
        · refine ⟨_, rfl, _, g4, ?_, same_grow nL2 s4 _, ?_⟩
          · have := List.length_filter_le (fun v => !decide (v = V.non)) (((oL o).map (fS rows j)).take k)
            rw [List.length_take] at this
            show _ < 2 ^ 24
            omega
          · rw [upd_same, List.take_add_one, hx, List.filter_append]
            show _ = some (HO.lst (_ ++ List.filter _ [x]))
            rw [filter1_pos (p := fun v => !decide (v = V.non)) c1]
        · refine ⟨s4, ?_⟩
          rw [g4, List.take_add_one, hx, List.filter_append]
          show _ = some (HO.lst (_ ++ List.filter _ [x]))
          rw [filter1_neg (p := fun v => !decide (v = V.non)) c1, List.append_nil]
      · rintro G4 ⟨s4, g4⟩
        rw [List.take_length, oL_step, ← run1] at g4
        refine ⟨L2, _, rfl, s2.trans (s3.trans s4), g4, fun st e => ?_⟩
        rw [run1] at e
        cases o with
        | none => cases e
        | some st0 => exact W.step_lt (b2 st0 rfl) e
  · rintro σ G2 ⟨a, k3, rfl, s2, g2, b2⟩
    rw [wS_size, List.take_length] at g2 b2
    have kq : ∀ G', Same G2 G' → Q (.bl (!((oL (run rows 0 wd)).filter (eS ends)).isEmpty)) G' := fun G' s3 => by
      rw [oL_end]
      exact q G' (sa.trans (s2.trans s3))
    generalize run rows 0 wd = o at g2 b2 kq
    have xl := oL_len o
    refine ⟨_, rfl, a, rfl, ⟨_, .inl (.inl g2)⟩, fun L nL => lc_list (K := K) (a := a) (xs := oL o) (fun k G' => Same G2 G' ∧ G' L = some (.lst (((oL o).take k).filter (eS ends)))) ⟨same_new nL _, upd_same⟩ (fun k G' _ h => .inl (.inl (h.1 _ _ g2))) ?_ ?_⟩
    · rintro k x G3 hx ⟨s3, g3⟩
      obtain ⟨st, rfl, rfl⟩ := oL_mem (List.mem_of_getElem? hx)
      have el : st < ends.length := by rw [W.el]; exact b2 st rfl
      have s4 := sa.trans (s2.trans s3)
      refine ⟨rfl, _, rfl, p, _, 2, .ref pe, rfl, rfl, .inl (.inl (s4 _ _ h1)), rfl, _, rfl, pe, _, st, .bl (ends.getD st false), rfl, rfl, .inl (.inl (s4 _ _ h3)), atI_nat ?_, _, rfl, ?_⟩
      · rw [List.getElem?_map, List.getD_eq_getElem?_getD, List.getElem?_eq_getElem el]; rfl
      have ee : eS ends (V.int (st : Int)) = ends.getD st false := rfl
      have ll := List.length_filter_le (eS ends) ((oL (some st)).take k)
      rw [List.length_take] at ll
      cases z : ends.getD st false with
      | true =>
        refine ⟨_, rfl, _, g3, by show _ < 2 ^ 24; omega, same_grow nL s3 _, ?_⟩
        rw [upd_same, List.take_add_one, hx, List.filter_append]
        show _ = some (HO.lst (_ ++ List.filter _ [_]))
        rw [filter1_pos (p := eS ends) (by rw [ee, z])]
      | false =>
        refine ⟨s3, ?_⟩
        rw [g3, List.take_add_one, hx, List.filter_append]
        show _ = some (HO.lst (_ ++ List.filter _ [_]))
        rw [filter1_neg (p := eS ends) (by rw [ee, z]; exact Bool.false_ne_true), List.append_nil]
    · rintro G3 ⟨s3, g3⟩
      rw [List.take_length] at g3
      refine ⟨by show 0 ≤ 2 ^ 24; decide, fun e nE => ⟨L, e, _, rfl, rfl, same_new nE _ _ _ g3, upd_same, kq _ (s3.trans (same_new nE _))⟩⟩
end
end K22
namespace K22
open PySem L2 GL KC
def spWalked : Sp := fun vs H Q _ => ∃ (d c p : Addr) (l n most m : Nat) (rows : Rows) (ends : List Bool), vs = [.ref d, .ref p, .int most] ∧ Deck H d c m ∧ m ≤ 900000000 ∧ MachAt (Hd d c H) p l rows ends ∧ WF l n rows ends ∧ most ≤ 1000 ∧
  ∀ (w : List Nat) (G : Hp), (∀ j ∈ w, j < l) → w.length ≤ most → Deck G d c (m + 1002) → Same (Hd d c H) (Hd d c G) → Q (.str (wS w)) G
def spOth : Sp := fun vs H Q _ => ∃ (d c : Addr) (l m : Nat) (u : List Nat), vs = [.ref d, .int l, .str (wS u)] ∧ Deck H d c m ∧ m ≤ 900000000 ∧ 1 ≤ l ∧ l ≤ 4 ∧ u.length ≤ 1000 ∧ (∀ j ∈ u, j < l) ∧
  ∀ (w : List Nat) (G : Hp), (∀ j ∈ w, j < l) → w.length ≤ 400 → Deck G d c (m + 3) → Same (Hd d c H) (Hd d c G) → Q (.str (wS w)) G
section
variable {P : Program} {w : World} {K : PySem.W.Frag} {mg : Str → Option Value} {base : Heap}
theorem scOt : FnScope ["_law_deck_here", "_law_letters", "_law_word_here", "_law_at"] ["_law_deck_here", "_law_letters", "_law_word_here"] (defScope sOth) := ⟨rfl, rfl, rfl, by decide +kernel, rfl, by decide +kernel, by decide +kernel⟩
theorem ok_oth {f fD fO : Addr} {fd fdD fdO : FuncData} (F : Fun K "_law_otherwise" "_law_otherwise" sOth f fd) (T : Txt mg) (W : Dfn P w K mg base "_law_draw" 1 fD fdD ["_law_deck_here", "_law_many"] spDraw)
    (O : Dfn P w K mg base "_law_one" 2 fO fdO ["_law_deck_here", "_law_items"] spOneS) : FnOk P w K mg base CX0 3 f fd ["_law_deck_here", "_law_letters", "_law_word_here"] spOth := by
  refine F.ok scOt (fun vs H Q E h => ?_) (fun cdv A outer s H vs Q E hr h => ?_)
  · obtain ⟨d, c, l, m, u, rfl, _⟩ := h
    rfl
  obtain ⟨d, c, l, m, u, rfl, D, hm, l1, l4, ul, uw, q⟩ := h
  have hr1 : Room 1 _ := hr.mono (by decide)
  refine ⟨_, pss_cons (ps_set (i := 3) scOt.nd rfl (Or.inl rfl) (pe_call W.ok hr1 rfl W.m W.kp W.b .nil pass0 (pa_cons (pv 0) (pa_cons (pe_op op_add (pe_callB call_len_str (by rfl) T.c.len PySem.boot_len (pa_cons (pv 2) pa_nil)) pe_int) pa_nil))))
    (pss_one (ps_ret (pe_slice sl_str (pe_op op_add_str (pe_op op_add_str (pe_slice sl_str (pv 2) po_none (po_some (pv 3))) (pe_call O.ok hr rfl O.m O.kp O.b .nil pass0 (pa_cons (pv 0) (pa_cons (pe_slice sl_str pe_str po_none (po_some (pv 1))) pa_nil))))
      (pe_slice sl_str (pv 2) (po_some (pe_op op_add (pv 3) (pe_call W.ok hr1 rfl W.m W.kp W.b .nil pass0 (pa_cons (pv 0) (pa_cons pe_int pa_nil))))) po_none)) po_none (po_some pe_int)))), ?_⟩
  have z : (wS u).length ≤ 2 ^ 24 := by rw [wS_len]; omega
  refine ⟨_, rfl, _, rfl, _, rfl, z, _, _, rfl, rfl, d, c, ((wS u).length : Int) + 1, m, rfl, D, by omega, by rw [wS_len]; omega, by rw [wS_len]; omega, fun r G r0 r1 D1 s1 => ?_⟩
  obtain ⟨u1, c1, c2, c3⟩ := cutS_wS u none (some r)
  refine ⟨_, rfl, _, rfl, _, rfl, _, rfl, z, ?_⟩
  rw [c1]
  refine ⟨_, rfl, _, rfl, l, rfl, _, rfl, by decide, d, c, List.range l, m + 1, ?_, D1, by omega, by rw [List.length_range]; omega, by rw [List.length_range]; omega, fun j G2 hj D2 s2 => ?_⟩
  · show [V.ref d, V.str (cutS ("abcd" : Str) none (some (l : Int)))] = _
    rw [cut_abcd l l1 l4]
  rw [sg_wS]
  refine ⟨_, _, rfl, rfl, by rw [wS_len, wS_len]; show _ + 1 ≤ 2 ^ 24; omega, ?_⟩
  rw [wS_app]
  refine ⟨_, rfl, _, rfl, _, rfl, d, c, 2, m + 1 + 1, rfl, D2, by omega, by decide, by decide, fun r2 G3 r3 r4 D3 s3 => ⟨_, _, rfl, rfl, _, rfl, _, rfl, z, ?_⟩⟩
  obtain ⟨u2, c4, c5, c6⟩ := cutS_wS u (some (r + r2)) none
  show ∃ _ _, _
  refine ⟨_, _, rfl, congrArg V.str c4, by rw [wS_len, wS_len, List.length_append]; show _ + 1 + _ ≤ 2 ^ 24; omega, ?_⟩
  rw [wS_app]
  obtain ⟨u3, c7, c8, c9⟩ := cutS_400 (u1 ++ [j] ++ u2)
  refine ⟨400, rfl, _, rfl, by rw [wS_len, List.length_append, List.length_append]; show _ + 1 + _ ≤ 2 ^ 24; omega, ?_⟩
  show Q (.str (cutS (wS (u1 ++ [j] ++ u2)) none (some 400))) G3
  rw [c7]
  refine q u3 G3 (fun k hk => ?_) c9 D3 (s1.trans (s2.trans s3))
  rcases List.mem_append.mp (c8 k hk) with h | h
  · rcases List.mem_append.mp h with h | h
    · exact uw k (c2 k h)
    · rw [List.mem_singleton.mp h]; exact List.mem_range.mp hj
  · exact uw k (c5 k h)
theorem scWk : FnScope ["_law_deck_here", "_law_machine_here", "_law_most", "_law_word_here", "_law_state", "_law_k", "_law_some", "_law_j"] ["_law_deck_here", "_law_machine_here", "_law_most"] (defScope sWalked) := ⟨rfl, rfl, rfl, by decide +kernel, rfl, by decide +kernel, by decide +kernel⟩
theorem ok_walked {f fD fO : Addr} {fd fdD fdO : FuncData} (F : Fun K "_law_walked" "_law_walked" sWalked f fd) (T : Txt mg) (W : Dfn P w K mg base "_law_draw" 1 fD fdD ["_law_deck_here", "_law_many"] spDraw)
    (O : Dfn P w K mg base "_law_one" 2 fO fdO ["_law_deck_here", "_law_items"] spOne) : FnOk P w K mg base CX0 3 f fd ["_law_deck_here", "_law_machine_here", "_law_most"] spWalked := by
  refine F.ok scWk (fun vs H Q E h => ?_) (fun cdv A outer s H vs Q E hr h => ?_)
  · obtain ⟨d, c, p, l, n, most, m, rows, ends, rfl, _⟩ := h
    rfl
  obtain ⟨d, c, p, l, n, most, m, rows, ends, rfl, D, hm, M, WM, hmo, q⟩ := h
  have hr1 : Room 1 _ := hr.mono (by decide)
  refine ⟨_, pss_cons (ps_asg (pe_tup (pa_cons pe_str (pa_cons pe_int pa_nil))) (pg_tup (by rfl) (pgs_cons (pg_name (i := 3) scWk.nd rfl (Or.inl rfl)) (pgs_cons (pg_name (i := 4) scWk.nd rfl (Or.inr rfl)) pgs_nil))))
    (pss_cons (ps_for PassesOwn.never rfl (pi_range1 rfl T.c.range (pa_cons (pe_call W.ok hr1 rfl W.m W.kp W.b .nil pass0 (pa_cons (pv 0) (pa_cons (pe_op op_add (pv 2) pe_int) pa_nil))) pa_nil)) (pg_name (i := 5) scWk.nd rfl (Or.inl rfl))
      (pss_cons (ps_setLc (i := 6) (own := [("_law_j", 7)]) (g := gName 7) rfl scWk.nd rfl rfl (sw_true rfl rfl rfl (by decide +kernel)) (pi_range1 rfl T.c.range (pa_cons (pe_ixT (pv 1) pe_int (fun _ _ => rfl)) pa_nil))
        (blkOk_by (own := [("_law_j", 7)]) (N := ["_law_deck_here", "_law_machine_here", "_law_most", "_law_word_here", "_law_state", "_law_k", "_law_some", "_law_j"]) (sc := defScope sWalked) (by decide +kernel)) (fun _ _ _ _ _ => pg_name (i := 7) scWk.nd rfl (Or.inl rfl))
        (fun _ _ _ _ _ => pts_one (pt_cmpR op_notN (show PE _ _ (tOp (rIxT K) (tOp (rIxT K) (tOp (rIxT K) _ _) _) _) from pe_ixT (pe_ixT (pe_ixT (pv 1) pe_int (fun _ _ => rfl)) (pv 4) (fun _ _ => rfl)) (pv 7) (fun _ _ => rfl)) pe_non (nomark _)))
        (fun _ _ _ _ _ => pv 7))
      (pss_one (ps_if (pt_cmpR (op_ne0 hr.units0) (pv 6) (pe_lst pa_nil) (nomark _))
        (pss_cons (ps_set (i := 7) scWk.nd rfl (Or.inl rfl) (pe_call O.ok hr rfl O.m O.kp O.b .nil pass0 (pa_cons (pv 0) (pa_cons (pv 6) pa_nil))))
        (pss_one (ps_asg (pe_tup (pa_cons (pe_op op_add_str (pv 3) (pe_ix ix_str pe_str (pv 7) (fun _ _ => rfl))) (pa_cons (pe_ixT (pe_ixT (pe_ixT (pv 1) pe_int (fun _ _ => rfl)) (pv 4) (fun _ _ => rfl)) (pv 7) (fun _ _ => rfl)) pa_nil)))
          (pg_tup (by rfl) (pgs_cons (pg_name (i := 3) scWk.nd rfl (Or.inl rfl)) (pgs_cons (pg_name (i := 4) scWk.nd rfl (Or.inr rfl)) pgs_nil)))))) pss_nil))))
    (pss_one (ps_ret (pv 3)))), ?_⟩
  obtain ⟨pr, pe, rvs, h1, h2, h3, h4, h5⟩ := M.ex
  refine ⟨by show 2 ≤ 2 ^ 24; decide, fun t0 n0 => ?_⟩
  have s0 : Same (Hd d c H) (Hd d c (upd H t0 (.tup [V.str "", V.int 0]))) := hd_new n0 _
  have D0 := D.new n0 (.tup [V.str "", V.int 0])
  have g0 : upd H t0 (.tup [V.str "", V.int 0]) t0 = some (.tup [V.str "", V.int 0]) := upd_same
  generalize upd H t0 (.tup [V.str "", V.int 0]) = G0 at s0 D0 g0
  refine ⟨t0, _, rfl, .inl (.inl g0), rfl, _, _, rfl, _, _, rfl, rfl, ?_⟩
  refine ⟨_, rfl, _, rfl, _, _, rfl, rfl, d, c, (most : Int) + 1, m, rfl, D0, by omega, by omega, by omega, fun r G r0 r1 D1 s1 => ?_⟩
  obtain ⟨nn, rfl⟩ : ∃ nn : Nat, r = (nn : Int) := ⟨r.toNat, by omega⟩
  refine ⟨nn, rfl, by omega, by omega, for_range (lo := 0) (n := nn) (fun i σ G' => ∃ (u : List Nat) (st : Nat) (k5 k6 k7 : Option V), σ = [some (.ref d), some (.ref p), some (.int most), some (.str (wS u)), some (.int st), k5, k6, k7] ∧ Deck G' d c (m + 1 + i) ∧ Same (Hd d c H) (Hd d c G') ∧
      u.length ≤ i ∧ (∀ j ∈ u, j < l) ∧ st < n) ⟨[], 0, none, none, none, by rw [wS_nil]; rfl, D1, s0.trans s1, Nat.le_refl _, (fun j h => nomatch h), WM.n1⟩ ?_ ?_⟩
  · rintro i σ G1 hi ⟨u, st, k5, k6, k7, rfl, DG, sG, ul, uw, sl⟩
    obtain ⟨r, w1, w2, w3, w4⟩ := WM.row sl
    obtain ⟨t, t1, t2⟩ := h5 st r w1
    have look : ∀ G' : Hp, Same (Hd d c H) (Hd d c G') → G' p = some (.tup [.int l, .ref pr, .ref pe]) ∧ G' pr = some (.tup rvs) ∧ G' t = some (.tup (r.map oV)) := fun G' s => ⟨hd_sub _ _ (s _ _ h1), hd_sub _ _ (s _ _ h2), hd_sub _ _ (s _ _ t2)⟩
    obtain ⟨b1, b2, b3⟩ := look G1 sG
    refine ⟨_, rfl, p, _, 0, .int l, rfl, rfl, .inl (.inl b1), rfl, l, rfl, by have := WM.l4; omega, by have := WM.l4; omega, fun L nL => lc_range (lo := 0) (n := l) (fun k G' => Same G1 G' ∧ ∃ us : List Nat, G' L = some (.lst (us.map fun (j : Nat) => V.int (j : Int))) ∧ us.length ≤ k ∧ ∀ j ∈ us, j < l ∧ stepM rows st j ≠ none)
      ⟨same_new nL _, [], upd_same, Nat.le_refl _, fun j h => nomatch h⟩ ?_ ?_⟩
    · rintro k G2 hk ⟨s2, us, u1, u2, u3⟩
      have kr : k < r.length := by rw [w2]; exact hk
      have ek : (0 : Int) + (k : Int) = ((k : Nat) : Int) := Int.zero_add _
      refine ⟨rfl, _, rfl, p, _, 1, .ref pr, rfl, rfl, .inl (.inl (s2 _ _ b1)), rfl, _, rfl, pr, rvs, st, .ref t, rfl, rfl, .inl (.inl (s2 _ _ b2)), atI_nat t1, _, rfl, t, _, _, oV (r.getD k none), rfl, rfl, .inl (.inl (s2 _ _ b3)), at_of ek ?_, rfl, _, rfl, ?_⟩
      · rw [List.getElem?_map, List.getD_eq_getElem?_getD, List.getElem?_eq_getElem kr]; rfl
      rw [← w4 k]
      cases e : stepM rows st k with
      | none => exact ⟨s2, us, u1, by omega, u3⟩
      | some t' =>
        refine ⟨_, rfl, _, u1, by rw [List.length_map]; have := WM.l4; show _ < 2 ^ 24; omega, same_grow nL s2 _, us ++ [k], ?_, by rw [List.length_append]; show us.length + 1 ≤ k + 1; omega, ?_⟩
        · rw [upd_same, List.map_append, ek]; rfl
        · intro j hj
          rcases List.mem_append.mp hj with hj | hj
          · exact u3 j hj
          · rw [List.mem_singleton.mp hj]
            exact ⟨hk, by rw [e]; exact fun z => nomatch z⟩
    · rintro G2 ⟨s2, us, u1, u2, u3⟩
      have sH2 := sG.trans (hd_same s2)
      have DG2 := DG.same s2
      refine ⟨_, rfl, by show 0 ≤ 2 ^ 24; decide, fun e nE => ⟨L, e, _, rfl, rfl, same_new nE _ _ _ u1, upd_same, _, rfl, ?_⟩⟩
      have sE : Same (Hd d c G2) (Hd d c (upd G2 e (.lst []))) := hd_new nE _
      have DE := DG2.new nE (.lst [])
      have uE := same_new nE (.lst []) _ _ u1
      generalize upd G2 e (.lst []) = G3 at sE DE uE
      cases us with
      | nil => exact ⟨u, st, _, _, _, rfl, DE.mono (by omega), sH2.trans sE, by omega, uw, sl⟩
      | cons y ys =>
        have uD : Hd d c G3 L = some (.lst ((y :: ys).map fun (j : Nat) => V.int (j : Int))) := by
          have f := DG.free nL
          exact hd_of uE f.1 f.2
        refine ⟨_, rfl, _, rfl, d, c, L, _, m + 1 + i, rfl, DE, by omega, uD, by rw [List.length_map]; exact Nat.succ_pos _, by rw [List.length_map]; have := WM.l4; omega, fun v G4 hv D4 s4 => ?_⟩
        obtain ⟨j, jm, rfl⟩ := List.mem_map.mp hv
        obtain ⟨jl, js⟩ := u3 j jm
        obtain ⟨t', et⟩ : ∃ t', stepM rows st j = some t' := by
          cases e5 : stepM rows st j with
          | none => exact absurd e5 js
          | some t' => exact ⟨t', rfl⟩
        have sH4 := sH2.trans (sE.trans s4)
        obtain ⟨c1, c2, c3⟩ := look G4 sH4
        have jr : j < r.length := by rw [w2]; exact jl
        refine ⟨_, rfl, _, rfl, _, j, 97 + j, rfl, rfl, by decide, ?_, _, _, rfl, rfl, ?_, ?_⟩
        · have l4 := WM.l4
          have j4 : j < 4 := by omega
          rcases j with _ | _ | _ | _ | j
          · decide +kernel
          · decide +kernel
          · decide +kernel
          · decide +kernel
          · omega
        · show (wS u).length + 1 ≤ 2 ^ 24
          rw [wS_len]
          omega
        have e6 : wS u ++ (⟨#[97 + j]⟩ : Str) = wS (u ++ [j]) := wS_app u [j]
        rw [e6]
        refine ⟨_, rfl, p, _, 1, .ref pr, rfl, rfl, .inl (.inl c1), rfl, _, rfl, pr, rvs, st, .ref t, rfl, rfl, .inl (.inl c2), atI_nat t1, _, rfl, t, _, _, oV (r.getD j none), rfl, rfl, .inl (.inl c3), atI_nat ?_, by show 2 ≤ 2 ^ 24; decide, fun q1 nq1 => ?_⟩
        · rw [List.getElem?_map, List.getD_eq_getElem?_getD, List.getElem?_eq_getElem jr]; rfl
        rw [← w4 j, et]
        refine ⟨q1, _, rfl, .inl (.inl upd_same), rfl, _, _, rfl, _, _, rfl, rfl, u ++ [j], t', _, _, _, rfl, (D4.new nq1 _).mono (by omega), sH4.trans (hd_new nq1 _), by rw [List.length_append]; show u.length + 1 ≤ i + 1; omega, ?_, WM.step_lt sl et⟩
        intro k hk
        rcases List.mem_append.mp hk with hk | hk
        · exact uw k hk
        · rw [List.mem_singleton.mp hk]; exact jl
  · rintro σ G1 ⟨u, st, k5, k6, k7, rfl, DG, sG, ul, uw, sl⟩
    exact ⟨_, rfl, q u G1 uw (by omega) (DG.mono (by omega)) sG⟩
end
end K22
namespace K22
open PySem L2 GL KC
/-! ### states in another order -/
def pos (order : List Nat) (x : Nat) : Nat := order.idxOf x
def rows2 (rows : Rows) (order : List Nat) : Rows := order.map fun s => (rows.getD s []).map (Option.map (pos order))
def ends2 (ends : List Bool) (order : List Nat) : List Bool := order.map fun s => ends.getD s false
/-- an order of n states that begins with 0 -/
structure Ord (n : Nat) (order : List Nat) : Prop where
  pm : List.Perm order (List.range n)
  h0 : order[0]? = some 0
theorem Ord.len {n : Nat} {order : List Nat} (O : Ord n order) : order.length = n := by rw [O.pm.length_eq, List.length_range]
theorem Ord.nd {n : Nat} {order : List Nat} (O : Ord n order) : order.Nodup := O.pm.nodup_iff.mpr List.nodup_range
theorem Ord.mem {n : Nat} {order : List Nat} (O : Ord n order) {t : Nat} (h : t < n) : t ∈ order := O.pm.mem_iff.mpr (List.mem_range.mpr h)
theorem Ord.lt {n : Nat} {order : List Nat} (O : Ord n order) {t : Nat} (h : t ∈ order) : t < n := List.mem_range.mp (O.pm.mem_iff.mp h)
theorem Ord.pos_lt {n : Nat} {order : List Nat} (O : Ord n order) {t : Nat} (h : t < n) : pos order t < n := by
  have := List.idxOf_lt_length_iff.mpr (O.mem h)
  rw [O.len] at this
  exact this
theorem Ord.pos_at {n : Nat} {order : List Nat} (O : Ord n order) {t : Nat} (h : t < n) : order[pos order t]? = some t := by
  have hl : pos order t < order.length := by rw [O.len]; exact O.pos_lt h
  rw [List.getElem?_eq_getElem hl]
  exact congrArg some (List.getElem_idxOf hl)
theorem Ord.pos_of {n : Nat} {order : List Nat} (O : Ord n order) {i t : Nat} (h : order[i]? = some t) : pos order t = i := by
  obtain ⟨hl, e⟩ := List.getElem?_eq_some_iff.mp h
  have q := O.nd.idxOf_getElem i hl
  rw [e] at q
  exact q
theorem step2 {l n : Nat} {rows : Rows} {ends : List Bool} {order : List Nat} (W : WF l n rows ends) {i s j : Nat} (hs : order[i]? = some s) : stepM (rows2 rows order) i j = (stepM rows s j).map (pos order) := by
  unfold stepM rows2
  rw [List.getD_eq_getElem?_getD (l := order.map _), List.getElem?_map, hs]
  show ((rows.getD s []).map (Option.map (pos order))).getD j none = Option.map (pos order) ((rows.getD s []).getD j none)
  generalize rows.getD s [] = r
  rw [List.getD_eq_getElem?_getD, List.getD_eq_getElem?_getD, List.getElem?_map]
  cases r[j]? with
  | none => rfl
  | some o => rfl
theorem run2 {l n : Nat} {rows : Rows} {ends : List Bool} {order : List Nat} (W : WF l n rows ends) (O : Ord n order) : ∀ (w : List Nat) (i s : Nat), order[i]? = some s → run (rows2 rows order) i w = (run rows s w).map (pos order)
  | [], i, s, h => by
    show some i = Option.map (pos order) (some s)
    rw [Option.map_some, O.pos_of h]
  | j :: w, i, s, h => by
    have sl := O.lt (List.mem_of_getElem? h)
    show (match stepM (rows2 rows order) i j with | none => none | some t => run (rows2 rows order) t w) = Option.map (pos order) (match stepM rows s j with | none => none | some t => run rows t w)
    rw [step2 W h]
    cases e : stepM rows s j with
    | none => rfl
    | some t => exact run2 W O w (pos order t) t (O.pos_at (W.step_lt sl e))
theorem run_lt {l n : Nat} {rows : Rows} {ends : List Bool} (W : WF l n rows ends) : ∀ (w : List Nat) (s t : Nat), s < n → run rows s w = some t → t < n
  | [], s, t, h, e => by cases e; exact h
  | j :: w, s, t, h, e => by
    have e' : (match stepM rows s j with | none => none | some t => run rows t w) = some t := e
    cases z : stepM rows s j with
    | none => rw [z] at e'; cases e'
    | some u => rw [z] at e'; exact run_lt W w u t (W.step_lt h z) e'
theorem isOf2 {l n : Nat} {rows : Rows} {ends : List Bool} {order : List Nat} (W : WF l n rows ends) (O : Ord n order) (w : List Nat) : isOf (rows2 rows order) (ends2 ends order) w = isOf rows ends w := by
  unfold isOf
  rw [run2 W O w 0 0 O.h0]
  cases e : run rows 0 w with
  | none => rfl
  | some t =>
    have tl := run_lt W w 0 t W.n1 e
    show (ends2 ends order).getD (pos order t) false = ends.getD t false
    unfold ends2
    rw [List.getD_eq_getElem?_getD, List.getElem?_map, O.pos_at tl]
    rfl
theorem wf2 {l n : Nat} {rows : Rows} {ends : List Bool} {order : List Nat} (W : WF l n rows ends) (O : Ord n order) : WF l n (rows2 rows order) (ends2 ends order) := by
  refine ⟨W.l1, W.l4, W.n1, W.n4, by unfold rows2; rw [List.length_map, O.len], by unfold ends2; rw [List.length_map, O.len], fun r hr => ?_⟩
  obtain ⟨s, hs, rfl⟩ := List.mem_map.mp hr
  obtain ⟨r0, w1, w2, w3, w4⟩ := W.row (O.lt hs)
  have e : rows.getD s [] = r0 := by rw [List.getD_eq_getElem?_getD, w1]; rfl
  rw [e]
  refine ⟨by rw [List.length_map]; exact w2, fun k hk => ?_⟩
  obtain ⟨o, ho, e2⟩ := List.mem_map.mp hk
  cases o with
  | none => cases e2
  | some t =>
    cases e2
    exact O.pos_lt (w3 t ho)
/-! ### the dict of places -/
theorem valV_merge : ∀ (kvs acc : List (Key × V)) (j : Key), (kvs.map (·.1)).Nodup → valV (mergeK acc kvs) j = match valV kvs j with | some v => some v | none => valV acc j
  | [], acc, j, _ => rfl
  | p :: r, acc, j, nd => by
    have nd' := List.nodup_cons.mp nd
    show valV (mergeK (putK acc p.1 p.2) r) j = _
    rw [valV_merge r (putK acc p.1 p.2) j nd'.2, valV_put]
    by_cases e : p.1 = j
    · have z : valV r j = none := by
        cases q : valV r j with
        | none => rfl
        | some v =>
          have m := valV_in q
          rw [← e] at m
          exact absurd m nd'.1
      rw [z, valV_pos e, if_pos e.symm]
    · rw [valV_neg e, if_neg (fun z => e z.symm)]
def kvs (order : List Nat) (k : Nat) : List (Key × V) := (List.range k).map fun i => ((Sum.inl ((order.getD i 0 : Nat) : Int) : Key), V.int (i : Int))
theorem kvs_nd {n : Nat} {order : List Nat} (O : Ord n order) : ((kvs order n).map (·.1)).Nodup := by
  unfold kvs
  have e : ((List.range n).map fun i => ((Sum.inl ((order.getD i 0 : Nat) : Int) : Key), V.int (i : Int))).map (·.1) = order.map fun (x : Nat) => (Sum.inl (x : Int) : Key) := by
    apply List.ext_getElem
    · rw [List.length_map, List.length_map, List.length_range, List.length_map, O.len]
    · intro i h1 h2
      rw [List.length_map] at h2
      simp [List.getD_eq_getElem?_getD, List.getElem?_eq_getElem h2]
  rw [e]
  exact O.nd.map _ fun a b h z => h (by have := Sum.inl.inj z; omega)
theorem valV_mem : ∀ {kvs : List (Key × V)} {k : Key} {v : V}, (kvs.map (·.1)).Nodup → (k, v) ∈ kvs → valV kvs k = some v
  | p :: r, k, v, nd, h => by
    have nd' := List.nodup_cons.mp nd
    rcases List.mem_cons.mp h with rfl | h
    · exact valV_pos rfl
    · have ne : ¬ p.1 = k := fun e => nd'.1 (by show p.1 ∈ _; rw [e]; exact List.mem_map.mpr ⟨(k, v), h, rfl⟩)
      rw [valV_neg ne]
      exact valV_mem nd'.2 h
theorem kvs_val {n : Nat} {order : List Nat} (O : Ord n order) {t : Nat} (h : t < n) : valV (mergeK [] (kvs order n)) (Sum.inl (t : Int)) = some (.int (pos order t : Nat)) := by
  have m : ((Sum.inl (t : Int) : Key), V.int ((pos order t : Nat) : Int)) ∈ kvs order n := by
    refine List.mem_map.mpr ⟨pos order t, List.mem_range.mpr (O.pos_lt h), ?_⟩
    rw [List.getD_eq_getElem?_getD, O.pos_at h]
    rfl
  rw [valV_merge _ _ _ (kvs_nd O), valV_mem (kvs_nd O) m]
theorem perm_erase : ∀ {l : List Nat} {k x : Nat}, l[k]? = some x → List.Perm (x :: l.eraseIdx k) l
  | [], k, x, h => by cases h
  | a :: l, 0, x, h => by cases h; exact List.Perm.refl _
  | a :: l, k + 1, x, h => by
    have h' : l[k]? = some x := h
    exact (List.Perm.swap a x _).trans ((perm_erase h').cons a)
end K22
namespace K22
open PySem L2 GL KC
def spRen : Sp := fun vs H Q _ => ∃ (d c p : Addr) (l n m : Nat) (rows : Rows) (ends : List Bool), vs = [.ref d, .ref p] ∧ Deck H d c m ∧ m ≤ 900000000 ∧ MachAt (Hd d c H) p l rows ends ∧ WF l n rows ends ∧
  ∀ (p2 : Addr) (order : List Nat) (G : Hp), Ord n order → MachAt (Hd d c G) p2 l (rows2 rows order) (ends2 ends order) → Deck G d c (m + 400) → Same (Hd d c H) (Hd d c G) → Q (.ref p2) G
/-- the scope of the outer comprehension of rows -/
def scF : Scope := match (defBody sRen).getD 5 sRen with
  | Stmt.Assign _ e _ => (match e with | Expr.ListComp _ _ sc _ => sc | _ => defScope sRen)
  | _ => defScope sRen
abbrev NR : List Str := ["_law_deck_here", "_law_machine_here", "_law_letters", "_law_rows", "_law_ends", "_law_left", "_law_order", "_law_new", "_law_found", "_law_k", "_law_item", "_law_state"]
def nl (l : List Nat) : List V := l.map fun (x : Nat) => V.int (x : Int)
theorem nl_len (l : List Nat) : (nl l).length = l.length := List.length_map _
theorem nl_at {l : List Nat} {k x : Nat} (h : l[k]? = some x) : (nl l)[k]? = some (.int (x : Int)) := by unfold nl; rw [List.getElem?_map, h]; rfl
theorem nl_of {l : List Nat} {k : Nat} {v : V} (h : (nl l)[k]? = some v) : ∃ x : Nat, l[k]? = some x ∧ v = .int (x : Int) := by
  unfold nl at h
  rw [List.getElem?_map] at h
  cases e : l[k]? with
  | none => rw [e] at h; cases h
  | some x => rw [e] at h; exact ⟨x, rfl, (Option.some.inj h).symm⟩
theorem nl_erase (l : List Nat) (k : Nat) : (nl l).eraseIdx k = nl (l.eraseIdx k) := by
  unfold nl
  induction l generalizing k with
  | nil => rfl
  | cons a l ih =>
    cases k with
    | zero => rfl
    | succ k => exact congrArg _ (ih k)
theorem paired_snoc {α β : Type} {F : α → β → Prop} : ∀ {l₁ : List α} {l₂ : List β} {a : α} {b : β}, Paired F l₁ l₂ → F a b → Paired F (l₁ ++ [a]) (l₂ ++ [b])
  | _, _, _, _, .nil, h => .cons h .nil
  | _, _, _, _, .cons x r, h => .cons x (paired_snoc r h)
/-- tuple(x), the written part by its name -/
def rTupOf (K : PySem.W.Frag) : List V → Hp → VK → Prop := fun xs H Q => ∃ (p : Addr) (ys : List V), xs = [.ref p] ∧ ((SqL K H p ys ∧ ∀ l, H l = none → Q (.ref l) (upd H l (.tup ys))) ∨ (SqT K H p ys ∧ Q (.ref p) H))
theorem call_tupS {X : Cx} : CallR X (.type "tuple") (rTupOf X.K) := call_tuple_of
section
variable {P : Program} {w : World} {K : PySem.W.Frag} {mg : Str → Option Value} {base : Heap}
theorem scRn : FnScope ["_law_deck_here", "_law_machine_here", "_law_letters", "_law_rows", "_law_ends", "_law_left", "_law_order", "_law_new", "_law_found", "_law_k", "_law_item", "_law_state"] ["_law_deck_here", "_law_machine_here"] (defScope sRen) := ⟨rfl, rfl, rfl, by decide +kernel, rfl, by decide +kernel, by decide +kernel⟩
theorem ok_ren {f fD : Addr} {fd fdD : FuncData} (F : Fun K "_law_renamed" "_law_renamed" sRen f fd) (T : Txt mg) (W : Dfn P w K mg base "_law_draw" 1 fD fdD ["_law_deck_here", "_law_many"] spDraw) :
    FnOk P w K mg base CX0 2 f fd ["_law_deck_here", "_law_machine_here"] spRen := by
  refine F.ok scRn (fun vs H Q E h => ?_) (fun cdv A outer s H vs Q E hr h => ?_)
  · obtain ⟨d, c, p, l, n, m, rows, ends, rfl, _⟩ := h
    rfl
  obtain ⟨d, c, p, l, n, m, rows, ends, rfl, D, hm, M, WM, q⟩ := h
  have hu := hu_of hr
  refine ⟨_, pss_cons (ps_asg (pv 1) (pg_tup (by rfl) (pgs_cons (pg_name (i := 2) scRn.nd rfl (Or.inl rfl)) (pgs_cons (pg_name (i := 3) scRn.nd rfl (Or.inr rfl)) (pgs_cons (pg_name (i := 4) scRn.nd rfl (Or.inr rfl)) pgs_nil)))))
    (pss_cons (ps_set (i := 5) scRn.nd rfl (Or.inl rfl) (pe_listRg (by rfl) rfl T.list (prg_2 rfl T.c.range pe_int (pe_callB call_len_seq (by rfl) T.c.len PySem.boot_len (pa_cons (pv 3) pa_nil)))))
    (pss_cons (ps_set (i := 6) scRn.nd rfl (Or.inr rfl) (pe_lst (pa_cons pe_int pa_nil)))
    (pss_cons (ps_while PassesOwn.never (pt_cmpR (op_ne0 hr.units0) (pv 5) (pe_lst pa_nil) (nomark _))
      (pss_one (ps_expr (pe_bm PySem.F.plainAttrs_list PySem.F.slot_list_append PySem.F.type_list_append mt_append (pv 6) (pa_cons (pe_bm PySem.F.plainAttrs_list PySem.F.slot_list_pop PySem.F.type_list_pop mt_popAt (pv 5)
        (pa_cons (pe_call W.ok hr rfl W.m W.kp W.b .nil pass0 (pa_cons (pv 0) (pa_cons (pe_callB call_len_seq (by rfl) T.c.len PySem.boot_len (pa_cons (pv 5) pa_nil)) pa_nil))) pa_nil)) pa_nil)))))
    (pss_cons (ps_set (i := 7) scRn.nd rfl (Or.inr rfl) (pe_callTy (call_dictP rfl) (by rfl) T.dict (by decide +kernel) (pa_cons (pe_lc (own := [("_law_k", 9)]) (g := gName 9) (tt := tYes) rfl scRn.nd (pi_range1 rfl T.c.range (pa_cons (pe_callB call_len_seq (by rfl) T.c.len PySem.boot_len (pa_cons (pv 6) pa_nil)) pa_nil))
        (blkOk_by (own := [("_law_k", 9)]) (N := NR) (sc := defScope sRen) (by decide +kernel)) (fun _ _ _ _ _ => pg_name (i := 9) scRn.nd rfl (Or.inl rfl)) (fun _ _ _ _ _ => pts_nil)
        (fun _ _ _ _ _ => pe_tup (pa_cons (show PE _ _ (tOp (rIxL K) _ _) from pe_ix ix_list (pv 6) (pv 9) (fun _ _ => rfl)) (pa_cons (pv 9) pa_nil)))) pa_nil)))
    (pss_cons (ps_setLc (i := 8) (own := [("_law_state", 11)]) (g := gName 11) (tt := tYes) rfl scRn.nd rfl rfl (sw_true rfl rfl rfl (by decide +kernel)) (pi_list (pv 6))
        (blkOk_by (own := [("_law_state", 11)]) (N := NR) (sc := defScope sRen) (by decide +kernel)) (fun _ _ _ _ _ => pg_name (i := 11) scRn.nd rfl (Or.inl rfl)) (fun _ _ _ _ _ => pts_nil)
        (fun _ _ _ _ _ => show PE _ _ (tCB (rTupOf K) (tCons (tLc (iTup K (tOp (rIxT K) _ _)) _ _ _ _) tNil)) from pe_callTy call_tupS (by rfl) T.c.tuple (by decide +kernel) (pa_cons (pe_lc (own := [("_law_item", 10)]) (g := gName 10) (tt := tYes) rfl scRn.nd (pi_tup (pe_ixT (pv 3) (pv 11) (fun _ _ => rfl)))
          (blkOk_by (own := [("_law_item", 10)]) (N := NR) (sc := relS scF (defScope sRen)) (by decide +kernel)) (fun _ _ _ _ _ => pg_name (i := 10) scRn.nd rfl (Or.inl rfl)) (fun _ _ _ _ _ => pts_nil)
          (fun _ _ _ _ _ => pe_ifExp (pt_cmpR op_isN (pv 10) pe_non (nomark _)) pe_non (pe_dget hu (pv 7) (pv 10) (fun _ _ => rfl)))) pa_nil)))
    (pss_one (ps_ret (pe_tup (pa_cons (pv 2) (pa_cons (pe_callTy call_tuple_of (by rfl) T.c.tuple (by decide +kernel) (pa_cons (pv 8) pa_nil)) (pa_cons (pe_callTy call_tuple_of (by rfl) T.c.tuple (by decide +kernel) (pa_cons
      (pe_lc (own := [("_law_state", 11)]) (g := gName 11) (tt := tYes) rfl scRn.nd (pi_list (pv 6))
        (blkOk_by (own := [("_law_state", 11)]) (N := NR) (sc := defScope sRen) (by decide +kernel)) (fun _ _ _ _ _ => pg_name (i := 11) scRn.nd rfl (Or.inl rfl)) (fun _ _ _ _ _ => pts_nil)
        (fun _ _ _ _ _ => show PE _ _ (tOp (rIxT K) _ _) from pe_ixT (pv 4) (pv 11) (fun _ _ => rfl))) pa_nil)) pa_nil))))))))))), ?_⟩
  obtain ⟨pr, pe, rvs, h1, h2, h3, h4, h5⟩ := M.ex
  have rn : rvs.length = n := by rw [h4, WM.rl]
  have n1 := WM.n1
  have n4 := WM.n4
  refine ⟨_, rfl, p, _, rfl, .inl (.inl (hd_sub _ _ h1)), rfl, _, _, rfl, _, _, rfl, _, _, rfl, rfl, ?_⟩
  refine ⟨_, rfl, pr, rvs, rfl, .inr (.inl (.inl (hd_sub _ _ h2))), _, _, rfl, rfl, RgOk.of_le (by decide) (by rw [rn]; omega) (by decide) (by omega), fun lf nlf => ?_⟩
  have e0 : rgV 1 ((rvs.length : Nat) : Int) = nl ((List.range (n - 1)).map (1 + ·)) := by
    unfold rgV nl
    rw [rn, List.map_map, show (((n : Nat) : Int) - 1).toNat = n - 1 by omega]
    refine List.map_congr_left fun x _ => ?_
    show V.int (1 + (x : Int)) = V.int (((1 + x : Nat)) : Int)
    rw [show (((1 + x : Nat)) : Int) = 1 + (x : Int) by omega]
  have p0 : List.Perm ([0] ++ (List.range (n - 1)).map (1 + ·)) (List.range n) := by
    have e : List.range n = 0 :: (List.range (n - 1)).map Nat.succ := by
      rw [show n = (n - 1) + 1 by omega, List.range_succ_eq_map, Nat.add_sub_cancel]
    rw [e]
    have e2 : (List.range (n - 1)).map (1 + ·) = (List.range (n - 1)).map Nat.succ := List.map_congr_left fun x _ => Nat.add_comm 1 x
    rw [e2]
    exact List.Perm.refl _
  generalize (List.range (n - 1)).map (1 + ·) = left0 at e0 p0
  rw [e0]
  have D1 := D.new nlf (.lst (nl left0))
  have s1 : Same (Hd d c H) (Hd d c (upd H lf (.lst (nl left0)))) := hd_new nlf _
  have g1 : Hd d c (upd H lf (.lst (nl left0))) lf = some (.lst (nl left0)) := hd_of upd_same (D.free nlf).1 (D.free nlf).2
  have nHlf : Hd d c H lf = none := hd_none nlf
  generalize upd H lf (.lst (nl left0)) = G1 at D1 s1 g1
  refine ⟨by show 1 ≤ 2 ^ 24; decide, fun lo nlo => ?_⟩
  have D2 := D1.new nlo (.lst [V.int 0])
  have s2 : Same (Hd d c G1) (Hd d c (upd G1 lo (.lst [V.int 0]))) := hd_new nlo _
  have g2 : Hd d c (upd G1 lo (.lst [V.int 0])) lo = some (.lst (nl [0])) := hd_of upd_same (D1.free nlo).1 (D1.free nlo).2
  have nHlo : Hd d c H lo = none := s1.free (hd_none nlo)
  have lne : lf ≠ lo := fun e => by
    have := hd_sub _ _ g1
    rw [e, nlo] at this
    cases this
  have g1' := s2 _ _ g1
  generalize upd G1 lo (.lst [V.int 0]) = G2 at D2 s2 g2 g1'
  refine while_by (fun σ G => ∃ left order : List Nat, σ = [some (.ref d), some (.ref p), some (.int l), some (.ref pr), some (.ref pe), some (.ref lf), some (.ref lo), none, none, none, none, none] ∧ Deck G d c (m + order.length) ∧ Same (Hd d c H) (Hd d c G) ∧
      Hd d c G lf = some (.lst (nl left)) ∧ Hd d c G lo = some (.lst (nl order)) ∧ List.Perm (order ++ left) (List.range n) ∧ order[0]? = some 0)
    (fun _ G => match G lf with | some (.lst xs) => xs.length | _ => 0) ⟨left0, [0], rfl, D2.mono (by omega), s1.trans s2, g1', g2, p0, rfl⟩ ?_ ?_
  · rintro σ G ⟨left, order, rfl, DG, sG, gl, go, pm, h0⟩
    have ll : left.length ≤ 400 := by
      have := pm.length_eq
      rw [List.length_append, List.length_range] at this
      omega
    have ol : order.length + left.length ≤ 400 := by
      have := pm.length_eq
      rw [List.length_append, List.length_range] at this
      omega
    have mu0 : (match G lf with | some (.lst xs) => xs.length | _ => 0) = left.length := by rw [hd_sub _ _ gl]; exact nl_len left
    refine ⟨_, rfl, by show 0 ≤ 2 ^ 24; decide, fun e nE => ?_⟩
    have sE : Same (Hd d c G) (Hd d c (upd G e (.lst []))) := hd_new nE _
    have DE := DG.new nE (.lst [])
    have geE : upd G e (.lst []) e = some (.lst []) := upd_same
    generalize upd G e (.lst []) = GE at sE DE geE
    refine ⟨lf, e, _, rfl, rfl, hd_sub _ _ (sE _ _ gl), geE, _, rfl, ?_⟩
    cases left with
    | nil =>
      have O : Ord n order := ⟨by rw [List.append_nil] at pm; exact pm, h0⟩
      have oln : order.length = n := O.len
      have look : ∀ G' : Hp, Same (Hd d c H) (Hd d c G') → G' p = some (.tup [.int l, .ref pr, .ref pe]) ∧ G' pr = some (.tup rvs) ∧ G' pe = some (.tup (ends.map V.bl)) := fun G' s => ⟨hd_sub _ _ (s _ _ h1), hd_sub _ _ (s _ _ h2), hd_sub _ _ (s _ _ h3)⟩
      have sH := sG.trans sE
      have go2 := hd_sub _ _ (sE _ _ go)
      -- new = dict(..)
      refine ⟨_, rfl, lo, _, rfl, .inl (.inl (.inl go2)), _, rfl, by rw [nl_len]; omega, by rw [nl_len]; omega, fun L nL => ?_⟩
      have en : (((nl order).length : Nat) : Int).toNat = n := by rw [nl_len, oln]; exact Int.toNat_natCast n
      rw [en]
      refine lc_range (lo := 0) (n := n) (fun k G' => Same GE G' ∧ ∃ ps : List Addr, G' L = some (.lst (ps.map V.ref)) ∧ ps.length = k ∧ Paired (fun t (kv : Key × V) => G' t = some (.tup [kV kv.1, kv.2])) ps (kvs order k))
        ⟨same_new nL _, [], upd_same, rfl, .nil⟩ ?_ ?_
      · rintro k G' hk ⟨s4, ps, q1, q2, q3⟩
        have ek : (0 : Int) + (k : Int) = ((k : Nat) : Int) := Int.zero_add _
        obtain ⟨x, hx⟩ : ∃ x, order[k]? = some x := ⟨_, List.getElem?_eq_getElem (by omega)⟩
        have ox : order.getD k 0 = x := by rw [List.getD_eq_getElem?_getD, hx]; rfl
        refine ⟨rfl, _, rfl, _, rfl, lo, _, _, .int (x : Int), rfl, rfl, .inl (.inl (s4 _ _ go2)), at_of ek (nl_at hx), _, rfl, by show 2 ≤ 2 ^ 24; decide, fun t nt => ?_⟩
        have tL : t ≠ L := fun z => by rw [z, q1] at nt; cases nt
        have st := same_new nt (.tup [V.int (x : Int), V.int ((0 : Int) + (k : Int))])
        refine ⟨_, st _ _ q1, by rw [List.length_map, q2]; show k < 2 ^ 24; omega, same_grow nL (s4.trans st) _, ps ++ [t], by rw [upd_same, List.map_append]; rfl, by rw [List.length_append, q2]; rfl, ?_⟩
        have e5 : kvs order (k + 1) = kvs order k ++ [((Sum.inl ((order.getD k 0 : Nat) : Int) : Key), V.int (k : Int))] := by
          unfold kvs
          rw [List.range_succ, List.map_append]
          rfl
        rw [e5]
        refine paired_snoc (Paired.mapP q3 fun u kv hu' => ?_) ?_
        · have uL : u ≠ L := ne_of (st _ _ hu') (st _ _ q1) fun z => nomatch z
          rw [upd_ne uL]
          exact st _ _ hu'
        · rw [upd_ne tL, upd_same, ox, ek]
          rfl
      rintro G4 ⟨s4, ps, q1, q2, q3⟩
      refine ⟨L, ps, kvs order n, rfl, .inl (.inl q1), Paired.mapP q3 fun u kv hu' => .inl (.inl hu'), fun dq ndq => ?_⟩
      have s5 : Same GE (upd G4 dq (.dK (mergeK [] (kvs order n)))) := s4.trans (same_new ndq _)
      have gdq : upd G4 dq (.dK (mergeK [] (kvs order n))) dq = some (.dK (mergeK [] (kvs order n))) := upd_same
      generalize upd G4 dq (.dK (mergeK [] (kvs order n))) = G5 at s5 gdq
      -- found
      have r2l : (rows2 rows order).length = n := by unfold rows2; rw [List.length_map, oln]
      refine ⟨_, rfl, lo, rfl, ⟨_, .inl (.inl (s5 _ _ go2))⟩, fun Lf nLf => lc_list (K := K) (a := lo) (xs := nl order) (fun i G' => Same G5 G' ∧ ∃ us : List V, G' Lf = some (.lst us) ∧ us.length = i ∧
          ∀ (k : Nat) (r : List (Option Nat)), k < i → (rows2 rows order)[k]? = some r → ∃ t : Addr, us[k]? = some (.ref t) ∧ G' t = some (.tup (r.map oV))) ⟨same_new nLf _, [], upd_same, rfl, fun k r hk => absurd hk (Nat.not_lt_zero k)⟩
        (fun i G' _ h => .inl (.inl (h.1 _ _ (s5 _ _ go2)))) ?_ ?_⟩
      · rintro i v G' hv ⟨s6, us, u1, u2, u3⟩
        obtain ⟨x, hx, rfl⟩ := nl_of hv
        have xn := O.lt (List.mem_of_getElem? hx)
        obtain ⟨r, w1, w2, w3, w4⟩ := WM.row xn
        obtain ⟨t0, t1, t2⟩ := h5 x r w1
        have sG' := sH.trans (hd_same (s5.trans s6))
        obtain ⟨b1, b2, b3⟩ := look G' sG'
        have bt : G' t0 = some (.tup (r.map oV)) := hd_sub _ _ (sG' _ _ t2)
        have ri : (rows2 rows order)[i]? = some (r.map (Option.map (pos order))) := by
          unfold rows2
          rw [List.getElem?_map, hx, Option.map_some, List.getD_eq_getElem?_getD, w1]
          rfl
        refine ⟨rfl, _, rfl, _, rfl, pr, rvs, x, .ref t0, rfl, rfl, .inl (.inl b2), atI_nat t1, t0, rfl, ⟨_, .inl (.inl bt)⟩, fun Li nLi => lc_tup (K := K) (a := t0) (xs := r.map oV) (fun j G'' => Same G' G'' ∧ G'' Li = some (.lst (((r.take j).map (Option.map (pos order))).map oV)))
          ⟨same_new nLi _, upd_same⟩ (fun j G'' _ h => .inl (.inl (h.1 _ _ bt))) ?_ ?_⟩
        · rintro j y G'' hy ⟨s7, g7⟩
          rw [List.getElem?_map] at hy
          cases ho : r[j]? with
          | none => rw [ho] at hy; cases hy
          | some o =>
            rw [ho] at hy
            cases hy
            have lj : (((r.take j).map (Option.map (pos order))).map oV).length < 2 ^ 24 := by
              have l4 := WM.l4
              rw [List.length_map, List.length_map, List.length_take]
              omega
            have fin : ∀ v', v' = oV (o.map (pos order)) → ∃ acc, G'' Li = some (.lst acc) ∧ acc.length < sizeLine ∧ Same G' (upd G'' Li (.lst (acc ++ [v']))) ∧ upd G'' Li (.lst (acc ++ [v'])) Li = some (.lst (((r.take (j + 1)).map (Option.map (pos order))).map oV)) := by
              rintro v' rfl
              refine ⟨_, g7, lj, same_grow nLi s7 _, ?_⟩
              rw [upd_same, List.take_add_one, ho, List.map_append, List.map_append]
              rfl
            refine ⟨rfl, _, rfl, rfl, _, rfl, ?_⟩
            cases o with
            | none => exact fin _ rfl
            | some k =>
              have kn := w3 k (List.mem_of_getElem? ho)
              refine ⟨_, rfl, _, rfl, dq, .int ((pos order k : Nat) : Int), rfl, ?_, fin _ rfl⟩
              rw [← kvs_val O kn]
              exact DGet.k (k := Sum.inl (k : Int)) (s7 _ _ (s6 _ _ gdq))
        · rintro G'' ⟨s7, g7⟩
          rw [List.length_map, List.take_length] at g7
          refine ⟨Li, _, rfl, .inl ⟨.inl (.inl g7), fun t nt => ?_⟩⟩
          have st := s7.trans (same_new nt (.tup ((r.map (Option.map (pos order))).map oV)))
          have uf := st _ _ u1
          have tL : t ≠ Lf := fun z => by rw [z, s7 _ _ u1] at nt; cases nt
          have oi : i < order.length := (List.getElem?_eq_some_iff.mp hx).1
          refine ⟨_, uf, by rw [u2]; show i < 2 ^ 24; omega, same_grow nLf (s6.trans st) _, us ++ [.ref t], upd_same, by rw [List.length_append, u2]; rfl, ?_⟩
          intro k r' hk hr'
          by_cases e : k = i
          · subst e
            rw [ri] at hr'
            cases hr'
            refine ⟨t, ?_, by rw [upd_ne tL]; exact upd_same⟩
            rw [List.getElem?_append_right (by omega), u2, Nat.sub_self]
            rfl
          · obtain ⟨t', a1, a2⟩ := u3 k r' (by omega) hr'
            have a3 := st _ _ a2
            refine ⟨t', by rw [List.getElem?_append_left (by omega)]; exact a1, ?_⟩
            rw [upd_ne (ne_of a3 uf fun z => nomatch z)]
            exact a3
      · rintro G6 ⟨s6, us, u1, u2, u3⟩
        rw [nl_len, oln] at u2 u3
        refine ⟨_, rfl, _, rfl, Lf, us, rfl, .inl ⟨.inl (.inl u1), fun q1' nq1 => ?_⟩⟩
        have s7 := s6.trans (same_new nq1 (.tup us))
        have gq1 : upd G6 q1' (.tup us) q1' = some (.tup us) := upd_same
        have gts : ∀ (k : Nat) (r : List (Option Nat)), k < n → (rows2 rows order)[k]? = some r → ∃ t : Addr, us[k]? = some (.ref t) ∧ upd G6 q1' (.tup us) t = some (.tup (r.map oV)) := fun k r hk hr' => let ⟨t, a1, a2⟩ := u3 k r hk hr'; ⟨t, a1, same_new nq1 _ _ _ a2⟩
        generalize upd G6 q1' (.tup us) = G7 at s7 gq1 gts
        have go7 := s7 _ _ (s5 _ _ go2)
        refine ⟨_, rfl, lo, rfl, ⟨_, .inl (.inl go7)⟩, fun Le nLe => lc_list (K := K) (a := lo) (xs := nl order) (fun i G' => Same G7 G' ∧ G' Le = some (.lst ((((order.take i).map fun s => ends.getD s false)).map V.bl))) ⟨same_new nLe _, upd_same⟩ (fun i G' _ h => .inl (.inl (h.1 _ _ go7))) ?_ ?_⟩
        · rintro i v G' hv ⟨s8, g8⟩
          obtain ⟨x, hx, rfl⟩ := nl_of hv
          have xn := O.lt (List.mem_of_getElem? hx)
          have xe : x < ends.length := by rw [WM.el]; exact xn
          obtain ⟨b1, b2, b3⟩ := look G' (sH.trans (hd_same (s5.trans (s7.trans s8))))
          refine ⟨rfl, _, rfl, _, rfl, pe, _, x, .bl (ends.getD x false), rfl, rfl, .inl (.inl b3), atI_nat ?_, ?_⟩
          · rw [List.getElem?_map, List.getD_eq_getElem?_getD, List.getElem?_eq_getElem xe]; rfl
          refine ⟨_, g8, by rw [List.length_map, List.length_map, List.length_take]; show _ < 2 ^ 24; omega, same_grow nLe s8 _, ?_⟩
          rw [upd_same, List.take_add_one, hx, List.map_append, List.map_append]
          rfl
        · rintro G8 ⟨s8, g8⟩
          rw [nl_len, List.take_length] at g8
          refine ⟨Le, _, rfl, .inl ⟨.inl (.inl g8), fun q2' nq2 => ⟨by show 3 ≤ 2 ^ 24; decide, fun q3' nq3 => ?_⟩⟩⟩
          have s9 := s8.trans ((same_new nq2 (.tup (((order.map fun s => ends.getD s false)).map V.bl))).trans (same_new nq3 (.tup [V.int (l : Int), V.ref q1', V.ref q2'])))
          have sF := hd_same (d := d) (c := c) (s5.trans (s7.trans s9))
          have D9 := DE.same (s5.trans (s7.trans s9))
          refine q q3' order _ O ?_ (D9.mono (by omega)) (sH.trans sF)
          refine ⟨q1', q2', us, D9.tup upd_same, D9.tup (s9 _ _ gq1), D9.tup (same_new nq3 _ _ _ upd_same), by rw [u2, r2l], fun i r hr' => ?_⟩
          obtain ⟨t, a1, a2⟩ := gts i r (by rw [← r2l]; exact (List.getElem?_eq_some_iff.mp hr').1) hr'
          exact ⟨t, a1, D9.tup (s9 _ _ a2)⟩
    | cons y ys =>
      have gl2 := sE _ _ gl
      have go2 := sE _ _ go
      refine ⟨_, rfl, .inl ⟨rfl, _, .inl (.inl (hd_sub _ _ go2))⟩, _, rfl, .inl ⟨rfl, _, .inl (.inl (hd_sub _ _ gl2))⟩, _, rfl, _, rfl, lf, _, rfl, .inl (.inl (.inl (hd_sub _ _ gl2))), d, c, ((nl (y :: ys)).length : Int), _, rfl, DE, by omega, by rw [nl_len, List.length_cons]; omega, by rw [nl_len]; omega, fun r G3 r0 r1 D3 s3 => ?_⟩
      rw [nl_len] at r1
      obtain ⟨k, rfl⟩ : ∃ k : Nat, r = (k : Int) := ⟨r.toNat, by omega⟩
      have kl : k < (y :: ys).length := by omega
      obtain ⟨x, hx⟩ : ∃ x, (y :: ys)[k]? = some x := ⟨_, List.getElem?_eq_getElem kl⟩
      have gl3 := s3 _ _ gl2
      have go3 := s3 _ _ go2
      have fl := hd_some gl3
      have fo := hd_some go3
      have ik : ixN (nl (y :: ys)).length (k : Int) = some k := by
        unfold ixN
        rw [nl_len, if_pos (by omega), if_pos (by omega), Int.toNat_natCast]
      refine ⟨lf, _, k, k, _, rfl, rfl, fl.1, by omega, by omega, (ixN_seq ik).1, nl_at hx, lo, _, _, rfl, rfl, by rw [upd_ne lne.symm]; exact fo.1, by rw [nl_len]; show _ < 2 ^ 24; omega, ?_⟩
      rw [nl_erase]
      refine ⟨⟨(y :: ys).eraseIdx k, order ++ [x], rfl, ?_, ?_, ?_, ?_, ?_, ?_⟩, ?_⟩
      · rw [List.length_append]
        exact (((D3.mono (by show _ ≤ m + (order.length + 1); omega)).put fl.2.1 fl.2.2 _).put fo.2.1 fo.2.2 _)
      · exact hd_grow nHlo (hd_grow nHlf (sG.trans (sE.trans s3)) _) _
      · exact hd_of (by rw [upd_ne lne]; exact upd_same) fl.2.1 fl.2.2
      · refine hd_of ?_ fo.2.1 fo.2.2
        rw [upd_same]
        unfold nl
        rw [List.map_append]
        rfl
      · have pe' := perm_erase hx
        rw [List.append_assoc]
        exact (List.Perm.append_left order pe').trans pm
      · cases order with
        | nil => cases h0
        | cons o os => exact h0
      · rw [mu0]
        show (match upd (upd G3 lf (.lst (nl ((y :: ys).eraseIdx k)))) lo _ lf with | some (.lst xs) => xs.length | _ => 0) < _
        rw [upd_ne lne, upd_same]
        show (nl ((y :: ys).eraseIdx k)).length < (y :: ys).length
        rw [nl_len, List.length_eraseIdx]
        rw [if_pos kl]
        show (y :: ys).length - 1 < (y :: ys).length
        rw [List.length_cons]
        omega
  · rintro σ G Q1 Q2 hQ ⟨v, e1, e2, e3⟩
    exact ⟨v, e1, e2, fun x nx => let ⟨a, b, xs, x1, x2, x3, x4, k, x5, x6⟩ := e3 x nx; ⟨a, b, xs, x1, x2, x3, x4, k, x5, hQ _ _ x6⟩⟩
end
end K22
namespace K22
open PySem L2 GL KC
def spLaw (K : PySem.W.Frag) : Sp := fun vs H Q _ => ∃ (a : Addr) (ns : List Int), vs = [.ref a] ∧ SqL K H a (ns.map V.int) ∧ ns.length ≤ 63 ∧ ∀ H', Q (.bl true) H'
def conv : PyData → Option Nat
  | .int i => some i.toNat
  | _ => none
def rowOf : PyData → List (Option Nat)
  | .tuple xs => xs.map conv
  | _ => []
theorem conv_all {K : PySem.W.Frag} {H : Hp} {n : Nat} : ∀ {xs : List PyData} {ws : List V}, DtAll K H ws xs → (∀ x ∈ xs, x = .none ∨ ∃ i : Int, x = .int i ∧ 0 ≤ i ∧ i < n) → ws = (xs.map conv).map oV ∧ ∀ k, some k ∈ xs.map conv → k < n
  | _, _, .nil, _ => ⟨rfl, fun k h => nomatch h⟩
  | _, _, .cons (d := x) a r, hx => by
    obtain ⟨e1, e2⟩ := conv_all r fun y hy => hx y (List.mem_cons_of_mem _ hy)
    rcases hx x List.mem_cons_self with rfl | ⟨i, rfl, i0, i1⟩
    · cases a
      refine ⟨by rw [e1]; rfl, fun k hk => ?_⟩
      rcases List.mem_cons.mp hk with h | h
      · cases h
      · exact e2 k h
    · cases a
      refine ⟨?_, fun k hk => ?_⟩
      · rw [e1]
        show V.int i :: _ = V.int ((i.toNat : Nat) : Int) :: _
        rw [Int.toNat_of_nonneg i0]
      · rcases List.mem_cons.mp hk with h | h
        · have : k = i.toNat := Option.some.inj h
          omega
        · exact e2 k h
theorem bools_are {K : PySem.W.Frag} {H : Hp} : ∀ {bs : List Bool} {ws : List V}, DtAll K H ws (bs.map PyData.bool) → ws = bs.map V.bl
  | [], _, h => by cases h; rfl
  | b :: bs, _, h => by
    cases h with
    | cons a r =>
      cases a
      rw [bools_are r]
      rfl
theorem mach_of {K : PySem.W.Frag} {H : Hp} {p : Addr} {l n : Nat} {md : PyData} (im : IsMach l n md) (h : Dt K H (.ref p) md) (l1 : 1 ≤ l) (l4 : l ≤ 4) (n1 : 1 ≤ n) (n4 : n ≤ 400) : ∃ rows ends, MachAt H p l rows ends ∧ WF l n rows ends := by
  obtain ⟨rs, bs, rfl, i1, i2, i3⟩ := im
  cases h with
  | @tup _ us _ hp hus =>
  match us, hus with
  | [_, _, _], .cons a1 (.cons a2 (.cons a3 .nil)) =>
    cases a1
    cases a2 with
    | @tup pr rvs _ hpr hrs =>
    cases a3 with
    | @tup pe ws _ hpe hws =>
    have we := bools_are hws
    subst we
    refine ⟨rs.map rowOf, bs, ⟨pr, pe, rvs, hp, hpr, hpe, by rw [List.length_map]; exact hrs.length, fun i r hr => ?_⟩, ⟨l1, l4, n1, n4, by rw [List.length_map]; exact i1, i2, fun r hr => ?_⟩⟩
    · rw [List.getElem?_map] at hr
      cases e : rs[i]? with
      | none => rw [e] at hr; cases hr
      | some x =>
        rw [e] at hr
        cases hr
        obtain ⟨xs, rfl, x1, x2⟩ := i3 x (List.mem_of_getElem? e)
        have il : i < rvs.length := by rw [hrs.length]; exact (List.getElem?_eq_some_iff.mp e).1
        obtain ⟨v, hv⟩ : ∃ v, rvs[i]? = some v := ⟨_, List.getElem?_eq_getElem il⟩
        obtain ⟨dd, d1, d2⟩ := hrs.get hv
        rw [e] at d1
        cases d1
        cases d2 with
        | @tup t ws2 _ ht hts =>
          obtain ⟨c1, _⟩ := conv_all hts x2
          exact ⟨t, hv, by rw [ht, c1]; rfl⟩
    · obtain ⟨x, hx, rfl⟩ := List.mem_map.mp hr
      obtain ⟨xs, rfl, x1, x2⟩ := i3 x hx
      refine ⟨by show (xs.map conv).length = l; rw [List.length_map]; exact x1, ?_⟩
      -- the items, below n
      intro k hk
      obtain ⟨y, hy, e⟩ := List.mem_map.mp hk
      rcases x2 y hy with rfl | ⟨i, rfl, j0, j1⟩
      · cases e
      · have : i.toNat = k := Option.some.inj e
        omega
theorem if_many {b : Bool} {d c0 : Addr} {m : Nat} {σ : L2.St} {G : Hp} {Q : VK} (hσ : σ[1]? = some (some (.ref d))) (D : Deck G d c0 m) (hm : m ≤ 900000000)
    (q : ∀ (n : Nat) (G2 : Hp), 1 ≤ n → n ≤ 400 → Deck G2 d c0 (m + 1) → Same (Hd d c0 G) (Hd d c0 G2) → Q (.int (n : Int)) G2) :
    if b = true then tOp (rI0 fun i j => V.int (i + j)) (tC (.int 1)) (tCall spDraw [] E0 (tCons (tVar 1) (tCons (tC (.int 9)) tNil))) σ G Q
    else tOp (rI0 fun i j => V.int (i + j)) (tC (.int 60)) (tCall spDraw [] E0 (tCons (tVar 1) (tCons (tC (.int 341)) tNil))) σ G Q := by
  cases b with
  | true =>
    refine iteT ⟨_, hσ, d, c0, 9, m, rfl, D, by omega, by decide, by decide, fun r G2 r0 r1 D2 s2 => ⟨_, _, rfl, rfl, ?_⟩⟩
    obtain ⟨k, rfl⟩ : ∃ k : Nat, r = (k : Int) := ⟨r.toNat, by omega⟩
    exact q (1 + k) G2 (by omega) (by omega) D2 s2
  | false =>
    refine iteF ⟨_, hσ, d, c0, 341, m, rfl, D, by omega, by decide, by decide, fun r G2 r0 r1 D2 s2 => ⟨_, _, rfl, rfl, ?_⟩⟩
    obtain ⟨k, rfl⟩ : ∃ k : Nat, r = (k : Int) := ⟨r.toNat, by omega⟩
    exact q (60 + k) G2 (by omega) (by omega) D2 s2
def tw (ws : List (List Nat)) : List V := ws.map fun u => V.str (wS u)
theorem tw_len (ws : List (List Nat)) : (tw ws).length = ws.length := List.length_map _
theorem tw_app (ws : List (List Nat)) (u : List Nat) : tw ws ++ [V.str (wS u)] = tw (ws ++ [u]) := by unfold tw; rw [List.map_append]; rfl
abbrev NW : List Str := ["_law_script", "_law_deck_here", "_law_turn", "_law_letters", "_law_many", "_law_machine_here", "_law_other", "_law_kept", "_law_words", "_law_k", "_law_word_here", "_law_due", "_law_end"]
section
variable {P : Program} {w : World} {K : PySem.W.Frag} {mg : Str → Option Value} {base : Heap}
theorem scL : FnScope ["_law_script", "_law_deck_here", "_law_turn", "_law_letters", "_law_many", "_law_machine_here", "_law_other", "_law_kept", "_law_words", "_law_k", "_law_word_here", "_law_due", "_law_end"] ["_law_script"] (defScope sLaw) := ⟨rfl, rfl, rfl, by decide +kernel, rfl, by decide +kernel, by decide +kernel⟩
theorem ok_law {f fK fW fM fI fR fN fA fD fO : Addr} {fd fdK fdW fdM fdI fdR fdN fdA fdD fdO : FuncData} (F : Fun K "law" "law" sLaw f fd) (T : Txt mg)
    (DK : Dfn P w K mg base "_law_deck" 1 fK fdK ["_law_script"] (spDeck K)) (W : Dfn P w K mg base "_law_draw" 1 fW fdW ["_law_deck_here", "_law_many"] spDraw)
    (MM : Dfn P w K mg base "_law_machine" 3 fM fdM ["_law_deck_here", "_law_letters", "_law_many"] (spMach K)) (IS : Dfn P w K mg base "is_of" 1 fI fdI ["machine", "word"] spIs) (RD : Dfn P w K mg base "_law_read" 1 fR fdR ["_law_machine_here", "_law_word_here"] spIs)
    (RN : Dfn P w K mg base "_law_renamed" 2 fN fdN ["_law_deck_here", "_law_machine_here"] spRen) (WA : Dfn P w K mg base "_law_walked" 3 fA fdA ["_law_deck_here", "_law_machine_here", "_law_most"] spWalked)
    (WD : Dfn P w K mg base "_law_word" 3 fD fdD ["_law_deck_here", "_law_letters", "_law_most"] spWord) (OT : Dfn P w K mg base "_law_otherwise" 3 fO fdO ["_law_deck_here", "_law_letters", "_law_word_here"] spOth) : Fg P w K mg base CX0 4 f fd ["_law_script"] (spLaw K) := by
  refine ok_g F scL (fun vs H Q E h => ?_) (fun cdv A outer s H vs Q E hg hr h => ?_)
  · obtain ⟨a, ns, rfl, _⟩ := h
    rfl
  obtain ⟨a, ns, rfl, hS, hl, q⟩ := h
  have hr1 : Room 1 _ := hr.mono (by decide)
  have hr2 : Room 2 _ := hr.mono (by decide)
  refine ⟨_, pss_cons (ps_set (i := 1) scL.nd rfl (Or.inl rfl) (pe_call DK.ok hr1 rfl DK.m DK.kp DK.b .nil pass0 (pa_cons (pv 0) pa_nil)))
    (pss_cons (ps_for PassesOwn.never rfl (pi_range1 rfl T.c.range (pa_cons pe_int pa_nil)) (pg_name (i := 2) scL.nd rfl (Or.inl rfl))
      (pss_cons (ps_set (i := 3) scL.nd rfl (Or.inl rfl) (pe_op op_add pe_int (pe_call W.ok hr1 rfl W.m W.kp W.b .nil pass0 (pa_cons (pv 1) (pa_cons pe_int pa_nil)))))
      (pss_cons (ps_set (i := 4) scL.nd rfl (Or.inl rfl) (pe_ifExp (pt_cmpR op_lt (pv 2) pe_int (nomark _)) (pe_op op_add pe_int (pe_call W.ok hr1 rfl W.m W.kp W.b .nil pass0 (pa_cons (pv 1) (pa_cons pe_int pa_nil)))) (pe_op op_add pe_int (pe_call W.ok hr1 rfl W.m W.kp W.b .nil pass0 (pa_cons (pv 1) (pa_cons pe_int pa_nil))))))
      (pss_cons (ps_set (i := 5) scL.nd rfl (Or.inl rfl) (pe_call MM.ok hr rfl MM.m MM.kp MM.b .nil pass0 (pa_cons (pv 1) (pa_cons (pv 3) (pa_cons (pv 4) pa_nil)))))
      (pss_cons (ps_par (i := 6) (j := 7) (by rfl) scL.nd rfl rfl (by decide) rfl rfl (pa_cons (pe_call RN.ok hr2 rfl RN.m RN.kp RN.b .nil pass0 (pa_cons (pv 1) (pa_cons (pv 5) pa_nil))) (pa_cons (pe_callB (call_reprD hg hr.units) (by rfl) T.repr (by decide +kernel) (pa_cons (pv 5) pa_nil)) pa_nil)) (by rfl))
      (pss_cons (ps_set (i := 8) scL.nd rfl (Or.inl rfl) (pe_lst (pa_cons pe_str (pa_cons (pe_call WD.ok hr rfl WD.m WD.kp WD.b .nil pass0 (pa_cons (pv 1) (pa_cons (pv 3) (pa_cons pe_int pa_nil)))) (pa_cons (pe_call WD.ok hr rfl WD.m WD.kp WD.b .nil pass0 (pa_cons (pv 1) (pa_cons (pv 3) (pa_cons pe_int pa_nil))))
        (pa_cons (pe_call WA.ok hr rfl WA.m WA.kp WA.b .nil pass0 (pa_cons (pv 1) (pa_cons (pv 5) (pa_cons pe_int pa_nil)))) pa_nil))))))
      (pss_cons (ps_for PassesOwn.never rfl (pi_range1 rfl T.c.range (pa_cons pe_int pa_nil)) (pg_name (i := 9) scL.nd rfl (Or.inl rfl))
        (pss_cons (ps_expr (pe_bm PySem.F.plainAttrs_list PySem.F.slot_list_append PySem.F.type_list_append mt_append (pv 8) (pa_cons (pe_call WA.ok hr rfl WA.m WA.kp WA.b .nil pass0 (pa_cons (pv 1) (pa_cons (pv 5) (pa_cons pe_int pa_nil)))) pa_nil)))
        (pss_one (ps_expr (pe_bm PySem.F.plainAttrs_list PySem.F.slot_list_append PySem.F.type_list_append mt_append (pv 8) (pa_cons (pe_call OT.ok hr rfl OT.m OT.kp OT.b .nil pass0 (pa_cons (pv 1) (pa_cons (pv 3) (pa_cons (pe_ix ix_list (pv 8) (pe_un un_neg pe_int) (fun _ _ => rfl)) pa_nil)))) pa_nil))))))
      (pss_cons (ps_for PassesOwn.never rfl (pi_list (pv 8)) (pg_name (i := 10) scL.nd rfl (Or.inl rfl))
        (pss_cons (ps_set (i := 11) scL.nd rfl (Or.inl rfl) (pe_call RD.ok hr1 rfl RD.m RD.kp RD.b .nil pass0 (pa_cons (pv 5) (pa_cons (pv 10) pa_nil))))
        (pss_one (ps_if (pt_cmpR op_ne (pe_callB (call_reprD hg hr.units) (by rfl) T.repr (by decide +kernel) (pa_cons (pe_lst (pa_cons (pe_call IS.ok hr1 rfl IS.m IS.kp IS.b .nil pass0 (pa_cons (pv 5) (pa_cons (pv 10) pa_nil))) (pa_cons (pe_call IS.ok hr1 rfl IS.m IS.kp IS.b .nil pass0 (pa_cons (pv 6) (pa_cons (pv 10) pa_nil)))
            (pa_cons (pe_call IS.ok hr1 rfl IS.m IS.kp IS.b .nil pass0 (pa_cons (pv 5) (pa_cons (pv 10) pa_nil))) pa_nil)))) pa_nil)) (pe_callB (call_reprD hg hr.units) (by rfl) T.repr (by decide +kernel) (pa_cons (pe_lst (pa_cons (pv 11) (pa_cons (pv 11) (pa_cons (pv 11) pa_nil)))) pa_nil)) (nomark _)) (pss_one (ps_ret pe_bl)) pss_nil))))
      (pss_one (ps_if (pt_cmpR op_ne (pe_callB (call_reprD hg hr.units) (by rfl) T.repr (by decide +kernel) (pa_cons (pv 5) pa_nil)) (pv 7) (nomark _)) (pss_one (ps_ret pe_bl)) pss_nil))))))))))
    (pss_one (ps_ret (pe_cmpR op_eq (pe_callB (call_reprD hg hr.units) (by rfl) T.repr (by decide +kernel) (pa_cons (pe_lc (own := [("_law_end", 12)]) (g := gName 12) (tt := tYes) rfl scL.nd (pi_list (pe_lst (pa_cons pe_bl (pa_cons pe_bl pa_nil))))
        (blkOk_by (own := [("_law_end", 12)]) (N := NW) (sc := defScope sLaw) (by decide +kernel)) (fun _ _ _ _ _ => pg_name (i := 12) scL.nd rfl (Or.inl rfl)) (fun _ _ _ _ _ => pts_nil)
        (fun _ _ _ _ _ => pe_call IS.ok hr1 rfl IS.m IS.kp IS.b .nil pass0 (pa_cons (pe_tup (pa_cons pe_int (pa_cons (pe_tup (pa_cons (pe_tup (pa_cons pe_non pa_nil)) pa_nil)) (pa_cons (pe_tup (pa_cons (pv 12) pa_nil)) pa_nil)))) (pa_cons pe_str pa_nil)))) pa_nil)) pe_str (nomark _))))), ?_⟩
  refine ⟨_, rfl, a, ns, rfl, hS, hl, fun d c G0 s0 nd nc D0 => ?_⟩
  refine ⟨6, rfl, by decide, by decide, for_range (lo := 0) (n := 6) (fun i σ G => ∃ (k2 k3 k4 k5 k6 k7 k8 k9 k10 k11 : Option V), σ = [some (.ref a), some (.ref d), k2, k3, k4, k5, k6, k7, k8, k9, k10, k11, none] ∧ Deck G d c (i * 30000))
      ⟨none, none, none, none, none, none, none, none, none, none, rfl, D0⟩ ?_ ?_⟩
  · rintro i σ G hi ⟨k2, k3, k4, k5, k6, k7, k8, k9, k10, k11, rfl, DG⟩
    have ib : i * 30000 ≤ 180000 := by omega
    refine ⟨_, rfl, d, c, 4, _, rfl, DG, by omega, by decide, by decide, fun r1 G1 r10 r11 D1 s1 => ⟨_, _, rfl, rfl, ?_⟩⟩
    obtain ⟨l0, rfl⟩ : ∃ l0 : Nat, r1 = (l0 : Int) := ⟨r1.toNat, by omega⟩
    refine ⟨_, rfl, _, _, rfl, rfl, _, rfl, if_many rfl D1 (by omega) fun n G2 n1 n4 D2 s2 => ?_⟩
    refine ⟨_, rfl, _, rfl, _, rfl, d, c, 1 + l0, n, _, rfl, D2, by omega, by omega, by omega, n1, n4, fun p md G3 im dm D3 s3 => ?_⟩
    obtain ⟨rows, ends, M, WM⟩ := mach_of im dm (by omega) (by omega) n1 n4
    generalize hl0 : 1 + l0 = l at im M WM
    have fm := (fit_mach im WM.l4 n4).mono (show 188 * n + 60 ≤ 100000 by omega) (Nat.le_refl 3)
    have shm : ∀ (G' : Hp), Same (Hd d c G3) (Hd d c G') → Dt K G' (.ref p) md ∧ md.showable = true ∧ md.depth ≤ 60 ∧ md.shown.length ≤ sizeLine := fun G' s => by
      refine ⟨(dm.same s).same hd_sub, fm.s, Nat.le_trans fm.k (by decide), ?_⟩
      have a := shown_wt md _ dm
      have b := fm.w
      show _ ≤ 2 ^ 24
      omega
    subst hl0
    refine ⟨_, rfl, _, rfl, d, c, p, 1 + l0, n, _, rows, ends, rfl, D3, by omega, M, WM, fun p2 order G4 O M2 D4 s4 => ?_⟩
    obtain ⟨m1, m2, m3, m4⟩ := shm G4 s4
    refine ⟨_, rfl, _, md, rfl, m1, m2, m3, m4, _, _, rfl, ?_⟩
    refine ⟨_, rfl, _, rfl, d, c, 1 + l0, 6, _, rfl, D4, by omega, WM.l1, WM.l4, by decide, fun w1 G5 a1 b1 D5 s5 => ?_⟩
    refine ⟨_, rfl, _, rfl, d, c, 1 + l0, 400, _, rfl, D5, by omega, WM.l1, WM.l4, by decide, fun w2 G6 a2 b2 D6 s6 => ?_⟩
    have M6 := M.same (s4.trans (s5.trans s6))
    refine ⟨_, rfl, _, rfl, d, c, p, 1 + l0, n, 400, _, rows, ends, rfl, D6, by omega, M6, WM, by decide, fun w3 G7 a3 b3 D7 s7 => ⟨by show 4 ≤ 2 ^ 24; decide, fun lw nlw => ?_⟩⟩
    have sM : Same (Hd d c G3) (Hd d c G7) := s4.trans (s5.trans (s6.trans s7))
    have M7 := M.same sM
    have N7 := M2.same (s5.trans (s6.trans s7))
    have W2 := wf2 WM O
    have nlwH : Hd d c G7 lw = none := hd_none nlw
    have e0 : [V.str "", V.str (wS w1), V.str (wS w2), V.str (wS w3)] = tw [[], w1, w2, w3] := by
      show _ = [V.str (wS []), _, _, _]
      rw [wS_nil]
    have g0 : upd G7 lw (.lst [V.str "", V.str (wS w1), V.str (wS w2), V.str (wS w3)]) lw = some (.lst (tw [[], w1, w2, w3])) := by rw [upd_same, e0]
    have s8 : Same (Hd d c G7) (Hd d c (upd G7 lw (.lst [V.str "", V.str (wS w1), V.str (wS w2), V.str (wS w3)]))) := hd_new nlw _
    have D8 := D7.new nlw (.lst [V.str "", V.str (wS w1), V.str (wS w2), V.str (wS w3)])
    have flw := D7.free nlw
    have al0 : ∀ u ∈ [[], w1, w2, w3], (∀ j ∈ u, j < 1 + l0) ∧ u.length ≤ 1000 := by
      simp only [List.forall_mem_cons]
      exact ⟨⟨(fun j h => nomatch h), Nat.zero_le _⟩, ⟨a1, by omega⟩, ⟨a2, by omega⟩, ⟨a3, by omega⟩, fun _ h => nomatch h⟩
    generalize upd G7 lw (.lst [V.str "", V.str (wS w1), V.str (wS w2), V.str (wS w3)]) = G8 at g0 s8 D8
    refine ⟨8, rfl, by decide, by decide, for_range (lo := 0) (n := 8) (fun j σ G' => ∃ (k9' : Option V) (ws : List (List Nat)), σ = [some (.ref a), some (.ref d), some (.int (0 + i)), some (.int (1 + l0 : Nat)), some (.int n), some (.ref p), some (.ref p2), some (.str md.shown), some (.ref lw), k9', k10, k11, none] ∧
        Deck G' d c (i * 30000 + 8000 + j * 1100) ∧ Same (Hd d c G7) (Hd d c G') ∧ Hd d c G' lw = some (.lst (tw ws)) ∧ ws.length = 4 + 2 * j ∧ ∀ u ∈ ws, (∀ j ∈ u, j < 1 + l0) ∧ u.length ≤ 1000)
      ⟨k9, [[], w1, w2, w3], rfl, D8.mono (by omega), s8, hd_of g0 flw.1 flw.2, rfl, al0⟩ ?_ ?_⟩
    · rintro j σ G' hj ⟨k9', ws, rfl, Dj, sj, gj, lj, aj⟩
      refine ⟨_, rfl, .inl ⟨rfl, _, .inl (.inl (hd_sub _ _ gj))⟩, _, rfl, _, rfl, d, c, p, 1 + l0, n, 12, _, rows, ends, rfl, Dj, by omega, M7.same sj, WM, by decide, fun u1 H1 c1 c2 E1 t1 => ?_⟩
      have g2 := t1 _ _ gj
      refine ⟨lw, _, _, rfl, rfl, hd_sub _ _ g2, by rw [tw_len, lj]; show _ < 2 ^ 24; omega, ?_⟩
      rw [tw_app]
      have g3 : upd H1 lw (.lst (tw (ws ++ [u1]))) lw = some (.lst (tw (ws ++ [u1]))) := upd_same
      have s3' : Same (Hd d c G7) (Hd d c (upd H1 lw (.lst (tw (ws ++ [u1]))))) := hd_grow nlwH (sj.trans t1) _
      have E2 := E1.put flw.1 flw.2 (.lst (tw (ws ++ [u1])))
      generalize upd H1 lw (.lst (tw (ws ++ [u1]))) = H2 at g3 s3' E2
      have last : atI (tw (ws ++ [u1])) (-1) = some (V.str (wS u1)) := by
        unfold atI ixN
        rw [tw_len, List.length_append, if_neg (by decide), if_pos (by show -(((ws.length + 1 : Nat)) : Int) ≤ -1; omega)]
        show (tw (ws ++ [u1]))[_]? = _
        unfold tw
        rw [List.getElem?_map, show ((-1 : Int) + ((ws.length + [u1].length : Nat) : Int)).toNat = ws.length by show ((-1 : Int) + ((ws.length + 1 : Nat) : Int)).toNat = ws.length; omega, List.getElem?_append_right (Nat.le_refl _), Nat.sub_self]
        rfl
      refine ⟨_, rfl, .inl ⟨rfl, _, .inl (.inl g3)⟩, _, rfl, _, rfl, _, rfl, _, rfl, lw, _, _, _, rfl, rfl, .inl (.inl g3), last, d, c, 1 + l0, _, u1, rfl, E2, by omega, WM.l1, WM.l4, by omega, c1, fun u2 H3 c3 c4 E3 t3 => ?_⟩
      have g4 := t3 _ _ (hd_of g3 flw.1 flw.2)
      refine ⟨lw, _, _, rfl, rfl, hd_sub _ _ g4, by rw [tw_len, List.length_append, lj]; show _ + 1 < 2 ^ 24; omega, ?_⟩
      rw [tw_app]
      refine ⟨_, ws ++ [u1] ++ [u2], rfl, (E3.put flw.1 flw.2 _).mono (by omega), hd_grow nlwH (s3'.trans t3) _, hd_of upd_same flw.1 flw.2, by rw [List.length_append, List.length_append, lj]; show 4 + 2 * j + 1 + 1 = 4 + 2 * (j + 1); omega, fun u hu => ?_⟩
      rcases List.mem_append.mp hu with hu | hu
      · rcases List.mem_append.mp hu with hu | hu
        · exact aj u hu
        · rw [List.mem_singleton.mp hu]; exact ⟨c1, by omega⟩
      · rw [List.mem_singleton.mp hu]; exact ⟨c3, by omega⟩
    · rintro σ GC ⟨k9', ws, rfl, DC, sC, gC, lC, aC⟩
      have gC' := hd_sub _ _ gC
      refine ⟨_, rfl, lw, rfl, ⟨_, .inl (.inl gC')⟩, for_list (K := K) (a := lw) (xs := tw ws) (fun j σ G' => ∃ (x10 x11 : Option V), σ = [some (.ref a), some (.ref d), some (.int (0 + i)), some (.int (1 + l0 : Nat)), some (.int n), some (.ref p), some (.ref p2), some (.str md.shown), some (.ref lw), k9', x10, x11, none] ∧ Same GC G')
        ⟨k10, k11, rfl, Same.refl _⟩ (fun j σ G' _ h => let ⟨_, _, _, s⟩ := h; .inl (.inl (s _ _ gC'))) ?_ ?_⟩
      · rintro j v σ G' hv ⟨x10, x11, rfl, sG⟩
        obtain ⟨u, hu, rfl⟩ : ∃ u, u ∈ ws ∧ v = V.str (wS u) := by
          obtain ⟨u, hu, e⟩ := List.mem_map.mp (List.mem_of_getElem? hv)
          exact ⟨u, hu, e.symm⟩
        have hl := (aC u hu).1
        have MM1 : ∀ G'', Same GC G'' → MachAt G'' p (1 + l0) rows ends := fun G'' s => ((M7.same sC).same hd_sub).same s
        have MM2 : ∀ G'', Same GC G'' → MachAt G'' p2 (1 + l0) (rows2 rows order) (ends2 ends order) := fun G'' s => ((N7.same sC).same hd_sub).same s
        refine ⟨_, rfl, _, rfl, p, 1 + l0, n, rows, ends, u, rfl, MM1 _ sG, WM, hl, fun H1 t1 => ?_⟩
        refine ⟨_, rfl, _, rfl, p, 1 + l0, n, rows, ends, u, rfl, MM1 _ (sG.trans t1), WM, hl, fun H2 t2 => ?_⟩
        refine ⟨_, rfl, _, rfl, p2, 1 + l0, n, _, _, u, rfl, MM2 _ (sG.trans (t1.trans t2)), W2, hl, fun H3 t3 => ?_⟩
        refine ⟨_, rfl, _, rfl, p, 1 + l0, n, rows, ends, u, rfl, MM1 _ (sG.trans (t1.trans (t2.trans t3))), WM, hl, fun H4 t4 => ⟨by show 3 ≤ 2 ^ 24; decide, fun x nx => ?_⟩⟩
        rw [isOf2 WM O u]
        generalize isOf rows ends u = b
        have f1 : Fit 30 1 (.list [.bool b, .bool b, .bool b]) := (Fit.lst (FitAll.cons (n := 5) (k := 0) (fit_bl (by decide)) (FitAll.cons (n := 5) (fit_bl (by decide)) (FitAll.cons (n := 5) (fit_bl (by decide)) FitAll.nil)))).mono (by decide) (by decide)
        have d1 : ∀ (G'' : Hp) (y : Addr), G'' y = some (.lst [V.bl b, V.bl b, V.bl b]) → Dt K G'' (.ref y) (.list [.bool b, .bool b, .bool b]) := fun G'' y g => .lst g (.cons (.bl b) (.cons (.bl b) (.cons (.bl b) .nil)))
        have z1 : (PyData.list [.bool b, .bool b, .bool b]).shown.length ≤ sizeLine := by cases b <;> decide +kernel
        refine ⟨_, _, rfl, d1 _ x upd_same, f1.s, Nat.le_trans f1.k (by decide), z1, ?_⟩
        refine ⟨_, rfl, _, rfl, _, rfl, by show 3 ≤ 2 ^ 24; decide, fun y ny => ⟨_, _, rfl, d1 _ y upd_same, f1.s, Nat.le_trans f1.k (by decide), z1, rfl, _, rfl, ?_⟩⟩
        refine iteNS rfl ?_
        exact ⟨_, _, rfl, sG.trans (t1.trans (t2.trans (t3.trans (t4.trans ((same_new nx _).trans (same_new ny _))))))⟩
      · rintro σ G' ⟨x10, x11, rfl, sG⟩
        obtain ⟨m1, m2, m3, m4⟩ := shm G' (sM.trans (sC.trans (hd_same sG)))
        refine ⟨_, rfl, _, md, rfl, m1, m2, m3, m4, _, rfl, rfl, _, rfl, ?_⟩
        refine iteNS rfl ?_
        exact ⟨_, _, _, _, _, _, _, _, _, _, rfl, (DC.same sG).mono (by omega)⟩
  · rintro σ G ⟨k2, k3, k4, k5, k6, k7, k8, k9, k10, k11, rfl, DG⟩
    refine ⟨by show 2 ≤ 2 ^ 24; decide, fun la nla => ⟨la, rfl, ⟨_, .inl (.inl upd_same)⟩, fun L nL => lc_list (K := K) (a := la) (xs := [V.bl true, V.bl false]) (fun j G' => Same (upd G la (.lst [V.bl true, V.bl false])) G' ∧ G' L = some (.lst ([V.bl true, V.bl false].take j)))
      ⟨same_new nL _, upd_same⟩ (fun j G' _ h => .inl (.inl (h.1 _ _ upd_same))) ?_ ?_⟩⟩
    · rintro j x G' hx ⟨s1, g1⟩
      obtain ⟨b, rfl⟩ : ∃ b, x = V.bl b := by
        rcases List.mem_cons.mp (List.mem_of_getElem? hx) with rfl | h
        · exact ⟨true, rfl⟩
        · exact ⟨false, List.mem_singleton.mp h⟩
      have jl : j < 2 := (List.getElem?_eq_some_iff.mp hx).1
      refine ⟨rfl, by show 1 ≤ 2 ^ 24; decide, fun p1 m1 => ⟨by show 1 ≤ 2 ^ 24; decide, fun p2 m2 => ⟨_, rfl, by show 1 ≤ 2 ^ 24; decide, fun p3 m3 => ⟨by show 3 ≤ 2 ^ 24; decide, fun p4 m4 => ?_⟩⟩⟩⟩
      have t1 := same_new m1 (.tup [V.non])
      have t2 := same_new m2 (.tup [V.ref p1])
      have t3 := same_new m3 (.tup [V.bl b])
      have t4 := same_new m4 (.tup [V.int 1, V.ref p2, V.ref p3])
      refine ⟨p4, 1, 1, [[none]], [b], [], by rw [wS_nil]; rfl, ⟨p2, p3, [V.ref p1], upd_same, t4 _ _ (t3 _ _ upd_same), t4 _ _ upd_same, rfl, fun k r hr => ?_⟩, ⟨Nat.le_refl _, by decide, Nat.le_refl _, by decide, rfl, rfl, fun r hr => ?_⟩, (fun j h => nomatch h), fun G2 s2 => ?_⟩
      · cases k with
        | zero => cases hr; exact ⟨p1, rfl, t4 _ _ (t3 _ _ (t2 _ _ upd_same))⟩
        | succ k => cases hr
      · rw [List.mem_singleton.mp hr]
        refine ⟨rfl, fun k hk => ?_⟩
        rcases List.mem_cons.mp hk with h | h <;> cases h
      · have st := t1.trans (t2.trans (t3.trans (t4.trans s2)))
        refine ⟨_, st _ _ g1, by rw [List.length_take]; show _ < 2 ^ 24; omega, same_grow nL (s1.trans st) _, ?_⟩
        rw [upd_same, List.take_add_one, hx]
        rfl
    · rintro G' ⟨s1, g1⟩
      have f1 : Fit 20 1 (.list [.bool true, .bool false]) := (Fit.lst (FitAll.cons (n := 5) (k := 0) (fit_bl (by decide)) (FitAll.cons (n := 5) (fit_bl (by decide)) FitAll.nil))).mono (by decide) (by decide)
      have d1 : Dt K G' (.ref L) (.list [.bool true, .bool false]) := .lst g1 (.cons (.bl true) (.cons (.bl false) .nil))
      refine ⟨_, _, rfl, d1, f1.s, Nat.le_trans f1.k (by decide), by decide +kernel, rfl, ?_⟩
      have e : (PyData.list [.bool true, .bool false]).shown = ("[True, False]" : Str) := by decide +kernel
      show Q (.bl (decide (V.str (PyData.list [.bool true, .bool false]).shown = V.str "[True, False]"))) G'
      rw [e, decide_eq_true rfl]
      exact q G'
end
end K22
namespace K22
open PySem L2 GL KC
theorem all_mk {l : PySem.W.OpenLaw} {w : World} {K : PySem.W.Frag} {h : Heap} {mg : Str → Option Value} {fa : Addr} (X : K.In h) (G : h.Ns mainGlobals mg) (hfa : mg "law" = some (.ref fa))
    {f2 f4 f5 f6 f7 f8 f9 f10 f11 f12 f13 : Addr} {d2 d4 d5 d6 d7 d8 d9 d10 d11 d12 d13 : FuncData} {t1 : Tok}
    (F2 : DF K "is_of" sIs f2 d2) (F4 : DF K "_law_deck" sDeck f4 d4) (F5 : DF K "_law_draw" sDraw f5 d5) (F6 : DF K "_law_one" sOne f6 d6) (F7 : DF K "_law_machine" sMach f7 d7) (F8 : DF K "_law_word" sWord f8 d8) (F9 : DF K "_law_walked" sWalked f9 d9)
    (F10 : DF K "_law_read" sRead f10 d10) (F11 : DF K "_law_renamed" sRen f11 d11) (F12 : DF K "_law_otherwise" sOth f12 d12) (F13 : DF K "law" sLaw f13 d13)
    (z1 : PySem.W.nsIn K mainGlobals "int" = some none) (z2 : PySem.W.nsIn K mainGlobals "tuple" = some none) (z3 : PySem.W.nsIn K mainGlobals "len" = some none) (z4 : PySem.W.nsIn K mainGlobals "abs" = some none) (z5 : PySem.W.nsIn K mainGlobals "range" = some none)
    (z6 : PySem.W.nsIn K mainGlobals "repr" = some none) (z7 : PySem.W.nsIn K mainGlobals "list" = some none) (z8 : PySem.W.nsIn K mainGlobals "dict" = some none) (m1 : PySem.W.nsIn K mainGlobals "LETTERS" = some (some (.str "abcd" t1))) :
    ∃ fd : FuncData, (∀ (s : Shared) (v : Value), BindsTo s fd ⟨[v], []⟩ [("_law_script", v)]) ∧ ∀ base : Heap, K.In base → base.Ns mainGlobals mg → Fg l.prog w K mg base CX0 4 fa fd ["_law_script"] (spLaw K) := by
  have e := hfa.symm.trans (PySem.W.mg_of X G F13.ns)
  cases e
  have C : TxC mg := ⟨PySem.W.mg_none_of X G z1, PySem.W.mg_none_of X G z2, PySem.W.mg_none_of X G z3, PySem.W.mg_none_of X G z4, PySem.W.mg_none_of X G z5⟩
  have T : Txt mg := ⟨C, PySem.W.mg_none_of X G z6, PySem.W.mg_none_of X G z7, PySem.W.mg_none_of X G z8, ⟨_, PySem.W.mg_of X G m1⟩⟩
  refine ⟨d13, fun s v => ?_, fun base _ _ => ?_⟩
  · obtain ⟨oc, od, kV, doc, pm, an, cdv, ct, osl, rfl, _, _⟩ := F13.fn.ex
    exact .of_eq rfl
  have D2 : Dfn l.prog w K mg base "is_of" 1 f2 d2 ["machine", "word"] spIs := ⟨ok_is F2.fn T, F2.fn.binds fun _ _ _ _ _ _ us hl => match us, hl with | [_, _], _ => rfl, PySem.W.mg_of X G F2.ns, F2.fn.kp⟩
  have D4 : Dfn l.prog w K mg base "_law_deck" 1 f4 d4 ["_law_script"] (spDeck K) := ⟨ok_deck F4.fn C, F4.fn.binds fun _ _ _ _ _ _ us hl => match us, hl with | [_], _ => rfl, PySem.W.mg_of X G F4.ns, F4.fn.kp⟩
  have D5 : Dfn l.prog w K mg base "_law_draw" 1 f5 d5 ["_law_deck_here", "_law_many"] spDraw := ⟨ok_draw F5.fn C, F5.fn.binds fun _ _ _ _ _ _ us hl => match us, hl with | [_, _], _ => rfl, PySem.W.mg_of X G F5.ns, F5.fn.kp⟩
  have B6 : L2.Binds K d6 ["_law_deck_here", "_law_items"] [] := F6.fn.binds fun _ _ _ _ _ _ us hl => match us, hl with | [_, _], _ => rfl
  have D6 : Dfn l.prog w K mg base "_law_one" 2 f6 d6 ["_law_deck_here", "_law_items"] spOne := ⟨ok_one F6.fn C D5, B6, PySem.W.mg_of X G F6.ns, F6.fn.kp⟩
  have D6s : Dfn l.prog w K mg base "_law_one" 2 f6 d6 ["_law_deck_here", "_law_items"] spOneS := ⟨ok_oneS F6.fn T D5, B6, PySem.W.mg_of X G F6.ns, F6.fn.kp⟩
  have D7 : Dfn l.prog w K mg base "_law_machine" 3 f7 d7 ["_law_deck_here", "_law_letters", "_law_many"] (spMach K) := ⟨ok_mach F7.fn C D5 D6, F7.fn.binds fun _ _ _ _ _ _ us hl => match us, hl with | [_, _, _], _ => rfl, PySem.W.mg_of X G F7.ns, F7.fn.kp⟩
  have D8 : Dfn l.prog w K mg base "_law_word" 3 f8 d8 ["_law_deck_here", "_law_letters", "_law_most"] spWord := ⟨ok_word F8.fn T D5 D6s, F8.fn.binds fun _ _ _ _ _ _ us hl => match us, hl with | [_, _, _], _ => rfl, PySem.W.mg_of X G F8.ns, F8.fn.kp⟩
  have D9 : Dfn l.prog w K mg base "_law_walked" 3 f9 d9 ["_law_deck_here", "_law_machine_here", "_law_most"] spWalked := ⟨ok_walked F9.fn T D5 D6, F9.fn.binds fun _ _ _ _ _ _ us hl => match us, hl with | [_, _, _], _ => rfl, PySem.W.mg_of X G F9.ns, F9.fn.kp⟩
  have D10 : Dfn l.prog w K mg base "_law_read" 1 f10 d10 ["_law_machine_here", "_law_word_here"] spIs := ⟨ok_read F10.fn, F10.fn.binds fun _ _ _ _ _ _ us hl => match us, hl with | [_, _], _ => rfl, PySem.W.mg_of X G F10.ns, F10.fn.kp⟩
  have D11 : Dfn l.prog w K mg base "_law_renamed" 2 f11 d11 ["_law_deck_here", "_law_machine_here"] spRen := ⟨ok_ren F11.fn T D5, F11.fn.binds fun _ _ _ _ _ _ us hl => match us, hl with | [_, _], _ => rfl, PySem.W.mg_of X G F11.ns, F11.fn.kp⟩
  have D12 : Dfn l.prog w K mg base "_law_otherwise" 3 f12 d12 ["_law_deck_here", "_law_letters", "_law_word_here"] spOth := ⟨ok_oth F12.fn T D5 D6s, F12.fn.binds fun _ _ _ _ _ _ us hl => match us, hl with | [_, _, _], _ => rfl, PySem.W.mg_of X G F12.ns, F12.fn.kp⟩
  exact ok_law F13.fn T D4 D5 D7 D2 D10 D11 D9 D8 D12
end K22
open PySem PySem.W PyProof.Rows
set_option maxRecDepth 100000 in
set_option maxHeartbeats 0 in
theorem PySem.Challenge.cw_pairedaway_k22_words_of_machines_holds : PySem.Challenge.rw_pairedaway_k22_words_of_machines.Holds := by
  w_on; o_law; k_head; (case hw => w_witness2)
  k_fill
  refine GL.walk_g (l := PySem.Challenge.rw_pairedaway_k22_words_of_machines) (n := 63) (k := 4) (x := "_law_script") (sp := K22.spLaw) rfl (by decide) rfl ⟨rfl, by decide, by decide⟩ (fun w h Y => PySem.W.kIn_of Y) ?F (fun K H a ns hl _ hS => ⟨a, ns, rfl, hS, hl, fun _ => rfl⟩)
  case F =>
    intro w mg fa h KX G hmg
    refine' K22.all_mk KX G hmg (KC.df ?a2 ?l2 ?c2 ?k2) (KC.df ?a4 ?l4 ?c4 ?k4) (KC.df ?a5 ?l5 ?c5 ?k5) (KC.df ?a6 ?l6 ?c6 ?k6) (KC.df ?a7 ?l7 ?c7 ?k7) (KC.df ?a8 ?l8 ?c8 ?k8) (KC.df ?a9 ?l9 ?c9 ?k9) (KC.df ?a10 ?l10 ?c10 ?k10) (KC.df ?a11 ?l11 ?c11 ?k11) (KC.df ?a12 ?l12 ?c12 ?k12) (KC.df ?a13 ?l13 ?c13 ?k13) ?z1 ?z2 ?z3 ?z4 ?z5 ?z6 ?z7 ?z8 ?m1
    (case a2 => k_is); (case l2 => k_is); (case c2 => k_is); (case k2 => k_is)
    (case a4 => k_is); (case l4 => k_is); (case c4 => k_is); (case k4 => k_is)
    (case a5 => k_is); (case l5 => k_is); (case c5 => k_is); (case k5 => k_is)
    (case a6 => k_is); (case l6 => k_is); (case c6 => k_is); (case k6 => k_is)
    (case a7 => k_is); (case l7 => k_is); (case c7 => k_is); (case k7 => k_is)
    (case a8 => k_is); (case l8 => k_is); (case c8 => k_is); (case k8 => k_is)
    (case a9 => k_is); (case l9 => k_is); (case c9 => k_is); (case k9 => k_is)
    (case a10 => k_is); (case l10 => k_is); (case c10 => k_is); (case k10 => k_is)
    (case a11 => k_is); (case l11 => k_is); (case c11 => k_is); (case k11 => k_is)
    (case a12 => k_is); (case l12 => k_is); (case c12 => k_is); (case k12 => k_is)
    (case a13 => k_is); (case l13 => k_is); (case c13 => k_is); (case k13 => k_is)
    (case z1 => k_is)
    (case z2 => k_is)
    (case z3 => k_is)
    (case z4 => k_is)
    (case z5 => k_is)
    (case z6 => k_is)
    (case z7 => k_is)
    (case z8 => k_is)
    (case m1 => k_is)
