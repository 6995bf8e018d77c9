import PyProof.Rows.All
import Wide.All
import OpenK.AllK
import Wide.FinOn
import HandS.ForMost
import HandS.IsInst
import HandS.TupAny
import HandS.TupMul
import HandS.Conv
import PyProof.NeKinds
import PyProof.ReprLen
import KE.GoesEnum
import HandS.Walk
import HandS.Replace
import PyProof.Rows.RegReprOcc
import PyProof.StrOps2
import KE.BitLaws
import PySem.Challenge.RW_pairedaway_k24_signs_and_weights
set_option Elab.async false
set_option maxRecDepth 100000
set_option maxHeartbeats 4000000
/-! Own layer for laws that call repr: promises of defs that run where no repr is under way, data with empty dicts, repr's rule. -/
namespace GL
open PySem PySem.Spec PyProof.Rows L2

/-- a def's promise, claimed only where no guard of repr stands around -/
structure Fg (P : Program) (w : World) (K : PySem.W.Frag) (mg : Str → Option Value) (base : Heap) (CX : CXT) (k : Nat) (f : Addr) (fd : FuncData) (ps : List Str) (sp : Sp) : Prop where
  ln : ∀ vs H Q E, sp vs H Q E → vs.length = ps.length
  go : ∀ (A : Around) (outer : List Env) (s : Shared) (H : Hp) (args : Args) (us : List Value) (vs : List V) (Q : VK) (E : XK), A.guards = some [] → Room k A → Env0 P w K mg base A outer s H →
    BindsTo s fd args (ps.zip us) → Vals vs us → sp vs H Q E → codeAny (model P w) A (.call (.ref f) args) (CR CX outer P w H s Q E) s

theorem Fg.of {P : Program} {w : World} {K : PySem.W.Frag} {mg : Str → Option Value} {base : Heap} {CX : CXT} {k : Nat} {f : Addr} {fd : FuncData} {ps : List Str} {sp : Sp} (F : FnOk P w K mg base CX k f fd ps sp) : Fg P w K mg base CX k f fd ps sp :=
  ⟨F.len, fun A outer s H args us vs Q E _ => F.run A outer s H args us vs Q E⟩

theorem guards_deeper {A : Around} {env : Env} (h : A.guards = some []) : (A.deeper env).guards = some [] := by
  simp [Around.deeper, h]

section
variable {P : Program} {w : World} {K : PySem.W.Frag} {mg : Str → Option Value} {base : Heap}
/-- the rule for such a def: as for any other, with the fact about guards at hand -/
theorem ok_g {x qual : Str} {st : Stmt} {f : Addr} {fd : FuncData} {N ps : List Str} {k : Nat} {sp : Sp} (F : Fun K x qual st f fd) (S : FnScope N ps (defScope st)) (ln : ∀ vs H Q E, sp vs H Q E → vs.length = ps.length)
    (bd : ∀ (cdv : Value) (A : Around) (outer : List Env) (s : Shared) (H : Hp) (vs : List V) (Q : VK) (E : XK), (A.deeper (envOfC qual (defScope st) s.heap.objs.size f cdv)).guards = some [] → Room k (A.deeper (envOfC qual (defScope st) s.heap.objs.size f cdv)) → sp vs H Q E →
      ∃ t, PSs (cxOf CX0 P w K mg base N qual (defScope st) f cdv A outer s H E).nox (defBody st) t ∧ t { nx := fun _ H' => Q .non H', rt := Q } (start N vs) H) : Fg P w K mg base CX0 (k + 1) f fd ps sp := by
  obtain ⟨oc, od, kV, doc, pm, an, cdv, ct, osl, rfl, lk, hcd⟩ := F.ex
  refine ⟨ln, fun A outer s H args us vs Q E hg hr e0 hb r hsp => ?_⟩
  have lv := ln _ _ _ _ hsp
  have KI : K.In s.heap := e0.mod.kin.keeps fun b o q => (e0.bs b o q).1
  have NL : s.heap.NoLimit := e0.mod.nolimit.keeps fun b o q => (e0.bs b o q).1
  have kinds : ∀ y ∈ ps.zip us, (defScope st).names.lookup y.1 = some .local ∨ ((defScope st).names.lookup y.1 = some .cell ∧ ((cellsFrom (s.heap.objs.size + 1) (defScope st).names []).lookup y.1).isSome = true) := by
    rintro ⟨n, v⟩ hy
    cases S.par n (List.of_mem_zip hy).1 with
    | inl q => exact .inl q
    | inr q => exact .inr ⟨q, PySem.W.cellsFrom_some _ _ _ (.inl q)⟩
  refine codeAny_call_function hr.depth (KI _ _ lk) rfl S.co S.gen rfl (PySem.W.codeRec_of KI hcd) (hb _ _ _ _ (wpAny_newFunctionEnv_cells S.kind kinds fun env he s1 x => ?_))
  cases he
  obtain ⟨t, ht, hq⟩ := bd cdv A outer s H vs Q E (guards_deeper hg) (hr.deeper _) hsp
  refine ⟨NL.keeps x.toInCall.keep, codeAny_func (wpAny_mono (ht.nox.run [] s1 (start N vs) H _ (inv_start S hr.hd e0 lv r x) hq) (fun fl s' hs => ?_) fun e s' hs => hs)⟩
  have fin : ∀ {τ : L2.St} {G : Hp} {v : V} {u : Value}, Inv (cxOf CX0 P w K mg base N qual (defScope st) f cdv A outer s H E) [] τ G s' → RelV v u → Q v G → CE outer P w H s Q u s' :=
    fun {τ G v u} J rv q => ⟨v, G, J.os, J.bare, J.base, J.hok, rv, q⟩
  match fl, hs with
  | .ret u, ⟨v, τ, G, J, rv, q⟩ => exact fin J rv q
  | .next, ⟨τ, G, J, q⟩ => exact fin (v := V.non) (u := Value.none) J rfl q
  | .brk, ⟨_, _, _, q⟩ => exact q.elim
  | .cont, ⟨_, _, _, q⟩ => exact q.elim
end

section
variable {X : Cx} {CX : CXT} {k : Nat} {f : Addr} {fd : FuncData} {ps : List Str} {sp : Sp} {E : XK} {x : Str} {p pos : Pos} {e : Expr} {es : List Expr} {t : TA}
/-- f(e, ..) of such a def, without defaults -/
theorem pe_callg (hg : X.A.guards = some []) (F : Fg X.prog X.w X.K X.mg X.base CX k f fd ps sp) (hr : Room k X.A) (gl : Gl X x) (hm : X.mg x = some (.ref f)) (kp : PySem.W.keepIn X.K (.ref f) = true) (hb : Binds X.K fd ps []) (hx : Passes CX X E)
    (ha : PA X (e :: es) t) (hdb : (x == ("__debug__" : Str)) = false := by decide) (se : starEach (e :: es) X.env = (false, eval e X.env) :: starEach es X.env := by rfl) (pl : (backTo pos (starEach es X.env)).any (·.1) = false := by rfl) :
    PE X (.Call (.Name x p) (e :: es) [] pos) (tCall sp [] E t) := by
  refine ⟨fun pins s σ H Q I h => wpAny_Call_Name_kw (ld_glob I gl hm ?_ hdb)⟩
  refine PySem.W.callWith_K (h₀ := X.base) I.ok.mod.kin kp (thn (ha.run pos pins s σ H _ I h) fun us s1 ⟨vs, G, J, r, q⟩ => ⟨J.kIn, ?_⟩) se pl
  replace q : sp vs G Q E := by simpa using q
  have ll : (us ++ ([] : List Value)).length = ps.length := by rw [List.append_nil, ← r.length]; exact F.ln _ _ _ _ q
  have bb := hb s1 us J.kIn ll
  rw [List.append_nil] at bb
  refine wpAny_call (codeAny_mono (F.go X.A X.stack s1 G ⟨us, []⟩ us vs Q E hg hr J.env0 bb r q) fun res s' hq => ?_)
  match res, hq with
  | .error e, hq => exact hx pins σ G s1 e s' J hq
  | .ok (.ret u), hq => exact J.after hq
  | .ok .next, hq => exact hq.elim
  | .ok .brk, hq => exact hq.elim
  | .ok .cont, hq => exact hq.elim
end

/-! ### data, empty dicts among them -/
mutual
inductive Dt (K : PySem.W.Frag) (H : Hp) : V → PyData → Prop
  | non : Dt K H .non .none
  | bl (b : Bool) : Dt K H (.bl b) (.bool b)
  | int (i : Int) : Dt K H (.int i) (.int i)
  | str (x : Str) : Dt K H (.str x) (.str x)
  | lst {a : Addr} {vs : List V} {ds : List PyData} : H a = some (.lst vs) → DtAll K H vs ds → Dt K H (.ref a) (.list ds)
  | tup {a : Addr} {vs : List V} {ds : List PyData} : H a = some (.tup vs) → DtAll K H vs ds → Dt K H (.ref a) (.tuple ds)
  | dic {a : Addr} : H a = some (.dK []) → Dt K H (.ref a) (.dict [])
inductive DtAll (K : PySem.W.Frag) (H : Hp) : List V → List PyData → Prop
  | nil : DtAll K H [] []
  | cons {v : V} {vs : List V} {d : PyData} {ds : List PyData} : Dt K H v d → DtAll K H vs ds → DtAll K H (v :: vs) (d :: ds)
end
section
variable {K : PySem.W.Frag} {H H' : Hp}
mutual
theorem Dt.same (e : Same H H') : ∀ {d : PyData} {v : V}, Dt K H v d → Dt K H' v d
  | _, _, .non => .non
  | _, _, .bl b => .bl b
  | _, _, .int i => .int i
  | _, _, .str x => .str x
  | _, _, .lst h a => .lst (e _ _ h) (DtAll.same e a)
  | _, _, .tup h a => .tup (e _ _ h) (DtAll.same e a)
  | _, _, .dic h => .dic (e _ _ h)
theorem DtAll.same (e : Same H H') : ∀ {ds : List PyData} {vs : List V}, DtAll K H vs ds → DtAll K H' vs ds
  | _, _, .nil => .nil
  | _, _, .cons h a => .cons (Dt.same e h) (DtAll.same e a)
end
theorem DtAll.length {ds : List PyData} : ∀ {vs : List V}, DtAll K H vs ds → vs.length = ds.length := by
  induction ds with
  | nil => intro vs h; cases h; rfl
  | cons d ds ih => intro vs h; cases h with | cons h1 h2 => simp [ih h2]
theorem DtAll.append : ∀ {ds es : List PyData} {vs us : List V}, DtAll K H vs ds → DtAll K H us es → DtAll K H (vs ++ us) (ds ++ es)
  | _, _, _, _, .nil, h => h
  | _, _, _, _, .cons a b, h => .cons a (DtAll.append b h)
theorem DtAll.take : ∀ {ds : List PyData} {vs : List V} (n : Nat), DtAll K H vs ds → DtAll K H (vs.take n) (ds.take n)
  | _, _, 0, _ => .nil
  | _, _, _ + 1, .nil => .nil
  | _, _, n + 1, .cons a b => .cons a (DtAll.take n b)
theorem DtAll.drop : ∀ {ds : List PyData} {vs : List V} (n : Nat), DtAll K H vs ds → DtAll K H (vs.drop n) (ds.drop n)
  | _, _, 0, h => h
  | _, _, _ + 1, .nil => .nil
  | _, _, n + 1, .cons _ b => DtAll.drop n b
theorem DtAll.get : ∀ {ds : List PyData} {vs : List V} {i : Nat} {v : V}, DtAll K H vs ds → vs[i]? = some v → ∃ d, ds[i]? = some d ∧ Dt K H v d
  | _, _, i, _, .nil, h => by simp at h
  | _, _, 0, _, .cons a _, h => by simp at h; subst h; exact ⟨_, rfl, a⟩
  | _, _, i + 1, v, .cons _ b, h => by
    obtain ⟨d, h1, h2⟩ := DtAll.get (i := i) (v := v) b (by simpa using h)
    exact ⟨d, by simpa using h1, h2⟩
end

section
variable {X : Cx} {pins : List (Addr × Obj)} {σ : L2.St} {H : Hp} {s : Shared}
/-- what repr's rules of the library ask of a value -/
structure Shows (prog : Program) (w : World) (h : Heap) (u : Value) (d : PyData) : Prop where
  ex : ∃ as bs, Reads h u d as ∧ ReadAtMost h d.depth bs ∧ ReprK prog w bs h d.depth u d.shown
structure ShowsAll (prog : Program) (w : World) (h : Heap) (us : List Value) (ds : List PyData) : Prop where
  ex : ∃ as bs, ReadsAll h us ds as ∧ ReadAtMost h (PyData.depthAll ds) bs ∧ ReprAllK prog w bs h (PyData.depthAll ds) us (PyData.shownAll ds)
theorem dic_at (I : Inv X pins σ H s) {a : Addr} (h : H a = some (.dK [])) : (a == sysModules) = false ∧ ∃ o es ep, s.heap.get? a = some o ∧ o.cls = .type "dict" ∧ o.data = .dict es ep ∧ es.toList = [] := by
  obtain ⟨_, ne, vs, kv, o, es, ep, h1, h2, h3, _, h5, _⟩ := (show ObjOk X.prog X.w H s.heap a (.dK []) from I.hok a _ h)
  cases kv
  refine ⟨ne, o, es, ep, h1, h2.1, h3, ?_⟩
  cases q : es.toList with
  | nil => rfl
  | cons y ys => rw [q] at h5; cases h5
theorem lst_at (I : Inv X pins σ H s) {a : Addr} {vs : List V} (h : H a = some (.lst vs)) : ∃ its n, Vals vs its ∧ s.heap.get? a = some { cls := .type "list", data := .seq its.toArray n } := by
  obtain ⟨_, its, n, r, e⟩ := (show ObjOk X.prog X.w H s.heap a (.lst vs) from I.hok a _ h)
  exact ⟨its, n, r, e⟩
theorem tup_at (I : Inv X pins σ H s) {a : Addr} {vs : List V} (h : H a = some (.tup vs)) : ∃ its o n, Vals vs its ∧ s.heap.get? a = some o ∧ o.cls = .type "tuple" ∧ o.data = .seq its.toArray n := by
  obtain ⟨_, its, r, o, h1, h2, n, h3⟩ := (show ObjOk X.prog X.w H s.heap a (.tup vs) from I.hok a _ h)
  exact ⟨its, o, n, r, h1, h2, h3⟩
mutual
theorem Dt.shows (I : Inv X pins σ H s) : ∀ (d : PyData) (v : V) (u : Value), Dt X.K H v d → RelV v u → d.showable = true → d.shown.length ≤ sizeLine → Shows X.prog X.w s.heap u d
  | .none, _, _, h, r, _, _ => by
    cases h; cases r
    exact ⟨_, [], .none, (fun _ q => nomatch q), by simp only [PyData.shown]; exact .of_is ReprIs.none _ _ _⟩
  | .bool b, _, _, h, r, _, _ => by
    cases h; cases r
    exact ⟨_, [], .bool b, (fun _ q => nomatch q), by simp only [PyData.shown]; exact .of_is (ReprIs.bool b) _ _ _⟩
  | .int i, _, _, h, r, hs, _ => by
    cases h
    obtain ⟨t, rfl⟩ := r
    exact ⟨_, [], .int i t, (fun _ q => nomatch q), by simp only [PyData.shown]; exact .of_is (ReprIs.int t (by simpa [PyData.showable] using hs)) _ _ _⟩
  | .str x, _, _, h, r, _, hz => by
    cases h
    obtain ⟨t, rfl⟩ := r
    exact ⟨_, [], .str x t, (fun _ q => nomatch q), by simp only [PyData.shown]; exact .of_is (ReprIs.str x t (by simpa only [PyData.shown] using hz)) _ _ _⟩
  | .list ds, _, _, h, r, hs, hz => by
    cases h with
    | @lst a vs _ hl ha =>
      cases r
      have hz' : (listText (PyData.shownAll ds)).length ≤ sizeLine := by simpa only [PyData.shown] using hz
      obtain ⟨its, n, rv, e⟩ := lst_at I hl
      obtain ⟨as, bs, r4, rb, rk⟩ := (Dt.showsAll I ds vs its ha rv (by simpa [PyData.showable] using hs) (fun t ht => Nat.le_trans (listText_mem_le ht) hz')).ex
      have rr : Reads s.heap (.ref a) (.list ds) (a :: as) := .list e rfl rfl r4
      have nm : a ∉ bs := not_mem_of_deeper rr (by simp only [PyData.depth]; omega) rb
      refine ⟨_, a :: bs, rr, ReadAtMost.cons rr (by simp only [PyData.depth]; omega) rb, ?_⟩
      simp only [PyData.depth, PyData.shown]
      cases its with
      | nil =>
        cases r4
        simp only [PyData.shownAll, listText_nil]
        exact ReprK.listEmpty e rfl rfl
      | cons y ys => exact ReprK.list e rfl rfl nm (by simpa using rk.length_eq) (fun i z q => rk.item i z (by simpa using q))
  | .tuple ds, _, _, h, r, hs, hz => by
    cases h with
    | @tup a vs _ hl ha =>
      cases r
      have hz' : (tupleText (PyData.shownAll ds)).length ≤ sizeLine := by simpa only [PyData.shown] using hz
      obtain ⟨its, o, n, rv, e1, e2, e3⟩ := tup_at I hl
      obtain ⟨as, bs, r4, rb, rk⟩ := (Dt.showsAll I ds vs its ha rv (by simpa [PyData.showable] using hs) (fun t ht => Nat.le_trans (tupleText_mem_le ht) hz')).ex
      have rr : Reads s.heap (.ref a) (.tuple ds) as := .tuple e1 e2 e3 r4
      have nm : a ∉ bs := not_mem_of_deeper rr (by simp only [PyData.depth]; omega) rb
      refine ⟨_, a :: bs, rr, ReadAtMost.cons rr (by simp only [PyData.depth]; omega) rb, ?_⟩
      simp only [PyData.depth, PyData.shown]
      exact ReprK.tuple e1 e2 e3 nm rk
  | .dict _, _, _, h, r, _, _ => by
    cases h with
    | @dic a hd =>
      cases r
      obtain ⟨ne, o, es, ep, e1, e2, e3, e4⟩ := dic_at I hd
      have rr : Reads s.heap (.ref a) (.dict []) (a :: [] ++ []) := .dict e1 e2 e3 (by rw [e4]; exact .nil) (by rw [e4]; exact .nil)
      refine ⟨_, [a], rr, ReadAtMost.cons (n := 0) rr (Nat.zero_le _) (fun _ q => nomatch q), ?_⟩
      simp only [PyData.depth, PyData.shown, PyData.shownKv]
      exact ReprK.dict (d := 0) e1 e2 e3 ne (fun q => nomatch q) (by rw [e4]; exact .nil)
theorem Dt.showsAll (I : Inv X pins σ H s) : ∀ (ds : List PyData) (vs : List V) (us : List Value), DtAll X.K H vs ds → Vals vs us → PyData.showableAll ds = true → (∀ t ∈ PyData.shownAll ds, t.length ≤ sizeLine) → ShowsAll X.prog X.w s.heap us ds
  | [], _, _, h, r, _, _ => by
    cases h; cases r
    exact ⟨_, [], .nil, (fun _ q => nomatch q), by simp only [PyData.shownAll]; exact .nil⟩
  | d :: ds, _, _, h, r, hs, hz => by
    cases h with
    | cons h1 h2 =>
      cases r with
      | cons r1 r2 =>
        have hs' : d.showable = true ∧ PyData.showableAll ds = true := by simpa [PyData.showableAll] using hs
        obtain ⟨as, bs, a1, a2, a3⟩ := (Dt.shows I d _ _ h1 r1 hs'.1 (hz _ (by simp only [PyData.shownAll]; exact List.mem_cons_self ..))).ex
        obtain ⟨cs, es, c1, c2, c3⟩ := (Dt.showsAll I ds _ _ h2 r2 hs'.2 (fun t ht => hz t (by simp only [PyData.shownAll]; exact List.mem_cons_of_mem _ ht))).ex
        refine ⟨_, bs ++ es, .cons a1 c1, ?_, ?_⟩
        · simp only [PyData.depthAll]
          exact (a2.mono (Nat.le_max_left _ _)).append (c2.mono (Nat.le_max_right _ _))
        · simp only [PyData.depthAll, PyData.shownAll]
          exact .cons ((a3.more fun b hb => List.mem_append_left _ hb).level_le (Nat.le_max_left _ _)) (c3.more_le (fun b hb => List.mem_append_right _ hb) (Nat.le_max_right _ _))
end
end

/-- repr of data -/
def rReprD (K : PySem.W.Frag) : List V → Hp → VK → Prop := fun xs H Q => ∃ v d, xs = [v] ∧ Dt K H v d ∧ d.showable = true ∧ d.depth ≤ 60 ∧ d.shown.length ≤ sizeLine ∧ Q (.str d.shown) H
theorem call_reprD {X : Cx} (hg : X.A.guards = some []) (hu : X.A.units + 64 < cLine) : CallR X (.builtin "repr") (rReprD X.K) := by
  intro pins s σ H xs us Q I r h
  obtain ⟨v, d, rfl, hd, hs, hdep, hz, q⟩ := h
  obtain ⟨u, rfl, ru⟩ := vals1 r
  have keep : ∀ b o, s.heap.get? b = some o → s.heap.get? b = some o := fun _ _ e => e
  have fin : ∀ (h' : Heap) (t : Tok) (tk : Nat), (∀ b o, s.heap.get? b = some o → h'.get? b = some o) → EP X pins σ Q (.str d.shown t) { s with heap := h', toks := tk } :=
    fun h' t tk k => ⟨.str d.shown, H, I.kept k, ⟨t, rfl⟩, q⟩
  cases hd with
  | non => cases ru; simp only [PyData.shown] at fin; exact PySem.P.repr_of_none (fin _ _ _ keep)
  | bl b => cases ru; simp only [PyData.shown] at fin; exact PySem.P.repr_of_bool (fin _ _ _ keep)
  | int i => obtain ⟨t, rfl⟩ := ru; simp only [PyData.shown] at fin; exact PySem.P.repr_of_int (by simpa [PyData.showable] using hs) (fin _ _ _ keep)
  | str x => obtain ⟨t, rfl⟩ := ru; simp only [PyData.shown] at fin; exact PySem.P.repr_of_str (fin _ _ _ keep) (by simpa only [PyData.shown] using hz)
  | @lst a vs ds hl ha =>
    cases ru
    simp only [PyData.depth] at hdep
    simp only [PyData.shown] at fin
    have hz' : (listText (PyData.shownAll ds)).length ≤ sizeLine := by simpa only [PyData.shown] using hz
    obtain ⟨its, n, rv, e⟩ := lst_at I hl
    obtain ⟨as, bs, r4, rb, rk⟩ := (Dt.showsAll I ds vs its ha rv (by simpa [PyData.showable] using hs) (fun t ht => Nat.le_trans (listText_mem_le ht) hz')).ex
    have rr : Reads s.heap (.ref a) (.list ds) (a :: as) := .list e rfl rfl r4
    have nm : a ∉ bs := not_mem_of_deeper rr (by simp only [PyData.depth]; omega) rb
    refine call_repr_slot (T := "list") (by omega) ⟨_, e, rfl⟩ F.slot_list_repr.toG ?_
    cases its with
    | nil =>
      cases r4
      simp only [PyData.shownAll, listText_nil] at fin
      exact call_list_repr_empty ⟨_, e, rfl⟩ e rfl ⟨_, _, rfl, fin _ _ _ keep⟩
    | cons y ys =>
      exact call_list_reprK e rfl rfl nm (by simpa using rk.length_eq) (fun i z q => rk.item i z (by simpa using q)) (A := X.A.in1) hg (fun b _ => Clear.nil b) (by show X.A.units + 1 + _ < cLine; omega) keep (fun h' t tk k => ⟨_, _, rfl, fin h' t tk k⟩) hz'
  | @tup a vs ds hl ha =>
    cases ru
    simp only [PyData.depth] at hdep
    simp only [PyData.shown] at fin
    have hz' : (tupleText (PyData.shownAll ds)).length ≤ sizeLine := by simpa only [PyData.shown] using hz
    obtain ⟨its, o, n, rv, e1, e2, e3⟩ := tup_at I hl
    obtain ⟨as, bs, r4, rb, rk⟩ := (Dt.showsAll I ds vs its ha rv (by simpa [PyData.showable] using hs) (fun t ht => Nat.le_trans (tupleText_mem_le ht) hz')).ex
    have rr : Reads s.heap (.ref a) (.tuple ds) as := .tuple e1 e2 e3 r4
    have nm : a ∉ bs := not_mem_of_deeper rr (by simp only [PyData.depth]; omega) rb
    refine call_repr_slot (T := "tuple") (by omega) ⟨_, e1, e2⟩ F.slot_tuple_repr ?_
    exact call_tuple_reprK e1 e2 e3 nm rk (A := X.A.in1) hg (fun b _ => Clear.nil b) (by show X.A.units + 1 + _ < cLine; omega) keep (fun h' t tk k => ⟨_, _, rfl, fin h' t tk k⟩) hz'
  | @dic a hdk =>
    cases ru
    simp only [PyData.shown, PyData.shownKv] at fin
    obtain ⟨ne, o, es, ep, e1, e2, e3, e4⟩ := dic_at I hdk
    refine call_repr_slot (T := "dict") (by omega) ⟨_, e1, e2⟩ F.slot_dict_repr ?_
    exact call_dict_reprK (ps := []) (d := 0) (as := []) e1 e2 e3 ne (fun q => nomatch q) (by rw [e4]; exact .nil) (A := X.A.in1) hg (fun b _ => Clear.nil b) (by show X.A.units + 1 + _ < cLine; omega) keep (fun h' t tk k => ⟨_, _, rfl, fin h' t tk k⟩) (by simp only [PyData.shown, PyData.shownKv] at hz; exact hz)
end GL

/-! The end of a law whose def is promised where no guard of repr stands. -/
namespace GL
open PySem PySem.Spec PyProof.Rows L2 PySem.W

section
variable {P : Program} {w : World} {K : PySem.W.Frag} {mg mb : Str → Option Value} {k : Nat} {fa a : Addr} {fd : FuncData} {x : Str} {sp : Sp} {s₁ : Shared} {vs : List Value} {ns : List Int}
theorem nil_no {b : Addr} : b ∉ ([] : List Addr) := fun z => nomatch z
/-- the law's call, from one abstract heap in which the script alone may be tracked -/
theorem law_core (KI : K.In s₁.heap) (g1 : s₁.heap.Ns mainGlobals mg) (g2 : s₁.heap.Ns builtinsNs mb) (g3 : ∀ y : Str, y ≠ "__name__" → mb y = bootBuiltins y) (nl : s₁.heap.NoLimit) (hg : s₁.gens = #[])
    (ha : s₁.heap.get? a = some { cls := .type "list", data := .seq vs.toArray }) (hr : Room k callerA)
    (F : ∀ base : Heap, K.In base → base.Ns mainGlobals mg → Fg P w K mg base CX0 k fa fd [x] sp) (bd : ∀ (s : Shared) (u : Value), BindsTo s fd ⟨[u], []⟩ [(x, u)])
    (H : Hp) (on : Only H) (hq : sp [.ref a] H (fun v _ => v = .bl true) fun _ _ _ => False) (ok : HOk P w H s₁.heap) (one : ∀ b, H b ≠ none → b = a) (nk : H a ≠ none → K.lookup a = none) :
    codeAny (model P w) callerA (.call (.ref fa) ⟨[.ref a], []⟩) (fun r s' => r = .ok (.ret (.bool true)) ∧ OldK s₁.heap s'.heap ∧ s'.os = s₁.os ∧ AllBare s'.gens) s₁ := by
  have out : ∀ {b : Addr} {o : Obj}, s₁.heap.get? b = some o → (b = a → H a = none) → (hidT s₁.heap H).get? b = some o := fun {b o} e n => hidT_get e (by
    by_cases z : H b = none
    · exact z
    · have zz := one b z
      rw [zz]; exact n zz)
  have dct : ∀ {b : Addr} {o : Obj} {es : Array DictEntry} {ep : Nat}, s₁.heap.get? b = some o → o.data = .dict es ep → b ≠ a := fun {b o es ep} e d z => by
    rw [z, ha] at e
    cases e
    exact nomatch (show Data.seq vs.toArray _ = Data.dict es ep from d)
  have nsK : ∀ {b : Addr} {m : Str → Option Value}, s₁.heap.Ns b m → (hidT s₁.heap H).Ns b m := fun {b m} q => by
    obtain ⟨o, es, ep, e, d, r⟩ := q
    exact ⟨o, es, ep, out e (fun z => absurd z (dct e d)), d, r⟩
  have KB : K.In (hidT s₁.heap H) := fun b o e => out (KI b o e) fun z => by
    by_cases y : H a = none
    · exact y
    · rw [z, nk y] at e; cases e
  have md : Mod K mg (hidT s₁.heap H) := ⟨KB, nsK g1, ⟨mb, nsK g2, g3⟩, let ⟨mc, c1, c2⟩ := nl; ⟨mc, nsK c1, c2⟩⟩
  have ev : Env0 P w K mg (hidT s₁.heap H) callerA [] s₁ H := ⟨rfl, md, fun _ _ e => of_hidT e, Nat.le_of_eq (hidT_size _ _), trivial, fun b z => absurd z nil_no, ok, .of_eq hg⟩
  refine codeAny_mono ((F _ KB (nsK g1)).go callerA [] s₁ H ⟨[.ref a], []⟩ [.ref a] [.ref a] _ _ rfl hr ev (bd s₁ (.ref a)) (.cons rfl .nil) hq) fun r s' h => ?_
  match r, h with
  | .error e, h => exact h.elim
  | .ok .next, h => exact h.elim
  | .ok .brk, h => exact h.elim
  | .ok .cont, h => exact h.elim
  | .ok (.ret u), ⟨v, G, os, br, un, okG, rv, q⟩ =>
    cases (show v = .bl true from q)
    cases (show u = Value.bool true from rv)
    refine ⟨rfl, OldK.of_keep fun b o e => ?_, os, br⟩
    rcases on b with z | ⟨ob, xs, z⟩
    · exact un.keep b o e z nil_no nil_no
    · have e1 := (ok b _ z).1
      have e2 := (okG b _ (un.frzs b ob _ z)).1
      rw [e] at e1
      cases e1
      exact e2

theorem law_end (KI : K.In s₁.heap) (g1 : s₁.heap.Ns mainGlobals mg) (g2 : s₁.heap.Ns builtinsNs mb) (g3 : ∀ y : Str, y ≠ "__name__" → mb y = bootBuiltins y) (nl : s₁.heap.NoLimit) (hg : s₁.gens = #[])
    (ha : s₁.heap.get? a = some { cls := .type "list", data := .seq vs.toArray }) (hi : IntsAre vs ns) (hz : ns.length ≤ sizeLine) (hr : Room k callerA)
    (F : ∀ base : Heap, K.In base → base.Ns mainGlobals mg → Fg P w K mg base CX0 k fa fd [x] sp) (bd : ∀ (s : Shared) (u : Value), BindsTo s fd ⟨[u], []⟩ [(x, u)])
    (hsp : ∀ H : Hp, Only H → SqL K H a (ns.map V.int) → sp [.ref a] H (fun v _ => v = .bl true) fun _ _ _ => False) :
    codeAny (model P w) callerA (.call (.ref fa) ⟨[.ref a], []⟩) (fun r s' => r = .ok (.ret (.bool true)) ∧ OldK s₁.heap s'.heap ∧ s'.os = s₁.os ∧ AllBare s'.gens) s₁ := by
  have rv := vals_ints hi
  have ll : vs.length = ns.length := hi.length
  cases hk : K.lookup a with
  | some o =>
    have e := KI a o hk
    rw [ha] at e
    cases e
    have no : ∀ {b : Addr} {u : HO}, ((fun _ => none) : Hp) b ≠ some u := fun {b u} z => nomatch (show (none : Option HO) = some u from z)
    exact law_core KI g1 g2 g3 nl hg ha hr F bd (fun _ => none) (fun _ => .inl rfl) (hsp _ (fun _ => .inl rfl) (.inr ⟨_, vs.toArray, _, hk, rfl, rfl, rfl, by rw [List.size_toArray, ll]; exact hz, by simpa using rv⟩))
      (fun b u z => absurd z (no (b := b))) (fun b z => absurd rfl z) (fun z => absurd rfl z)
  | none =>
    have g : ∃ G : Hp, G a = some (.frz { cls := .type "list", data := .seq vs.toArray } (.lst (ns.map V.int))) ∧ ∀ b, b ≠ a → G b = none := ⟨fun b => if b = a then _ else none, if_pos rfl, fun b n => if_neg n⟩
    obtain ⟨G, y1, y2⟩ := g
    have on : Only G := fun b => by
      by_cases e : b = a
      · exact .inr ⟨_, _, e ▸ y1⟩
      · exact .inl (y2 b e)
    refine law_core KI g1 g2 g3 nl hg ha hr F bd G on (hsp G on (.inl (.inr ⟨_, y1⟩))) (fun b u z => ?_) (fun b z => ?_) fun _ => hk
    · by_cases e : b = a
      · subst e
        rw [y1] at z
        cases z
        exact ⟨ha, by rw [List.length_map]; exact hz, vs, _, rv, ha⟩
      · rw [y2 b e] at z; cases z
    · exact Classical.byContradiction fun e => z (y2 b e)
end

/-- the goal that the head leaves -/
theorem walk_g {l : PySem.W.OpenLaw} {n k : Nat} {q : Program} {loose : List Str} {XP : (Str → Option Value) → Heap → Prop} {YP : World → Heap → Prop} {d : DefRec} {K : Params → PySem.W.Frag} {sp : PySem.W.Frag → Sp} {x : Str}
    (hn : l.most = some n) (n2 : n ≤ sizeLine) (nd : d.params.defaults = []) (hr : Room k callerA) (hY : ∀ (w : World) (h : Heap), YP w h → (K w.params).In h)
    (F : ∀ (w : World) (mg : Str → Option Value) (fa : Addr) (h : Heap), (K w.params).In h → h.Ns mainGlobals mg → mg d.name = some (.ref fa) →
      ∃ fd : FuncData, (∀ (s : Shared) (u : Value), BindsTo s fd ⟨[u], []⟩ [(x, u)]) ∧ ∀ base : Heap, (K w.params).In base → base.Ns mainGlobals mg → Fg l.prog w (K w.params) mg base CX0 k fa fd [x] (sp (K w.params)))
    (hsp : ∀ (K : PySem.W.Frag) (H : Hp) (a : Addr) (ns : List Int), ns.length ≤ n → Only H → SqL K H a (ns.map V.int) → sp K [.ref a] H (fun v _ => v = .bl true) fun _ _ _ => False) :
    PySem.W.WalkO q loose XP YP l.row.toRowW d [] (fun f vs => PySem.call f vs) := by
  refine Att.attach_call hn nd fun w s₀ s₁ mg mb fa o pm cd doc a vs ns G Y ho hd hcd hmg hobj hints hlen hg => ?_
  have KI := hY w _ Y
  obtain ⟨fd, hb, hF⟩ := F w mg fa _ KI G.T.g hmg
  exact law_end KI G.T.g G.T.b G.T.builtins G.T.nolimit hg hobj hints (Nat.le_trans hlen n2) hr hF hb fun H on hS => hsp _ H a ns hlen on hS
end GL

namespace KC
open PySem L2 GL
theorem same_new {H : Hp} {p : Addr} (h : H p = none) (o : HO) : Same H (upd H p o) := fun b u q => by rw [upd_ne (ne_of_none q h)]; exact q
theorem same_grow {H H1 : Hp} {p : Addr} (h : H p = none) (e : Same H H1) (o : HO) : Same H (upd H1 p o) := fun b u q => by rw [upd_ne (ne_of_none q h)]; exact e b u q
structure Dfn (P : Program) (w : World) (K : PySem.W.Frag) (mg : Str → Option Value) (base : Heap) (name : Str) (k : Nat) (f : Addr) (fd : FuncData) (ps : List Str) (sp : Sp) : Prop where
  ok : FnOk P w K mg base CX0 k f fd ps sp
  b : L2.Binds K fd ps []
  m : mg name = some (.ref f)
  kp : PySem.W.keepIn K (.ref f) = true
/-- a def promised where no guard of repr stands -/
structure Gfn (P : Program) (w : World) (K : PySem.W.Frag) (mg : Str → Option Value) (base : Heap) (name : Str) (k : Nat) (f : Addr) (fd : FuncData) (ps : List Str) (sp : Sp) : Prop where
  ok : Fg P w K mg base CX0 k f fd ps sp
  b : L2.Binds K fd ps []
  m : mg name = some (.ref f)
  kp : PySem.W.keepIn K (.ref f) = true
/-- len of a list or tuple, the written part by its name -/
def rLenS (K : PySem.W.Frag) : List V → Hp → VK → Prop := fun xs H Q => ∃ (p : Addr) (ys : List V), xs = [.ref p] ∧ (SqL K H p ys ∨ SqT K H p ys) ∧ Q (.int ys.length) H
theorem call_lenS {X : Cx} : CallR X (.builtin "len") (rLenS X.K) := call_len_seq
/-! ### how long a value is when it is shown -/
mutual
def wt : PyData → Nat
  | .none => 4
  | .bool _ => 5
  | .int i => (PyData.int i).shown.length
  | .str x => (PyData.str x).shown.length
  | .list ds => wts ds + 3
  | .tuple ds => wts ds + 3
  | .dict _ => 2
def wts : List PyData → Nat
  | [] => 0
  | d :: ds => wt d + 2 + wts ds
end
theorem len_wts : ∀ ds : List PyData, ds.length ≤ wts ds
  | [] => Nat.le_refl _
  | d :: ds => by have := len_wts ds; simp only [wts, List.length_cons]; omega
theorem mem_wts {d : PyData} : ∀ {ds : List PyData}, d ∈ ds → wt d ≤ wts ds
  | e :: ds, h => by
    simp only [wts]
    rcases List.mem_cons.mp h with rfl | h
    · omega
    · have := mem_wts h; omega
/-! ### the deck: a list of a list of numbers and of how many were drawn -/
/-- the heap without the deck's two lists -/
def Hd (d c : Addr) (H : Hp) : Hp := fun b => if b = d ∨ b = c then none else H b
theorem hd_some {d c b : Addr} {H : Hp} {o : HO} (h : Hd d c H b = some o) : H b = some o ∧ b ≠ d ∧ b ≠ c := by
  unfold Hd at h
  by_cases e : b = d ∨ b = c
  · rw [if_pos e] at h; cases h
  · rw [if_neg e] at h; exact ⟨h, fun z => e (.inl z), fun z => e (.inr z)⟩
theorem hd_of {d c b : Addr} {H : Hp} {o : HO} (h : H b = some o) (n1 : b ≠ d) (n2 : b ≠ c) : Hd d c H b = some o := by
  unfold Hd
  rw [if_neg fun e => e.elim n1 n2]; exact h
theorem hd_sub {d c : Addr} {H : Hp} : Same (Hd d c H) H := fun _ _ h => (hd_some h).1
theorem hd_new {d c p : Addr} {H : Hp} (h : H p = none) (o : HO) : Same (Hd d c H) (Hd d c (upd H p o)) := fun b u q => by
  obtain ⟨q1, q2, q3⟩ := hd_some q
  exact hd_of (same_new h o b u q1) q2 q3
theorem hd_put {d c p : Addr} {H : Hp} (h : p = d ∨ p = c) (o : HO) : Same (Hd d c H) (Hd d c (upd H p o)) := fun b u q => by
  obtain ⟨q1, q2, q3⟩ := hd_some q
  refine hd_of ?_ q2 q3
  rw [upd_ne (fun e => h.elim (fun z => q2 (e.trans z)) fun z => q3 (e.trans z))]; exact q1
theorem hd_same {d c : Addr} {H H' : Hp} (h : Same H H') : Same (Hd d c H) (Hd d c H') := fun b u q => by
  obtain ⟨q1, q2, q3⟩ := hd_some q
  exact hd_of (h b u q1) q2 q3

/-- the deck at d, its cells at c, with at most m numbers drawn -/
structure Deck (H : Hp) (d c : Addr) (m : Nat) : Prop where
  ne : d ≠ c
  ex : ∃ (L : List Int) (n : Nat), H d = some (.lst [.ref c, .int n]) ∧ H c = some (.lst (L.map V.int)) ∧ L.length ≤ 63 ∧ (∀ x ∈ L, 0 ≤ x) ∧ n ≤ m
theorem Deck.same {H H' : Hp} {d c : Addr} {m : Nat} (D : Deck H d c m) (s : Same H H') : Deck H' d c m := by
  obtain ⟨L, n, h1, h2, h3⟩ := D.ex
  exact ⟨D.ne, L, n, s _ _ h1, s _ _ h2, h3⟩
theorem Deck.mono {H : Hp} {d c : Addr} {m k : Nat} (D : Deck H d c m) (h : m ≤ k) : Deck H d c k := by
  obtain ⟨L, n, h1, h2, h3, h4, h5⟩ := D.ex
  exact ⟨D.ne, L, n, h1, h2, h3, h4, Nat.le_trans h5 h⟩
theorem Deck.new {H : Hp} {d c : Addr} {m : Nat} (D : Deck H d c m) {p : Addr} (h : H p = none) (o : HO) : Deck (upd H p o) d c m := D.same (same_new h o)

def spDeck (K : PySem.W.Frag) : Sp := fun vs H Q _ => ∃ (a : Addr) (ns : List Int), vs = [.ref a] ∧ SqL K H a (ns.map V.int) ∧ ns.length ≤ 63 ∧ ∀ d c H', Same H H' → H d = none → H c = none → Deck H' d c 0 → Q (.ref d) H'
def spDraw : Sp := fun vs H Q _ => ∃ (d c : Addr) (many : Int) (m : Nat), vs = [.ref d, .int many] ∧ Deck H d c m ∧ m ≤ 1000000000 ∧ 0 < many ∧ many < 1073741824 ∧
  ∀ (r : Int) (H' : Hp), 0 ≤ r → r < many → Deck H' d c (m + 1) → Same (Hd d c H) (Hd d c H') → Q (.int r) H'
def spOne : Sp := fun vs H Q _ => ∃ (d c a : Addr) (xs : List V) (m : Nat), vs = [.ref d, .ref a] ∧ Deck H d c m ∧ m ≤ 1000000000 ∧ Hd d c H a = some (.lst xs) ∧ 0 < xs.length ∧ xs.length ≤ 100000 ∧
  ∀ (v : V) (H' : Hp), v ∈ xs → Deck H' d c (m + 1) → Same (Hd d c H) (Hd d c H') → Q v H'

def rAbs : List V → Hp → VK → Prop := fun xs H Q => ∃ i : Int, xs = [.int i] ∧ Q (.int (if i < 0 then -i else i)) H
theorem call_absS {X : Cx} : CallR X (.builtin "abs") rAbs := call_abs
theorem cut_mem {xs : List V} {lo hi : Option Int} {x : V} (h : x ∈ cutV xs lo hi) : x ∈ xs := List.mem_of_mem_drop (List.mem_of_mem_take h)

/-! ### machines that are drawn -/
def emp : Hp := fun _ => none
theorem emp_same {H : Hp} : Same emp H := fun _ _ h => nomatch (show (none : Option HO) = some _ from h)
/-- one more thing hidden -/
def Hr (R : Addr) (H : Hp) : Hp := fun b => if b = R then none else H b
theorem hr_some {R b : Addr} {H : Hp} {o : HO} (h : Hr R H b = some o) : H b = some o ∧ b ≠ R := by
  unfold Hr at h
  by_cases e : b = R
  · rw [if_pos e] at h; cases h
  · rw [if_neg e] at h; exact ⟨h, e⟩
theorem hr_of {R b : Addr} {H : Hp} {o : HO} (h : H b = some o) (n : b ≠ R) : Hr R H b = some o := by
  unfold Hr; rw [if_neg n]; exact h
theorem hr_sub {R : Addr} {H : Hp} : Same (Hr R H) H := fun _ _ h => (hr_some h).1
theorem hr_same {R : Addr} {H H' : Hp} (s : Same H H') : Same (Hr R H) (Hr R H') := fun b o h => hr_of (s _ _ (hr_some h).1) (hr_some h).2
theorem hr_put {R d c : Addr} {G : Hp} {o : HO} : Same (Hr R (Hd d c G)) (Hr R (Hd d c (upd G R o))) := fun b u h => by
  obtain ⟨h1, h2⟩ := hr_some h
  obtain ⟨h3, h4, h5⟩ := hd_some h1
  exact hr_of (hd_of (by rw [upd_ne h2]; exact h3) h4 h5) h2
theorem hd_none {d c p : Addr} {H : Hp} (n : H p = none) : Hd d c H p = none := by
  unfold Hd
  split
  · rfl
  · exact n
theorem hd_grow {d c p : Addr} {H G : Hp} (n : Hd d c H p = none) (s : Same (Hd d c H) (Hd d c G)) (o : HO) : Same (Hd d c H) (Hd d c (upd G p o)) := fun b u h => by
  obtain ⟨_, h2, h3⟩ := hd_some h
  exact hd_of (by rw [upd_ne (ne_of_none h n)]; exact (hd_some (s _ _ h)).1) h2 h3
theorem Deck.put {H : Hp} {d c p : Addr} {m : Nat} (D : Deck H d c m) (n1 : p ≠ d) (n2 : p ≠ c) (o : HO) : Deck (upd H p o) d c m := by
  obtain ⟨L, n, h1, h2, h3⟩ := D.ex
  exact ⟨D.ne, L, n, by rw [upd_ne n1.symm]; exact h1, by rw [upd_ne n2.symm]; exact h2, h3⟩
theorem Deck.free {H : Hp} {d c p : Addr} {m : Nat} (D : Deck H d c m) (n : H p = none) : p ≠ d ∧ p ≠ c := by
  obtain ⟨L, k, h1, h2, h3⟩ := D.ex
  exact ⟨(ne_of_none h1 n).symm, (ne_of_none h2 n).symm⟩

def IsRow (l n : Nat) (r : PyData) : Prop := ∃ xs, r = .tuple xs ∧ xs.length = l ∧ ∀ x ∈ xs, x = .none ∨ ∃ i : Int, x = .int i ∧ 0 ≤ i ∧ i < n
def IsMach (l n : Nat) (md : PyData) : Prop := ∃ (rs : List PyData) (bs : List Bool), md = .tuple [.int l, .tuple rs, .tuple (bs.map .bool)] ∧ rs.length = n ∧ bs.length = n ∧ ∀ r ∈ rs, IsRow l n r
def spMach (K : PySem.W.Frag) : Sp := fun vs H Q _ => ∃ (d c : Addr) (l n m : Nat), vs = [.ref d, .int l, .int n] ∧ Deck H d c m ∧ m ≤ 900000000 ∧ 1 ≤ l ∧ l ≤ 4 ∧ 1 ≤ n ∧ n ≤ 400 ∧
  ∀ (p : Addr) (md : PyData) (H' : Hp), IsMach l n md → Dt K (Hd d c H') (.ref p) md → Deck H' d c (m + 4000) → Same (Hd d c H) (Hd d c H') → Q (.ref p) H'
theorem bools_dt {K : PySem.W.Frag} {H : Hp} : ∀ bs : List Bool, DtAll K H (bs.map V.bl) (bs.map .bool)
  | [] => .nil
  | b :: bs => .cons (.bl b) (bools_dt bs)

/-! ### a list against an empty one, a tuple against an empty one -/
def rNe0 : R2 := fun x y H Q => ∃ (a b : Addr) (xs : List V), x = .ref a ∧ y = .ref b ∧ H a = some (.lst xs) ∧ H b = some (.lst []) ∧ Q (.bl (!xs.isEmpty)) H
def rEq0 : R2 := fun x y H Q => ∃ (a b : Addr) (xs : List V), x = .ref a ∧ y = .ref b ∧ H a = some (.tup xs) ∧ H b = some (.tup []) ∧ Q (.bl xs.isEmpty) H
theorem op_ne0 {X : Cx} (hu : X.A.units < cLine) : OpR X (compareOp .NotEq) rNe0 := by
  intro pins s σ H x y v u Q I rx ry h
  obtain ⟨a, b, xs, rfl, rfl, ha, hb, q⟩ := h
  cases rx
  cases ry
  obtain ⟨its, n, rv, e⟩ := lst_at I ha
  obtain ⟨its2, n2, rv2, e2⟩ := lst_at I hb
  cases rv2
  have l1 : s.heap.IsList a its.toArray := ⟨_, e, rfl, n, rfl⟩
  have l2 : s.heap.IsList b ([] : List Value).toArray := ⟨_, e2, rfl, n2, rfl⟩
  cases its with
  | nil =>
    cases rv
    exact SeqAt.RcNeAt.lists (e := fun _ => true) l1 l2 rfl hu (fun j h1 _ => absurd h1 (Nat.not_lt_zero j)) X.prog X.w _ _ ⟨.bl false, H, I, rfl, q⟩
  | cons y ys =>
    cases rv with
    | cons r1 r2 => exact SeqAt.RcNeAt.lists_lengths l1 l2 rfl hu X.prog X.w _ _ ⟨.bl true, H, I, rfl, q⟩
theorem op_eq0 {X : Cx} (hu : X.A.units < cLine) : OpR X (compareOp .Eq) rEq0 := by
  intro pins s σ H x y v u Q I rx ry h
  obtain ⟨a, b, xs, rfl, rfl, ha, hb, q⟩ := h
  cases rx
  cases ry
  obtain ⟨its, o, n, rv, e, ec, ed⟩ := tup_at I ha
  obtain ⟨its2, o2, n2, rv2, e2, ec2, ed2⟩ := tup_at I hb
  cases rv2
  have l1 : s.heap.IsTuple a its.toArray := ⟨_, e, ec, n, ed⟩
  have l2 : s.heap.IsTuple b ([] : List Value).toArray := ⟨_, e2, ec2, n2, ed2⟩
  cases its with
  | nil =>
    cases rv
    exact SeqAt.RcAt.tuples (e := fun _ => true) l1 l2 hu (fun j h1 _ => absurd h1 (Nat.not_lt_zero j)) X.prog X.w _ _ ⟨.bl true, H, I, rfl, q⟩
  | cons y ys =>
    cases rv with
    | cons r1 r2 => exact SeqAt.RcAt.tuples (e := fun _ => true) l1 l2 hu (fun j _ h2 => absurd h2 (Nat.not_lt_zero j)) X.prog X.w _ _ ⟨.bl false, H, I, rfl, q⟩

/-! ### what can be shown -/
mutual
theorem shown_wt {K : PySem.W.Frag} {H : Hp} : ∀ (d : PyData) (v : V), Dt K H v d → d.shown.length ≤ wt d
  | .none, _, _ => by decide +kernel
  | .bool b, _, _ => by cases b <;> decide +kernel
  | .int _, _, _ => Nat.le_refl _
  | .str _, _, _ => Nat.le_refl _
  | .list ds, _, h => by
    cases h with
    | lst _ ha =>
      have h1 := listText_len_le (PyData.shownAll ds)
      have h2 := shownAll_wt ds _ ha
      simp only [PyData.shown, wt]
      omega
  | .tuple ds, _, h => by
    cases h with
    | tup _ ha =>
      have h1 := tupleText_len_le (PyData.shownAll ds)
      have h2 := shownAll_wt ds _ ha
      simp only [PyData.shown, wt]
      omega
  | .dict _, _, h => by
    cases h with
    | dic _ =>
      simp only [PyData.shown, PyData.shownKv, wt]
      decide +kernel
theorem shownAll_wt {K : PySem.W.Frag} {H : Hp} : ∀ (ds : List PyData) (vs : List V), DtAll K H vs ds → ((PyData.shownAll ds).map (·.length)).sum + 2 * (PyData.shownAll ds).length ≤ wts ds
  | [], _, _ => by simp [PyData.shownAll, wts]
  | d :: ds, _, h => by
    cases h with
    | cons h1 h2 =>
      have e1 := shown_wt d _ h1
      have e2 := shownAll_wt ds _ h2
      simp only [PyData.shownAll, wts, List.map_cons, List.sum_cons, List.length_cons]
      omega
end
/-- small, shallow, with ints that can be shown -/
structure Fit (n k : Nat) (d : PyData) : Prop where
  w : wt d ≤ n
  k : d.depth ≤ k
  s : d.showable = true
structure FitAll (n k : Nat) (ds : List PyData) : Prop where
  w : wts ds ≤ n
  k : PyData.depthAll ds ≤ k
  s : PyData.showableAll ds = true
theorem Fit.mono {n k m j : Nat} {d : PyData} (h : Fit n k d) (a : n ≤ m) (b : k ≤ j) : Fit m j d := ⟨Nat.le_trans h.w a, Nat.le_trans h.k b, h.s⟩
theorem Fit.tup {n k : Nat} {ds : List PyData} (h : FitAll n k ds) : Fit (n + 3) (k + 1) (.tuple ds) := ⟨by simp only [wt]; have := h.w; omega, by simp only [PyData.depth]; have := h.k; omega, by simp only [PyData.showable]; exact h.s⟩
theorem Fit.lst {n k : Nat} {ds : List PyData} (h : FitAll n k ds) : Fit (n + 3) (k + 1) (.list ds) := ⟨by simp only [wt]; have := h.w; omega, by simp only [PyData.depth]; have := h.k; omega, by simp only [PyData.showable]; exact h.s⟩
theorem FitAll.nil {k : Nat} : FitAll 0 k [] := ⟨by simp only [wts]; exact Nat.le_refl 0, by simp only [PyData.depthAll]; exact Nat.zero_le _, by simp only [PyData.showableAll]⟩
theorem FitAll.cons {n m k : Nat} {d : PyData} {ds : List PyData} (a : Fit n k d) (b : FitAll m k ds) : FitAll (n + 2 + m) k (d :: ds) :=
  ⟨by simp only [wts]; have := a.w; have := b.w; omega, by simp only [PyData.depthAll]; exact Nat.max_le.mpr ⟨a.k, b.k⟩, by simp only [PyData.showableAll, a.s, b.s, Bool.and_self]⟩
theorem FitAll.mono {n k m j : Nat} {ds : List PyData} (h : FitAll n k ds) (a : n ≤ m) (b : k ≤ j) : FitAll m j ds := ⟨Nat.le_trans h.w a, Nat.le_trans h.k b, h.s⟩
theorem FitAll.append {n m k : Nat} : ∀ {ds es : List PyData}, FitAll n k ds → FitAll m k es → FitAll (n + m) k (ds ++ es)
  | [], es, _, b => b.mono (Nat.le_add_left _ _) (Nat.le_refl _)
  | d :: ds, es, a, b => by
    have w := a.w
    have kk := a.k
    have ss := a.s
    simp only [wts] at w
    simp only [PyData.depthAll] at kk
    simp only [PyData.showableAll, Bool.and_eq_true] at ss
    have r : FitAll (wts ds + m) k (ds ++ es) := FitAll.append ⟨Nat.le_refl _, Nat.le_trans (Nat.le_max_right _ _) kk, ss.2⟩ b
    exact (FitAll.cons (n := wt d) ⟨Nat.le_refl _, Nat.le_trans (Nat.le_max_left _ _) kk, ss.1⟩ r).mono (by omega) (Nat.le_refl _)
theorem FitAll.take {n k : Nat} : ∀ {ds : List PyData} (i : Nat), FitAll n k ds → FitAll n k (ds.take i)
  | ds, 0, _ => by rw [List.take_zero]; exact FitAll.nil.mono (Nat.zero_le _) (Nat.le_refl _)
  | [], i + 1, a => a
  | d :: ds, i + 1, a => by
    have w := a.w
    have kk := a.k
    have ss := a.s
    simp only [wts] at w
    simp only [PyData.depthAll] at kk
    simp only [PyData.showableAll, Bool.and_eq_true] at ss
    have r : FitAll (wts ds) k (ds.take i) := FitAll.take i ⟨Nat.le_refl _, Nat.le_trans (Nat.le_max_right _ _) kk, ss.2⟩
    exact (FitAll.cons (n := wt d) ⟨Nat.le_refl _, Nat.le_trans (Nat.le_max_left _ _) kk, ss.1⟩ r).mono (by omega) (Nat.le_refl _)
theorem FitAll.drop {n k : Nat} : ∀ {ds : List PyData} (i : Nat), FitAll n k ds → FitAll n k (ds.drop i)
  | ds, 0, a => a
  | [], i + 1, a => a
  | d :: ds, i + 1, a => by
    have w := a.w
    have kk := a.k
    have ss := a.s
    simp only [wts] at w
    simp only [PyData.depthAll] at kk
    simp only [PyData.showableAll, Bool.and_eq_true] at ss
    have r : FitAll (wts ds) k (ds.drop i) := FitAll.drop i ⟨Nat.le_refl _, Nat.le_trans (Nat.le_max_right _ _) kk, ss.2⟩
    exact r.mono (by omega) (Nat.le_refl _)
theorem FitAll.mem {n k : Nat} {d : PyData} : ∀ {ds : List PyData}, FitAll n k ds → d ∈ ds → Fit n k d
  | e :: ds, a, h => by
    have w := a.w
    have kk := a.k
    have ss := a.s
    simp only [wts] at w
    simp only [PyData.depthAll] at kk
    simp only [PyData.showableAll, Bool.and_eq_true] at ss
    rcases List.mem_cons.mp h with rfl | h
    · exact ⟨by omega, Nat.le_trans (Nat.le_max_left _ _) kk, ss.1⟩
    · exact FitAll.mem (ds := ds) ⟨by omega, Nat.le_trans (Nat.le_max_right _ _) kk, ss.2⟩ h
theorem Fit.all {n k : Nat} {ds : List PyData} (h : Fit n k (.tuple ds)) : FitAll n k ds ∧ PyData.depthAll ds + 1 ≤ k := by
  have w := h.w
  have kk := h.k
  have ss := h.s
  simp only [wt] at w
  simp only [PyData.depth] at kk
  simp only [PyData.showable] at ss
  exact ⟨⟨by omega, by omega, ss⟩, kk⟩
theorem fit_int {i : Int} {n : Nat} (h : i.natAbs < 10 ^ 41) (hn : 42 ≤ n) {k : Nat} : Fit n k (.int i) := by
  have e := int_text_length_le10 (k := 41) (by decide) h
  have l : wt (.int i) = (toString i).length := by simp only [wt, PyData.shown]; exact ofString_length _
  refine ⟨by rw [l]; omega, by simp only [PyData.depth]; exact Nat.zero_le _, ?_⟩
  simp only [PyData.showable, decide_eq_true_eq]
  have h2 : i.natAbs < 2 ^ 1920 := Nat.lt_trans h (by decide +kernel)
  by_cases z : i.natAbs = 0
  · rw [z]; decide
  · exact (Nat.log2_lt z).mpr h2
theorem fit_non {n k : Nat} (h : 5 ≤ n) : Fit n k .none := ⟨by simp only [wt]; omega, by simp only [PyData.depth]; exact Nat.zero_le _, by simp only [PyData.showable]⟩
theorem fit_bl {n k : Nat} {b : Bool} (h : 5 ≤ n) : Fit n k (.bool b) := ⟨by simp only [wt]; omega, by simp only [PyData.depth]; exact Nat.zero_le _, by simp only [PyData.showable]⟩
theorem fit_dic {n k : Nat} (h : 2 ≤ n) (hk : 1 ≤ k) : Fit n k (.dict []) := ⟨by simp only [wt]; omega, by simp only [PyData.depth, PyData.depthKv]; omega, by simp only [PyData.showable, PyData.showableKv]⟩
theorem fit_str {n k m : Nat} {x : Str} (e : (PyData.str x).shown.length ≤ m) (h : m ≤ n) : Fit n k (.str x) := ⟨by simp only [wt]; omega, by simp only [PyData.depth]; exact Nat.zero_le _, by simp only [PyData.showable]⟩
theorem fit_mach {l n : Nat} {md : PyData} (h : IsMach l n md) (hl : l ≤ 4) (hn : n ≤ 400) : Fit (188 * n + 60) 3 md := by
  obtain ⟨rs, bs, rfl, h1, h2, h3⟩ := h
  have row : ∀ xs : List PyData, (∀ x ∈ xs, x = .none ∨ ∃ i : Int, x = .int i ∧ 0 ≤ i ∧ i < n) → FitAll (44 * xs.length) 0 xs := by
    intro xs
    induction xs with
    | nil => intro _; exact FitAll.nil
    | cons x xs ih =>
      intro hx
      have a : Fit 42 0 x := by
        rcases hx x List.mem_cons_self with rfl | ⟨i, rfl, i0, i1⟩
        · exact fit_non (by decide)
        · exact fit_int (by have : i.natAbs < 400 := by omega
                            omega) (by decide)
      exact (FitAll.cons a (ih fun y hy => hx y (List.mem_cons_of_mem _ hy))).mono (by rw [List.length_cons]; omega) (Nat.le_refl _)
  have rows : ∀ rs : List PyData, (∀ r ∈ rs, IsRow l n r) → FitAll (181 * rs.length) 1 rs := by
    intro rs
    induction rs with
    | nil => intro _; exact FitAll.nil
    | cons r rs ih =>
      intro hr
      obtain ⟨xs, rfl, x1, x2⟩ := hr r List.mem_cons_self
      have a := Fit.tup (row xs x2)
      exact (FitAll.cons a (ih fun y hy => hr y (List.mem_cons_of_mem _ hy))).mono (by rw [List.length_cons, x1]; omega) (Nat.le_refl _)
  have bools : ∀ bs : List Bool, FitAll (7 * bs.length) 1 (bs.map PyData.bool) := by
    intro bs
    induction bs with
    | nil => exact FitAll.nil
    | cons b bs ih => exact (FitAll.cons (n := 5) (fit_bl (by decide)) ih).mono (by rw [List.length_cons]; omega) (Nat.le_refl _)
  have r1 := rows rs h3
  rw [h1] at r1
  have r2 := bools bs
  rw [h2] at r2
  have il : (l : Int).natAbs < 10 ^ 41 := Nat.lt_of_lt_of_le (show (l : Int).natAbs < 5 by omega) (by decide +kernel)
  exact (Fit.tup (FitAll.cons (fit_int (n := 42) il (by decide)) (FitAll.cons (Fit.tup r1) (FitAll.cons (Fit.tup r2) FitAll.nil)))).mono (by omega) (Nat.le_refl _)

/-! ### slices and sums of tuples, one way each -/
def rSlD : V → Option Int → Option Int → Hp → VK → Prop := fun x lo hi H Q => ∃ (a : Addr) (xs : List V), x = .ref a ∧ H a = some (.tup xs) ∧ ∀ (b : Addr) (G : Hp), Same H G → G b = some (.tup (cutV xs lo hi)) → Q (.ref b) G
theorem cut_whole {xs : List V} {lo hi : Option Int} (h : HT.sIx xs.length 0 lo = 0 ∧ HT.sIx xs.length xs.length hi = xs.length) : cutV xs lo hi = xs := by
  unfold cutV
  rw [h.1, h.2, List.drop_zero, Nat.sub_zero, List.take_length]
theorem sl_tupD {X : Cx} : SlR X rSlD := by
  intro pins s σ H x v vl vu lo hi sl Q I rx hs pl pu h
  obtain ⟨a, xs, rfl, ha, q⟩ := h
  exact sl_tupA pins s σ H _ v vl vu lo hi sl Q I rx hs pl pu ⟨a, xs, rfl, .inl (.inl ha), fun hw => q a H (Same.refl H) (by rw [cut_whole hw]; exact ha), fun _ p np => q p _ (same_new np _) upd_same⟩
def rCatD : R2 := fun x y H Q => ∃ (a b : Addr) (xs ys : List V), x = .ref a ∧ y = .ref b ∧ H a = some (.tup xs) ∧ H b = some (.tup ys) ∧ xs.length + ys.length ≤ sizeLine ∧ ∀ (p : Addr) (G : Hp), Same H G → G p = some (.tup (xs ++ ys)) → Q (.ref p) G
theorem op_catD {X : Cx} : OpR X (binaryOp .Add) rCatD := by
  intro pins s σ H x y v u Q I rx ry h
  obtain ⟨a, b, xs, ys, rfl, rfl, ha, hb, hz, q⟩ := h
  refine op_catA pins s σ H _ _ v u Q I rx ry ⟨a, b, xs, ys, rfl, rfl, .inl (.inl ha), .inl (.inl hb), hz, fun e => ?_, fun _ e => ?_, fun _ _ p np => q p _ (same_new np _) upd_same⟩
  · subst e; exact q b H (Same.refl H) hb
  · subst e; exact q a H (Same.refl H) (by rw [List.append_nil]; exact ha)
theorem cut_dt {K : PySem.W.Frag} {H : Hp} {vs : List V} {ds : List PyData} (lo hi : Option Int) (h : DtAll K H vs ds) : ∃ es, DtAll K H (cutV vs lo hi) es ∧ ∀ n k, FitAll n k ds → FitAll n k es :=
  ⟨_, (h.drop _).take _, fun _ _ f => (f.drop _).take _⟩
theorem Deck.tup {H : Hp} {d c b : Addr} {m : Nat} {xs : List V} (D : Deck H d c m) (h : H b = some (.tup xs)) : Hd d c H b = some (.tup xs) := by
  obtain ⟨L, n, h1, h2, _⟩ := D.ex
  exact hd_of h (ne_of h h1 fun z => nomatch z) (ne_of h h2 fun z => nomatch z)

/-- where the top has left a def -/
structure DF (K : PySem.W.Frag) (x : Str) (st : Stmt) (f : Addr) (fd : FuncData) : Prop where
  ns : PySem.W.nsIn K mainGlobals x = some (some (.ref f))
  fn : Fun K x x st f fd
theorem df {K : PySem.W.Frag} {x : Str} {st : Stmt} {f : Addr} {oc : Value} {od an : Option Addr} {osl : Array (Option Value)} {kV doc pm cdv ct : Value} (a : PySem.W.nsIn K mainGlobals x = some (some (.ref f)))
    (l : K.lookup f = some ⟨oc, od, .func (PySem.W.fnOf x x (defArgs st) (defBody st) (defScope st) .none kV doc pm an cdv ct), osl⟩) (c : PySem.W.codeIn K cdv x = true) (k : PySem.W.keepIn K (.ref f) = true) :
    DF K x st f (PySem.W.fnOf x x (defArgs st) (defBody st) (defScope st) .none kV doc pm an cdv ct) := ⟨a, fun_mk l c k⟩
/-- the names that the deck's defs use -/
structure TxC (mg : Str → Option Value) : Prop where
  int : mg "int" = none
  tuple : mg "tuple" = none
  len : mg "len" = none
  abs : mg "abs" = none
  range : mg "range" = none
end KC

/-! Own layer: zip of two or three, enumerate, over lists, tuples and texts in any mix; what is walked stands still. -/
namespace GZ
open PySem PySem.Spec PyProof.Rows L2

/-- the kinds of what is walked -/
inductive Kd where
  | lst
  | tup
  | str
def sgs (z : Str) : List V := z.cps.toList.map fun c => V.str ⟨#[c]⟩
/-- v is a list, a tuple, a text of the items xs -/
def Src (K : PySem.W.Frag) (H : Hp) : Kd → V → List V → Prop
  | .lst, v, xs => ∃ a, v = .ref a ∧ SqL K H a xs
  | .tup, v, xs => ∃ a, v = .ref a ∧ SqT K H a xs
  | .str, v, xs => ∃ z, v = .str z ∧ xs = sgs z
/-- the iterator at it, ahead of the item i -/
def StI (h : Heap) : Kd → V → Addr → Nat → Prop
  | .lst, v, it, i => ∃ a, v = .ref a ∧ h.IsListIter it a i
  | .tup, v, it, i => ∃ a, v = .ref a ∧ h.IsTupleIter it a i
  | .str, v, it, i => ∃ z t, v = .str z ∧ h.IsStrIter it (strIterType z) z t i
theorem StI.keep {h h' : Heap} {k : Kd} {v : V} {it : Addr} {i : Nat} (st : StI h k v it i) (q : ∀ o, h.get? it = some o → h'.get? it = some o) : StI h' k v it i := by
  cases k with
  | lst => obtain ⟨a, e, s⟩ := st; exact ⟨a, e, s.at q⟩
  | tup => obtain ⟨a, e, s⟩ := st; exact ⟨a, e, s.at q⟩
  | str => obtain ⟨z, t, e, o, ho, r⟩ := st; exact ⟨z, t, e, o, q o ho, r⟩
theorem StI.obj {h : Heap} {k : Kd} {v : V} {it : Addr} {i : Nat} (st : StI h k v it i) : ∃ o, h.get? it = some o ∧ ∀ v, o.data ≠ .cell v := by
  cases k with
  | lst => obtain ⟨a, e, o, ho, _, d⟩ := st; exact ⟨o, ho, fun v z => by rw [d] at z; cases z⟩
  | tup => obtain ⟨a, e, o, ho, _, d⟩ := st; exact ⟨o, ho, fun v z => by rw [d] at z; cases z⟩
  | str => obtain ⟨z, t, e, o, ho, _, d⟩ := st; exact ⟨o, ho, fun v z => by rw [d] at z; cases z⟩
theorem vals_back {xs : List V} {us : List Value} (r : Vals xs us) {j : Nat} {u : Value} (h : us[j]? = some u) : ∃ y, xs[j]? = some y ∧ RelV y u := by
  have l := r.length
  have jl : j < us.length := (List.getElem?_eq_some_iff.mp h).1
  obtain ⟨y, hy⟩ : ∃ y, xs[j]? = some y := ⟨_, List.getElem?_eq_getElem (by omega)⟩
  obtain ⟨u', h1, h2⟩ := r.get hy
  rw [h] at h1
  cases h1
  exact ⟨y, hy, h2⟩
section
variable {X : Cx} {pins : List (Addr × Obj)} {σ : L2.St} {H : Hp} {s : Shared}
/-- what its iterator draws -/
theorem src_draws (I : Inv X pins σ H s) (hc : X.calm = true) {k : Kd} {v : V} {xs : List V} {it : Addr} {i : Nat} (h : Src X.K H k v xs) (st : StI s.heap k v it i) (ne : ∀ a, v = .ref a → a ≠ it) :
    ∃ (fp : List Addr) (P : Nat → Value → Prop) (St : Nat → Heap → Prop), Draws X.prog X.w X.A.in1 it fp xs.length P St ∧ St i s.heap ∧ it ∈ fp ∧ (∀ b ∈ fp, b = it ∨ v = .ref b) ∧
      (∀ j x, P j x → ∃ y, xs[j]? = some y ∧ RelV y x) ∧ ∀ j h', St j h' → StI h' k v it j := by
  have hh : X.A.in1.handled = none := I.ok.hd hc
  cases k with
  | lst =>
    obtain ⟨a, rfl, hq⟩ := h
    obtain ⟨a', e, st⟩ := st
    cases e
    obtain ⟨its, rv, p, hz⟩ := I.list hq
    have D := Draws.list (prog := X.prog) (w := X.w) (A := X.A.in1) hh it a (ne a rfl) its.toArray
    rw [show its.toArray.size = xs.length by rw [List.size_toArray, rv.length]] at D
    exact ⟨_, _, _, D, ⟨st, p.isList⟩, List.mem_cons_self, fun b hb => by simpa [eq_comm] using hb, fun j x hx => vals_back rv (by simpa using hx), fun j h' q => ⟨a, rfl, q.1⟩⟩
  | tup =>
    obtain ⟨a, rfl, hq⟩ := h
    obtain ⟨a', e, st⟩ := st
    cases e
    obtain ⟨its, rv, p, hz⟩ := I.tuple hq
    have D := Draws.tuple (prog := X.prog) (w := X.w) (A := X.A.in1) hh it a (ne a rfl) its.toArray
    rw [show its.toArray.size = xs.length by rw [List.size_toArray, rv.length]] at D
    exact ⟨_, _, _, D, ⟨st, p⟩, List.mem_cons_self, fun b hb => by simpa [eq_comm] using hb, fun j x hx => vals_back rv (by simpa using hx), fun j h' q => ⟨a, rfl, q.1⟩⟩
  | str =>
    obtain ⟨z, rfl, rfl⟩ := h
    obtain ⟨z', t, e, st⟩ := st
    cases e
    have D := Draws.text (prog := X.prog) (w := X.w) (A := X.A.in1) hh it z t
    rw [show z.cps.size = (sgs z).length by unfold sgs; rw [List.length_map, Array.length_toList]] at D
    refine ⟨_, _, _, D, st, List.mem_cons_self, fun b hb => .inl (by simpa using hb), ?_, fun j h' q => ⟨z, t, rfl, q⟩⟩
    rintro j x ⟨c, u, h1, rfl⟩
    refine ⟨.str ⟨#[c]⟩, ?_, ⟨u, rfl⟩⟩
    unfold sgs
    rw [List.getElem?_map, Array.getElem?_toList, h1]
    rfl
/-- how its iterator begins -/
theorem src_begins (I : Inv X pins σ H s) {k : Kd} {v : V} {u : Value} {xs : List V} (h : Src X.K H k v xs) (r : RelV v u) :
    ∃ (o : Obj) (Hb : Heap → Prop), Begins u o Hb ∧ Hb s.heap ∧ (∀ (it : Addr) (h' : Heap), h'.get? it = some o → StI h' k v it 0) ∧ ∀ a, v = .ref a → a < s.heap.objs.size := by
  cases k with
  | lst =>
    obtain ⟨a, rfl, hq⟩ := h
    cases r
    obtain ⟨its, rv, p, hz⟩ := I.list hq
    exact ⟨_, _, begins_list a its.toArray, p.isList, fun it h' e => ⟨a, rfl, _, e, rfl, rfl⟩, fun b e => by cases e; exact p.lt⟩
  | tup =>
    obtain ⟨a, rfl, hq⟩ := h
    cases r
    obtain ⟨its, rv, p, hz⟩ := I.tuple hq
    have la : a < s.heap.objs.size := by
      obtain ⟨o, ho, _⟩ := id p
      exact Heap.lt_size ho
    exact ⟨_, _, begins_tuple a its.toArray, p, fun it h' e => ⟨a, rfl, _, e, rfl, rfl⟩, fun b e => by cases e; exact la⟩
  | str =>
    obtain ⟨z, rfl, rfl⟩ := h
    obtain ⟨t, rfl⟩ := r
    exact ⟨_, _, begins_text z t, trivial, fun it h' e => ⟨z, t, rfl, _, e, rfl, rfl⟩, fun b e => nomatch e⟩
end

theorem out5 {n a : Nat} (h : a < n) : a ∉ [n + 4, n + 2, n + 3, n, n + 1] := by
  simp only [List.mem_cons, List.not_mem_nil, or_false]
  omega
theorem le5 {n a : Nat} (h : a ∈ [n + 4, n + 2, n + 3, n, n + 1]) : n ≤ a := by
  simp only [List.mem_cons, List.not_mem_nil, or_false] at h
  omega
theorem out6 {n a : Nat} (h : a < n) : a ∉ [n + 5, n + 3, n + 4, n, n + 1, n + 2] := by
  simp only [List.mem_cons, List.not_mem_nil, or_false]
  omega
theorem le6 {n a : Nat} (h : a ∈ [n + 5, n + 3, n + 4, n, n + 1, n + 2]) : n ≤ a := by
  simp only [List.mem_cons, List.not_mem_nil, or_false] at h
  omega
theorem out2 {n a : Nat} (h : a < n) : a ∉ [n + 1, n] := by
  simp only [List.mem_cons, List.not_mem_nil, or_false]
  omega
theorem le2 {n a : Nat} (h : a ∈ [n + 1, n]) : n ≤ a := by
  simp only [List.mem_cons, List.not_mem_nil, or_false] at h
  omega
/-- n turns while G stands; turn i gives a new tuple of what stands in row i -/
def ItN (n : Nat) (G : Hp → Prop) (row : Nat → Option (List V)) : It :=
  ⟨fun i H => G H ∧ i < n, fun i H v H' => ∃ T xs, v = .ref T ∧ H T = none ∧ H' = upd H T (.tup xs) ∧ row i = some xs, fun i H => G H ∧ i = n⟩
theorem walk_N {n : Nat} {G : Hp → Prop} {row : Nat → Option (List V)} : Walk (ItN n G row) n G (fun i H v H' => ∃ T xs, v = .ref T ∧ H T = none ∧ H' = upd H T (.tup xs) ∧ row i = some xs) :=
  ⟨fun _ _ hi q => ⟨q, hi⟩, fun _ q => ⟨q, rfl⟩, fun _ _ _ _ _ _ y => y⟩
/-- such an iterator by the library's walks of tuples -/
theorem turn_N {P : Program} {w : World} {K : PySem.W.Frag} {elts : List Expr} {kk : Nat} {tpos : Pos} {n : Nat} {G : Hp → Prop} {row : Nat → Option (List V)} {fp : List Addr} {z : Addr} {tn : Nat → Heap → Prop} (mem : z ∈ fp)
    (obj : ∀ i h, tn i h → ∀ b ∈ fp, ∃ o, h.get? b = some o ∧ ∀ v, o.data ≠ .cell v) (keep : ∀ i h h', tn i h → (∀ b ∈ fp, ∀ o, h.get? b = some o → h'.get? b = some o) → tn i h')
    (self : ∀ (A : Around) (i : Nat) (s : Shared) (Q : Value → Shared → Prop) (E : Value → Shared → Prop), tn i s.heap → Q (.ref z) s → wpAny (model P w) A (pyIter (.ref z)) Q E s)
    (W : ∀ (X : Cx), X.prog = P → X.w = w → X.K = K → X.calm = true → ∀ (i : Nat) (pins : List (Addr × Obj)) (s : Shared) (σ : L2.St) (H : Hp), Inv X pins σ H s → G H → tn i s.heap →
      ∃ (fpW wr : List Addr) (Pt : Nat → Array Value → Prop) (St : Nat → Heap → Prop) (Mid : Nat → Addr → Heap → Prop), WalksT P w X.A z fpW wr n Pt St Mid ∧ St i s.heap ∧ (∀ b ∈ wr, b ∈ fp) ∧ (∀ j h, St j h → tn j h) ∧
        ∀ j vals, Pt j vals → ∃ xs, row j = some xs ∧ Vals xs vals.toList ∧ xs.length ≤ sizeLine) : Turn P w K (.Tuple elts kk tpos) (ItN n G row) fp z tn where
  mem := mem
  obj := obj
  keep := keep
  self := self
  item := by
    intro X hP hw hK hc i pins s σ H E I hf st hg
    obtain ⟨hG, hi⟩ := hg
    obtain ⟨fpW, wr, Pt, St, Mid, Wk, st0, hwr, hst, hpt⟩ := W X hP hw hK hc i pins s σ H I hG st
    subst hP hw hK
    refine Wk.item i s _ _ hi st0 fun T vals h' tk hP hT hTup mid hk => ⟨_, rfl, Wk.go elts kk tpos i T { s with heap := h', toks := tk } _ _ mid fun h'' st'' hk'' => ?_⟩
    obtain ⟨xs, hr, hv, hl⟩ := hpt i vals hP
    have hap := Wk.apart i T h' mid
    obtain ⟨o, ho, hcl, nn, hd⟩ := hTup
    have new : ObjOk X.prog X.w (upd H T (.tup xs)) h'' T (.tup xs) := ⟨hl, vals.toList, hv, ⟨o, hk'' T o hap ho, hcl, nn, by simpa using hd⟩⟩
    have I1 : Inv X pins σ (upd H T (.tup xs)) { s with heap := h'', toks := tk } :=
      I.turnedNew (ch := fp) (fun b ob hb q => hk'' b ob (fun z => hb (hwr b z)) (hk b ob (fun z => hb (hwr b z)) q)) hf hT new
    refine ⟨.ref T, _, I1, rfl, ⟨T, xs, rfl, I.hok.fresh hT, rfl, hr⟩, hst _ _ st'', fun b hb => ?_⟩
    obtain ⟨ob, hob, _⟩ := obj i s.heap st b hb
    have hlt : b < s.heap.objs.size := Heap.lt_size hob
    rw [upd_ne (Nat.ne_of_lt (Nat.lt_of_lt_of_le hlt hT))]
    exact (hf b hb).1
  done := by
    intro X hP hw hK hc i pins s σ H E I hf st hg
    obtain ⟨hG, hi⟩ := hg
    obtain ⟨fpW, wr, Pt, St, Mid, Wk, st0, hwr, hst, hpt⟩ := W X hP hw hK hc i pins s σ H I hG st
    subst hP hw hK hi
    exact Wk.done s _ _ st0 fun h' tk hk => ⟨rfl, I.turnedL (t' := tk) (ch := fp) (fun b ob hb q => hk b ob (fun z => hb (hwr b z)) q) hf⟩

/-! ### zip of two -/
def row2 (xs ys : List V) (i : Nat) : Option (List V) := match xs[i]?, ys[i]? with
  | some x, some y => some [x, y]
  | _, _ => none
theorem row2_of {xs ys : List V} {i : Nat} {r : List V} (h : row2 xs ys i = some r) : ∃ x y, xs[i]? = some x ∧ ys[i]? = some y ∧ r = [x, y] := by
  unfold row2 at h
  split at h
  · rename_i x y h1 h2
    cases h
    exact ⟨x, y, h1, h2, rfl⟩
  · cases h
def It2 (K : PySem.W.Frag) (k1 : Kd) (v1 : V) (xs : List V) (k2 : Kd) (v2 : V) (ys : List V) : It := ItN (min xs.length ys.length) (fun H => Src K H k1 v1 xs ∧ Src K H k2 v2 ys) (row2 xs ys)
theorem turn_z2 {P : Program} {w : World} {K : PySem.W.Frag} {elts : List Expr} {kk : Nat} {tpos : Pos} {k1 k2 : Kd} {v1 v2 : V} {xs ys : List V} {z TI TO i1 i2 : Addr} (nd : [z, TI, TO, i1, i2].Nodup) (a1 : ∀ a, v1 = .ref a → a ∉ [z, TI, TO, i1, i2]) (a2 : ∀ a, v2 = .ref a → a ∉ [z, TI, TO, i1, i2]) :
    Turn P w K (.Tuple elts kk tpos) (It2 K k1 v1 xs k2 v2 ys) [z, TI, TO, i1, i2] z (fun i h => IsZip h z TI TO .none ∧ IsTupOf2 h TI (.ref i1) (.ref i2) ∧ (∃ x y, IsTupOf2 h TO x y) ∧ StI h k1 v1 i1 i ∧ StI h k2 v2 i2 i) := by
  refine turn_N (by simp) (fun i h st c hc => ?_) (fun i h h' st k => ?_) (fun A i s Q E st q => wpAny_pyIter_zip st.1 q) (fun X hP hw hK hc i pins s σ H I hG st => ?_)
  · obtain ⟨hz, hTI, ⟨x, y, hTO⟩, s1, s2⟩ := st
    have e' : c = z ∨ c = TI ∨ c = TO ∨ c = i1 ∨ c = i2 := by simpa using hc
    rcases e' with q | q | q | q | q
    · rw [q]; exact ⟨_, hz, fun v q => nomatch q⟩
    · rw [q]; exact ⟨_, hTI, fun v q => nomatch q⟩
    · rw [q]; exact ⟨_, hTO, fun v q => nomatch q⟩
    · rw [q]; exact s1.obj
    · rw [q]; exact s2.obj
  · obtain ⟨hz, hTI, ⟨x, y, hTO⟩, s1, s2⟩ := st
    exact ⟨k z (by simp) _ hz, k TI (by simp) _ hTI, ⟨x, y, k TO (by simp) _ hTO⟩, s1.keep fun o q => k i1 (by simp) o q, s2.keep fun o q => k i2 (by simp) o q⟩
  · subst hP hw hK
    obtain ⟨hz, hTI, ⟨x, y, hTO⟩, s1, s2⟩ := st
    simp only [List.nodup_cons, List.mem_cons, List.not_mem_nil, or_false, not_or, not_false_eq_true, List.nodup_nil, and_true] at nd
    simp only [List.mem_cons, List.not_mem_nil, or_false, not_or] at a1 a2
    obtain ⟨⟨n1, n2, n3, n4⟩, ⟨n5, n6, n7⟩, ⟨n8, n9⟩, n10⟩ := nd
    obtain ⟨f1, P1, S1, D1, t1, m1, g1, p1, q1⟩ := src_draws I hc hG.1 s1 (fun a e => (a1 a e).2.2.2.1)
    obtain ⟨f2, P2, S2, D2, t2, m2, g2, p2, q2⟩ := src_draws I hc hG.2 s2 (fun a e => (a2 a e).2.2.2.2)
    have out1 : ∀ b, b ≠ i1 → (b = z ∨ b = TO ∨ b = i2) → b ∉ f1 := fun b ne hb hm => by
      rcases g1 b hm with e | e
      · exact ne e
      · rcases hb with rfl | rfl | rfl
        · exact (a1 _ e).1 rfl
        · exact (a1 _ e).2.2.1 rfl
        · exact (a1 _ e).2.2.2.2 rfl
    have out2 : ∀ b, b ≠ i2 → (b = z ∨ b = TO ∨ b = i1) → b ∉ f2 := fun b ne hb hm => by
      rcases g2 b hm with e | e
      · exact ne e
      · rcases hb with rfl | rfl | rfl
        · exact (a2 _ e).1 rfl
        · exact (a2 _ e).2.2.1 rfl
        · exact (a2 _ e).2.2.2.1 rfl
    have S : ZipSep2 z TI TO i1 i2 f1 f2 := ⟨Ne.symm n1, Ne.symm n2, n5, n6, m1, out1 z n3 (.inl rfl), out1 TO n8 (.inr (.inl rfl)), n7, m2, out2 z n4 (.inl rfl), out2 TO n9 (.inr (.inl rfl)), out2 i1 n10 (.inr (.inr rfl)), out1 i2 (Ne.symm n10) (.inr (.inr rfl))⟩
    refine ⟨_, _, _, _, _, WalksT.zipD2 S D1 D2, ⟨hz, hTI, ⟨x, y, hTO⟩, t1, t2⟩, fun b hb => ?_, fun j h st => ⟨st.1, st.2.1, st.2.2.1, q1 _ _ st.2.2.2.1, q2 _ _ st.2.2.2.2⟩, ?_⟩
    · simp only [List.mem_cons, List.not_mem_nil, or_false] at hb ⊢
      rcases hb with e | e | e | e
      · exact .inl e
      · exact .inr (.inr (.inl e))
      · exact .inr (.inr (.inr (.inl e)))
      · exact .inr (.inr (.inr (.inr e)))
    · rintro j vals ⟨u1, u2, h1, h2, rfl⟩
      obtain ⟨y1, e1, r1⟩ := p1 j u1 h1
      obtain ⟨y2, e2, r2⟩ := p2 j u2 h2
      exact ⟨[y1, y2], by unfold row2; rw [e1, e2], .cons r1 (.cons r2 .nil), by show 2 ≤ 2 ^ 24; decide⟩
def iZ2 (K : PySem.W.Frag) (ta : TA) : TI := fun σ H R => ta σ H fun vs H1 => ∃ (v1 v2 : V) (k1 k2 : Kd) (xs ys : List V), vs = [v1, v2] ∧ Src K H1 k1 v1 xs ∧ Src K H1 k2 v2 ys ∧ R (It2 K k1 v1 xs k2 v2 ys) H1
theorem fresh_fp {X : Cx} {pins : List (Addr × Obj)} {σ : L2.St} {H : Hp} {s : Shared} (I : Inv X pins σ H s) {b : Addr} (h : s.heap.objs.size ≤ b) : FpOk X pins H b := I.fpOk h (I.hok.fresh h)
theorem pi_z2 {X : Cx} {e e2 : Expr} {ta : TA} {p pos tpos : Pos} {elts : List Expr} {kk : Nat} (hg : Gl X "zip") (hm : X.mg "zip" = none) (ha : PA X [e, e2] ta)
    (hs : starEach [e, e2] X.env = (false, eval e X.env) :: starEach [e2] X.env := by rfl) (hpl : (backTo pos (starEach [e2] X.env)).any (·.1) = false := by rfl) :
    PI X (.Tuple elts kk tpos) (.Call (.Name "zip" p) [e, e2] [] pos) (iZ2 X.K ta) := by
  refine ⟨fun pins s σ H R I h => ?_⟩
  refine Call_ (ld_blt I hg hm PyProof.Rows.boot_zip (PyProof.Rows.callWith_type1 (thn (ha.run pos pins s σ H _ I h) fun us s1 ⟨vs, H1, I1, r1, q1⟩ => ?_) hs hpl))
  obtain ⟨v1, v2, k1, k2, xs, ys, ex, hx, hy, q⟩ := q1
  subst ex
  cases r1 with
  | cons r rr =>
    cases rr with
    | cons r' rr =>
      cases rr
      obtain ⟨o1, B1, b1, c1, d1, l1⟩ := src_begins I1 hx r
      obtain ⟨o2, B2, b2, c2, d2, l2⟩ := src_begins I1 hy r'
      refine zip_begins2 b1 b2 c1 c2 fun h' hz hTI hTO g1 g2 hsz hk => wpAny_pyIter_zip hz ?_
      have I2 : Inv X pins σ H1 { s1 with heap := h' } := I1.kept (t' := s1.toks) hk
      have nd : [s1.heap.objs.size + 4, s1.heap.objs.size + 2, s1.heap.objs.size + 3, s1.heap.objs.size, s1.heap.objs.size + 1].Nodup := by simp
      refine ⟨s1.heap.objs.size + 4, [s1.heap.objs.size + 4, s1.heap.objs.size + 2, s1.heap.objs.size + 3, s1.heap.objs.size, s1.heap.objs.size + 1], _, _, H1, rfl, I2, turn_z2 nd (fun a e => out5 (l1 a e)) (fun a e => out5 (l2 a e)), ⟨hz, hTI, ⟨_, _, hTO⟩, d1 _ _ g1, d2 _ _ g2⟩, fun c hcm => fresh_fp I1 (le5 hcm), q⟩

/-! ### zip of three -/
def row3 (xs ys zs : List V) (i : Nat) : Option (List V) := match xs[i]?, ys[i]?, zs[i]? with
  | some x, some y, some z => some [x, y, z]
  | _, _, _ => none
theorem row3_of {xs ys zs : List V} {i : Nat} {r : List V} (h : row3 xs ys zs i = some r) : ∃ x y z, xs[i]? = some x ∧ ys[i]? = some y ∧ zs[i]? = some z ∧ r = [x, y, z] := by
  unfold row3 at h
  split at h
  · rename_i x y z h1 h2 h3
    cases h
    exact ⟨x, y, z, h1, h2, h3, rfl⟩
  · cases h
def It3 (K : PySem.W.Frag) (k1 : Kd) (v1 : V) (xs : List V) (k2 : Kd) (v2 : V) (ys : List V) (k3 : Kd) (v3 : V) (zs : List V) : It :=
  ItN (min (min xs.length ys.length) zs.length) (fun H => Src K H k1 v1 xs ∧ Src K H k2 v2 ys ∧ Src K H k3 v3 zs) (row3 xs ys zs)
theorem turn_z3 {P : Program} {w : World} {K : PySem.W.Frag} {elts : List Expr} {kk : Nat} {tpos : Pos} {k1 k2 k3 : Kd} {v1 v2 v3 : V} {xs ys zs : List V} {z TI TO i1 i2 i3 : Addr} (nd : [z, TI, TO, i1, i2, i3].Nodup) (a1 : ∀ a, v1 = .ref a → a ∉ [z, TI, TO, i1, i2, i3])
    (a2 : ∀ a, v2 = .ref a → a ∉ [z, TI, TO, i1, i2, i3]) (a3 : ∀ a, v3 = .ref a → a ∉ [z, TI, TO, i1, i2, i3]) :
    Turn P w K (.Tuple elts kk tpos) (It3 K k1 v1 xs k2 v2 ys k3 v3 zs) [z, TI, TO, i1, i2, i3] z (fun i h => IsZip h z TI TO .none ∧ IsTupOf3 h TI (.ref i1) (.ref i2) (.ref i3) ∧ (∃ x y u, IsTupOf3 h TO x y u) ∧ StI h k1 v1 i1 i ∧ StI h k2 v2 i2 i ∧ StI h k3 v3 i3 i) := by
  refine turn_N (by simp) (fun i h st c hc => ?_) (fun i h h' st k => ?_) (fun A i s Q E st q => wpAny_pyIter_zip st.1 q) (fun X hP hw hK hc i pins s σ H I hG st => ?_)
  · obtain ⟨hz, hTI, ⟨x, y, u, hTO⟩, s1, s2, s3⟩ := st
    have e' : c = z ∨ c = TI ∨ c = TO ∨ c = i1 ∨ c = i2 ∨ c = i3 := by simpa using hc
    rcases e' with q | q | q | q | q | q
    · rw [q]; exact ⟨_, hz, fun v q => nomatch q⟩
    · rw [q]; exact ⟨_, hTI, fun v q => nomatch q⟩
    · rw [q]; exact ⟨_, hTO, fun v q => nomatch q⟩
    · rw [q]; exact s1.obj
    · rw [q]; exact s2.obj
    · rw [q]; exact s3.obj
  · obtain ⟨hz, hTI, ⟨x, y, u, hTO⟩, s1, s2, s3⟩ := st
    exact ⟨k z (by simp) _ hz, k TI (by simp) _ hTI, ⟨x, y, u, k TO (by simp) _ hTO⟩, s1.keep fun o q => k i1 (by simp) o q, s2.keep fun o q => k i2 (by simp) o q, s3.keep fun o q => k i3 (by simp) o q⟩
  · subst hP hw hK
    obtain ⟨hz, hTI, ⟨x, y, u, hTO⟩, s1, s2, s3⟩ := st
    simp only [List.nodup_cons, List.mem_cons, List.not_mem_nil, or_false, not_or, not_false_eq_true, List.nodup_nil, and_true] at nd
    simp only [List.mem_cons, List.not_mem_nil, or_false, not_or] at a1 a2 a3
    obtain ⟨⟨n1, n2, n3, n4, n5⟩, ⟨n6, n7, n8, n9⟩, ⟨n10, n11, n12⟩, ⟨n13, n14⟩, n15⟩ := nd
    obtain ⟨f1, P1, S1, D1, t1, m1, g1, p1, q1⟩ := src_draws I hc hG.1 s1 (fun a e => (a1 a e).2.2.2.1)
    obtain ⟨f2, P2, S2, D2, t2, m2, g2, p2, q2⟩ := src_draws I hc hG.2.1 s2 (fun a e => (a2 a e).2.2.2.2.1)
    obtain ⟨f3, P3, S3, D3, t3, m3, g3, p3, q3⟩ := src_draws I hc hG.2.2 s3 (fun a e => (a3 a e).2.2.2.2.2)
    have out : ∀ (j b : Addr) (f : List Addr) (v : V), (∀ b ∈ f, b = j ∨ v = .ref b) → (∀ a, v = .ref a → ¬ a = z ∧ ¬ a = TI ∧ ¬ a = TO ∧ ¬ a = i1 ∧ ¬ a = i2 ∧ ¬ a = i3) → b ≠ j → (b = z ∨ b = TO ∨ b = i1 ∨ b = i2 ∨ b = i3) → b ∉ f := fun j b f v g a ne hb hm => by
      rcases g b hm with e | e
      · exact ne e
      · obtain ⟨e1, e2, e3, e4, e5, e6⟩ := a b e
        rcases hb with h | h | h | h | h
        · exact e1 h
        · exact e3 h
        · exact e4 h
        · exact e5 h
        · exact e6 h
    have S : ZipSep3 z TI TO i1 i2 i3 f1 f2 f3 := ⟨Ne.symm n1, Ne.symm n2, n6, n7, m1, out i1 z f1 v1 g1 a1 n3 (by simp), out i1 TO f1 v1 g1 a1 n10 (by simp), n8, m2, out i2 z f2 v2 g2 a2 n4 (by simp), out i2 TO f2 v2 g2 a2 n11 (by simp), n9, m3, out i3 z f3 v3 g3 a3 n5 (by simp), out i3 TO f3 v3 g3 a3 n12 (by simp),
      out i2 i1 f2 v2 g2 a2 n13 (by simp), out i3 i1 f3 v3 g3 a3 n14 (by simp), out i1 i2 f1 v1 g1 a1 (Ne.symm n13) (by simp), out i3 i2 f3 v3 g3 a3 n15 (by simp), out i1 i3 f1 v1 g1 a1 (Ne.symm n14) (by simp), out i2 i3 f2 v2 g2 a2 (Ne.symm n15) (by simp)⟩
    refine ⟨_, _, _, _, _, WalksT.zipD3 S D1 D2 D3, ⟨hz, hTI, ⟨x, y, u, hTO⟩, t1, t2, t3⟩, fun b hb => ?_, fun j h st => ⟨st.1, st.2.1, st.2.2.1, q1 _ _ st.2.2.2.1, q2 _ _ st.2.2.2.2.1, q3 _ _ st.2.2.2.2.2⟩, ?_⟩
    · simp only [List.mem_cons, List.not_mem_nil, or_false] at hb ⊢
      rcases hb with e | e | e | e | e
      · exact .inl e
      · exact .inr (.inr (.inl e))
      · exact .inr (.inr (.inr (.inl e)))
      · exact .inr (.inr (.inr (.inr (.inl e))))
      · exact .inr (.inr (.inr (.inr (.inr e))))
    · rintro j vals ⟨u1, u2, u3, h1, h2, h3, rfl⟩
      obtain ⟨y1, e1, r1⟩ := p1 j u1 h1
      obtain ⟨y2, e2, r2⟩ := p2 j u2 h2
      obtain ⟨y3, e3, r3⟩ := p3 j u3 h3
      exact ⟨[y1, y2, y3], by unfold row3; rw [e1, e2, e3], .cons r1 (.cons r2 (.cons r3 .nil)), by show 3 ≤ 2 ^ 24; decide⟩
def iZ3 (K : PySem.W.Frag) (ta : TA) : TI := fun σ H R => ta σ H fun vs H1 => ∃ (v1 v2 v3 : V) (k1 k2 k3 : Kd) (xs ys zs : List V), vs = [v1, v2, v3] ∧ Src K H1 k1 v1 xs ∧ Src K H1 k2 v2 ys ∧ Src K H1 k3 v3 zs ∧ R (It3 K k1 v1 xs k2 v2 ys k3 v3 zs) H1
theorem pi_z3 {X : Cx} {e e2 e3 : Expr} {ta : TA} {p pos tpos : Pos} {elts : List Expr} {kk : Nat} (hg : Gl X "zip") (hm : X.mg "zip" = none) (ha : PA X [e, e2, e3] ta)
    (hs : starEach [e, e2, e3] X.env = (false, eval e X.env) :: starEach [e2, e3] X.env := by rfl) (hpl : (backTo pos (starEach [e2, e3] X.env)).any (·.1) = false := by rfl) :
    PI X (.Tuple elts kk tpos) (.Call (.Name "zip" p) [e, e2, e3] [] pos) (iZ3 X.K ta) := by
  refine ⟨fun pins s σ H R I h => ?_⟩
  refine Call_ (ld_blt I hg hm PyProof.Rows.boot_zip (PyProof.Rows.callWith_type1 (thn (ha.run pos pins s σ H _ I h) fun us s1 ⟨vs, H1, I1, r1, q1⟩ => ?_) hs hpl))
  obtain ⟨v1, v2, v3, k1, k2, k3, xs, ys, zs, ex, hx, hy, hz0, q⟩ := q1
  subst ex
  cases r1 with
  | cons r rr =>
    cases rr with
    | cons r' rr =>
      cases rr with
      | cons r'' rr =>
        cases rr
        obtain ⟨o1, B1, b1, c1, d1, l1⟩ := src_begins I1 hx r
        obtain ⟨o2, B2, b2, c2, d2, l2⟩ := src_begins I1 hy r'
        obtain ⟨o3, B3, b3, c3, d3, l3⟩ := src_begins I1 hz0 r''
        refine zip_begins3 b1 b2 b3 c1 c2 c3 fun h' hz hTI hTO g1 g2 g3 hsz hk => wpAny_pyIter_zip hz ?_
        have I2 : Inv X pins σ H1 { s1 with heap := h' } := I1.kept (t' := s1.toks) hk
        have nd : [s1.heap.objs.size + 5, s1.heap.objs.size + 3, s1.heap.objs.size + 4, s1.heap.objs.size, s1.heap.objs.size + 1, s1.heap.objs.size + 2].Nodup := by simp
        refine ⟨s1.heap.objs.size + 5, [s1.heap.objs.size + 5, s1.heap.objs.size + 3, s1.heap.objs.size + 4, s1.heap.objs.size, s1.heap.objs.size + 1, s1.heap.objs.size + 2], _, _, H1, rfl, I2, turn_z3 nd (fun a e => out6 (l1 a e)) (fun a e => out6 (l2 a e)) (fun a e => out6 (l3 a e)),
          ⟨hz, hTI, ⟨_, _, _, hTO⟩, d1 _ _ g1, d2 _ _ g2, d3 _ _ g3⟩, fun c hcm => fresh_fp I1 (le6 hcm), q⟩

/-! ### enumerate -/
def rowE (xs : List V) (i : Nat) : Option (List V) := xs[i]?.map fun x => [V.int (i : Nat), x]
theorem rowE_of {xs : List V} {i : Nat} {r : List V} (h : rowE xs i = some r) : ∃ x, xs[i]? = some x ∧ r = [V.int (i : Nat), x] := by
  unfold rowE at h
  cases e : xs[i]? with
  | none => rw [e] at h; cases h
  | some x => rw [e] at h; cases h; exact ⟨x, rfl, rfl⟩
def ItE (K : PySem.W.Frag) (k1 : Kd) (v1 : V) (xs : List V) : It := ItN xs.length (fun H => Src K H k1 v1 xs) (rowE xs)
theorem turn_e {P : Program} {w : World} {K : PySem.W.Frag} {elts : List Expr} {kk : Nat} {tpos : Pos} {k1 : Kd} {v1 : V} {xs : List V} {e it : Addr} (nd : e ≠ it) (a1 : ∀ a, v1 = .ref a → a ∉ [e, it]) :
    Turn P w K (.Tuple elts kk tpos) (ItE K k1 v1 xs) [e, it] e (fun i h => (∃ old, IsEnum h e it (0 + ((i : Nat) : Int)) old) ∧ StI h k1 v1 it i) := by
  refine turn_N (by simp) (fun i h st c hc => ?_) (fun i h h' st k => ?_) (fun A i s Q E st q => let ⟨⟨_, he⟩, _⟩ := st; wpAny_pyIter_enum he q) (fun X hP hw hK hc i pins s σ H I hG st => ?_)
  · obtain ⟨⟨old, he⟩, s1⟩ := st
    have e' : c = e ∨ c = it := by simpa using hc
    rcases e' with q | q
    · rw [q]; exact ⟨_, he, fun v q => nomatch q⟩
    · rw [q]; exact s1.obj
  · obtain ⟨⟨old, he⟩, s1⟩ := st
    exact ⟨⟨old, k e (by simp) _ he⟩, s1.keep fun o q => k it (by simp) o q⟩
  · subst hP hw hK
    obtain ⟨⟨old, he⟩, s1⟩ := st
    simp only [List.mem_cons, List.not_mem_nil, or_false, not_or] at a1
    obtain ⟨f1, P1, S1, D1, t1, m1, g1, p1, q1⟩ := src_draws I hc hG s1 (fun a e => (a1 a e).2)
    have hef : e ∉ f1 := fun hm => by
      rcases g1 e hm with z | z
      · exact nd z
      · exact (a1 _ z).1 rfl
    refine ⟨_, _, _, _, _, WalksT.enumFrom 0 D1 e nd hef m1, ⟨⟨old, he⟩, t1⟩, fun b hb => hb, fun j h st => ⟨st.1, q1 _ _ st.2⟩, ?_⟩
    rintro j vals ⟨t, u1, h1, rfl⟩
    obtain ⟨y1, e1, r1⟩ := p1 j u1 h1
    refine ⟨[.int (j : Nat), y1], by unfold rowE; rw [e1]; rfl, .cons ⟨t, ?_⟩ (.cons r1 .nil), by show 2 ≤ 2 ^ 24; decide⟩
    show Value.int (0 + (j : Int)) t = Value.int (j : Int) t
    rw [Int.zero_add]
set_option maxHeartbeats 4000000 in
theorem meets_enumerate_newB1 {v : Value} {o : Obj} {H : Heap → Prop} (B : Begins v o H) :
    Meets (Builtin.«enumerate.__new__» ⟨[.type "enumerate", v], []⟩) (fun _ R s => H s.heap ∧
      R (.ok (.ret (.ref (s.heap.push o).objs.size))) { s with heap := (s.heap.push o).push { cls := .type "enumerate", data := .fields #[.none, .bool false, .ref s.heap.objs.size, rawInt 0, .none, .none] } }) :=
  .of_wp fun prog w A R s h => by
    obtain ⟨hp, g, d, tk, os⟩ := s; obtain ⟨h1, h⟩ := h
    have hsub := sub_enumerate
    have q1 : ∀ {A' : Around} {E : Value → Shared → Prop} {Q : Value → Shared → Prop}, Q (.ref hp.objs.size) ⟨hp.push o, g, d, tk, os⟩ → wpAny (model prog w) A' (pyIter v) Q E ⟨hp, g, d, tk, os⟩ :=
      fun q => B.iter prog w _ _ ⟨hp, g, d, tk, os⟩ _ h1 q
    wp_walk using q1
    refine wpAny_stack_any fun st => wpAny_pure ?_
    split
    · rename_i c _ _ _ _ _
      cases (c == Value.type "enumerate")
      · wp_walk using q1
        exact ⟨_, rfl, h⟩
      · wp_walk using q1
        exact ⟨_, rfl, h⟩
    · wp_walk using q1
      exact ⟨_, rfl, h⟩
theorem enum_begins1 {prog : Program} {w : World} {A : Around} {E : Value → Shared → Prop} {s : Shared} {v : Value} {o : Obj} {H : Heap → Prop} {Q : Value → Shared → Prop} (B : Begins v o H) (h1 : H s.heap)
    (h : ∀ h', IsEnum h' (s.heap.objs.size + 1) s.heap.objs.size 0 .none → h'.get? s.heap.objs.size = some o → h'.objs.size = s.heap.objs.size + 2 →
      (∀ b o, s.heap.get? b = some o → h'.get? b = some o) → Q (.ref (s.heap.objs.size + 1)) { s with heap := h' }) :
    wpAny (model prog w) A (call (.type "enumerate") [v]) Q E s := by
  refine callType_new F.called_enumerate (by decide) (F.typeCall_enumerate_1 _) (F.newCall_enumerate_1 _) (fun obj => F.args_object_init_2 obj _) F.entry_enumerate_new
    (meets_enumerate_newB1 B) ⟨h1, ?_⟩
  have hz : (s.heap.push o).objs.size = s.heap.objs.size + 1 := Heap.size_push ..
  show _ ∧ _
  rw [hz]
  have he : IsEnum ((s.heap.push o).push { cls := .type "enumerate", data := .fields #[.none, .bool false, .ref s.heap.objs.size, rawInt 0, .none, .none] }) (s.heap.objs.size + 1) s.heap.objs.size 0 .none := by
    have := Heap.get?_push_size (s.heap.push o) (o := { cls := .type "enumerate", data := .fields #[.none, .bool false, .ref s.heap.objs.size, rawInt 0, .none, .none] }) rfl
    rw [hz] at this; exact this
  refine ⟨⟨_, he, rfl⟩, h _ he (Heap.get?_push_of_some _ (Heap.get?_push_size _ B.free)) (by rw [Heap.size_push, hz]) fun b o x => Heap.get?_push_of_some _ (Heap.get?_push_of_some _ x)⟩
def iE (K : PySem.W.Frag) (ta : TA) : TI := fun σ H R => ta σ H fun vs H1 => ∃ (v1 : V) (k1 : Kd) (xs : List V), vs = [v1] ∧ Src K H1 k1 v1 xs ∧ R (ItE K k1 v1 xs) H1
theorem pi_e {X : Cx} {e : Expr} {ta : TA} {p pos tpos : Pos} {elts : List Expr} {kk : Nat} (hg : Gl X "enumerate") (hm : X.mg "enumerate" = none) (ha : PA X [e] ta) (hs : starEach [e] X.env = [(false, eval e X.env)] := by rfl) :
    PI X (.Tuple elts kk tpos) (.Call (.Name "enumerate" p) [e] [] pos) (iE X.K ta) := by
  refine ⟨fun pins s σ H R I h => ?_⟩
  refine Call_ (ld_blt I hg hm boot_enumerate (PyProof.Rows.callWith_type1 (thn (ha.run pos pins s σ H _ I h) fun us s1 ⟨vs, H1, I1, r1, q1⟩ => ?_) hs rfl))
  obtain ⟨v1, k1, xs, ex, hx, q⟩ := q1
  subst ex
  cases r1 with
  | cons r rr =>
    cases rr
    obtain ⟨o1, B1, b1, c1, d1, l1⟩ := src_begins I1 hx r
    refine enum_begins1 b1 c1 fun h' he g1 hsz hk => wpAny_pyIter_enum he ?_
    have I2 : Inv X pins σ H1 { s1 with heap := h' } := I1.kept (t' := s1.toks) hk
    refine ⟨s1.heap.objs.size + 1, [s1.heap.objs.size + 1, s1.heap.objs.size], _, _, H1, rfl, I2, turn_e (Nat.succ_ne_self _) (fun a e => out2 (l1 a e)), ⟨⟨.none, by rw [show (0 : Int) + ((0 : Nat) : Int) = 0 from rfl]; exact he⟩, d1 _ _ g1⟩, fun c hcm => fresh_fp I1 (le2 hcm), q⟩
end GZ

/-! Words and signs as texts; a text times a number, a tuple once. No row. -/
namespace KW
open PySem PySem.Spec PyProof.Rows L2 GL KC GZ
def sg (j : Nat) : Str := ⟨#[97 + j]⟩
def wS (w : List Nat) : Str := ⟨(w.map (97 + ·)).toArray⟩
theorem wS_nil : wS [] = ("" : Str) := by decide +kernel
theorem wS_len (w : List Nat) : (wS w).length = w.length := by
  show ((w.map (97 + ·)).toArray).size = _
  simp
theorem wS_size (w : List Nat) : (wS w).cps.size = w.length := wS_len w
theorem wS_list (w : List Nat) : (wS w).cps.toList = w.map (97 + ·) := rfl
theorem wS_at {w : List Nat} {i c : Nat} (h : (wS w).cps[i]? = some c) : ∃ j, w[i]? = some j ∧ c = 97 + j := by
  have h' : (w.map (97 + ·))[i]? = some c := by simpa [wS] using h
  rw [List.getElem?_map] at h'
  cases e : w[i]? with
  | none => rw [e] at h'; cases h'
  | some j => rw [e] at h'; exact ⟨j, rfl, (Option.some.inj h').symm⟩
theorem wS_app (w u : List Nat) : wS w ++ wS u = wS (w ++ u) := by
  have e : ∀ a b : Str, a ++ b = ⟨a.cps ++ b.cps⟩ := fun _ _ => rfl
  rw [e]
  simp [wS]
theorem sg_wS (j : Nat) : sg j = wS [j] := rfl
theorem occ_at : ∀ j, j < 4 → Builtin.Str.occurrences ("abcd" : Str) (sg j) 0 ("abcd" : Str).length 1 = [j] := by
  intro j hj
  rcases j with _ | _ | _ | _ | j
  · decide +kernel
  · decide +kernel
  · decide +kernel
  · decide +kernel
  · omega
theorem cut_abcd : ∀ l : Nat, 1 ≤ l → l ≤ 4 → cutS ("abcd" : Str) none (some (l : Int)) = wS (List.range l) := by
  intro l h1 h4
  rcases l with _ | _ | _ | _ | _ | l
  · omega
  · decide +kernel
  · decide +kernel
  · decide +kernel
  · decide +kernel
  · omega
/-- texts of one sign each, joined -/
theorem join_c : ∀ cs : List Nat, Txt.join ("" : Str) (cs.map fun c => (⟨#[c]⟩ : Str)) = ⟨cs.toArray⟩ := by
  intro w
  rw [TL.join_eq]
  have e0 : ∀ a : Str, a ++ ("" : Str) = a := by
    intro a
    show (⟨a.cps ++ #[]⟩ : Str) = a
    simp
  induction w with
  | nil => rfl
  | cons j w ih =>
    cases w with
    | nil => rfl
    | cons k w =>
      show (⟨#[j]⟩ : Str) ++ ("" : Str) ++ Str.join ("" : Str) ((k :: w).map fun c => (⟨#[c]⟩ : Str)) = _
      rw [ih, e0]
      show (⟨#[j] ++ (k :: w).toArray⟩ : Str) = _
      simp
theorem len_c : ∀ us : List Nat, ((us.map fun c => (⟨#[c]⟩ : Str)).map (·.length)).sum = us.length := by
  intro us
  induction us with
  | nil => rfl
  | cons y ys ih =>
    rw [List.map_cons, List.map_cons, List.sum_cons, ih, List.length_cons]
    show 1 + ys.length = ys.length + 1
    omega
/-- signs: true is minus -/
def sc (b : Bool) : Nat := if b then 45 else 43
def sS (bs : List Bool) : Str := ⟨(bs.map sc).toArray⟩
theorem sS_len (bs : List Bool) : (sS bs).length = bs.length := by
  show ((bs.map sc).toArray).size = _
  simp
theorem sgs_sS (bs : List Bool) : sgs (sS bs) = bs.map fun b => V.str ⟨#[sc b]⟩ := by
  unfold sgs sS
  simp
theorem sgs_abcd : sgs ("abcd" : Str) = [V.str (sg 0), V.str (sg 1), V.str (sg 2), V.str (sg 3)] := by rfl
theorem sgs_abcd_at {i : Nat} {x : V} (h : (sgs ("abcd" : Str))[i]? = some x) : x = .str (sg i) ∧ i < 4 := by
  rw [sgs_abcd] at h
  rcases i with _ | _ | _ | _ | i
  · cases h; exact ⟨rfl, by decide⟩
  · cases h; exact ⟨rfl, by decide⟩
  · cases h; exact ⟨rfl, by decide⟩
  · cases h; exact ⟨rfl, by decide⟩
  · cases h
theorem sc_minus (b : Bool) : decide (V.str ⟨#[sc b]⟩ = V.str ("-" : Str)) = b := by cases b <;> decide +kernel
theorem count_wS (w : List Nat) (j : Nat) : Txt.count (wS w) (sg j) = ((w.count j : Nat) : Int) := by
  unfold sg
  rw [count_cnt, wS_list]
  induction w with
  | nil => rfl
  | cons a w ih =>
    rw [List.map_cons, cnt_cons, ih, List.count_cons]
    by_cases h : a = j
    · subst h
      simp
      omega
    · have h2 : ¬ 97 + a = 97 + j := by omega
      rw [if_neg h2]
      simp [h]
/-! ### one of the signs of a text -/
def spOneT : Sp := fun vs H Q _ => ∃ (d c : Addr) (z : Str) (m : Nat), vs = [.ref d, .str z] ∧ Deck H d c m ∧ m ≤ 1000000000 ∧ 0 < z.length ∧ z.length ≤ 1000 ∧
  ∀ (k : Nat) (G : Hp), k ∈ z.cps.toList → Deck G d c (m + 1) → Same (Hd d c H) (Hd d c G) → Q (.str ⟨#[k]⟩) G
def spWord : Sp := fun vs H Q _ => ∃ (d c : Addr) (l most m : Nat), vs = [.ref d, .int l, .int most] ∧ Deck H d c m ∧ m ≤ 900000000 ∧ 1 ≤ l ∧ l ≤ 4 ∧ most ≤ 1000 ∧
  ∀ (w : List Nat) (G : Hp), (∀ j ∈ w, j < l) → w.length ≤ most → Deck G d c (m + 1002) → Same (Hd d c H) (Hd d c G) → Q (.str (wS w)) G
def spSigns : Sp := fun vs H Q _ => ∃ (d c : Addr) (l m : Nat), vs = [.ref d, .int l] ∧ Deck H d c m ∧ m ≤ 900000000 ∧ l ≤ 4 ∧
  ∀ (bs : List Bool) (G : Hp), bs.length = l → Deck G d c (m + 4) → Same (Hd d c H) (Hd d c G) → Q (.str (sS bs)) G
theorem bs_of : ∀ cs : List Nat, (∀ c ∈ cs, c = 43 ∨ c = 45) → ∃ bs : List Bool, cs = bs.map sc
  | [], _ => ⟨[], rfl⟩
  | c :: cs, h => by
    obtain ⟨bs, e⟩ := bs_of cs fun x hx => h x (List.mem_cons_of_mem _ hx)
    rcases h c List.mem_cons_self with rfl | rfl
    · exact ⟨false :: bs, by rw [e]; rfl⟩
    · exact ⟨true :: bs, by rw [e]; rfl⟩
theorem ws_of : ∀ (l : Nat) (cs : List Nat), (∀ c ∈ cs, c ∈ (wS (List.range l)).cps.toList) → ∃ w : List Nat, cs = w.map (97 + ·) ∧ ∀ j ∈ w, j < l
  | _, [], _ => ⟨[], rfl, fun _ h => nomatch h⟩
  | l, c :: cs, h => by
    obtain ⟨w, e, hw⟩ := ws_of l cs fun x hx => h x (List.mem_cons_of_mem _ hx)
    have hc := h c List.mem_cons_self
    rw [wS_list] at hc
    obtain ⟨j, hj, ej⟩ := List.mem_map.mp hc
    refine ⟨j :: w, by rw [e, ← ej]; rfl, fun k hk => ?_⟩
    rcases List.mem_cons.mp hk with rfl | hk
    · exact List.mem_range.mp hj
    · exact hw k hk
/-! ### the sign and the weight of a word -/
def sgn (bs : List Bool) : List Nat → Int
  | [] => 1
  | j :: w => (if bs.getD j false then -1 else 1) * sgn bs w
theorem sgn_app (bs : List Bool) : ∀ u v : List Nat, sgn bs (u ++ v) = sgn bs u * sgn bs v
  | [], v => by show sgn bs v = 1 * sgn bs v; omega
  | j :: u, v => by
    show _ * sgn bs (u ++ v) = _ * sgn bs u * sgn bs v
    rw [sgn_app bs u v, Int.mul_assoc]
theorem sgn_one (bs : List Bool) (j : Nat) : sgn bs [j] = if bs.getD j false then -1 else 1 := Int.mul_one _
theorem sgn_odd (bs : List Bool) : ∀ w : List Nat, sgn bs w = if (w.countP fun j => bs.getD j false) % 2 = 1 then -1 else 1
  | [] => rfl
  | j :: w => by
    show _ * sgn bs w = _
    rw [sgn_odd bs w, List.countP_cons]
    cases bs.getD j false with
    | false => simp
    | true =>
      simp only [if_true]
      split <;> split <;> omega
theorem sgn_pm (bs : List Bool) (w : List Nat) : sgn bs w = 1 ∨ sgn bs w = -1 := by
  rw [sgn_odd]
  split
  · exact .inr rfl
  · exact .inl rfl
theorem sgn_plus (l : Nat) : ∀ w : List Nat, sgn (List.replicate l false) w = 1
  | [] => rfl
  | j :: w => by
    show _ * sgn _ w = _
    rw [sgn_plus l w]
    have e : (List.replicate l false).getD j false = false := by
      rw [List.getD_eq_getElem?_getD]
      cases h : (List.replicate l false)[j]? with
      | none => rfl
      | some b => exact List.eq_of_mem_replicate (List.mem_of_getElem? h)
    rw [e]
    rfl
theorem sum_counts (w : List Nat) : ∀ L : List Nat, L.Nodup → (L.map fun j => ((w.count j : Nat) : Int)).sum = ((w.countP fun j => decide (j ∈ L) : Nat) : Int)
  | [], _ => by simp
  | a :: L, nd => by
    have nd' := List.nodup_cons.mp nd
    rw [List.map_cons, List.sum_cons, sum_counts w L nd'.2]
    have : ∀ w : List Nat, (w.countP fun j => decide (j ∈ a :: L)) = w.count a + w.countP fun j => decide (j ∈ L) := by
      intro w
      induction w with
      | nil => rfl
      | cons x w ih =>
        rw [List.countP_cons, List.count_cons, List.countP_cons, ih]
        by_cases h : x = a
        · subst h
          simp [nd'.1]
          omega
        · simp [h]
          omega
    rw [this w]
    omega
def minus (bs : List Bool) (l : Nat) : List Nat := (List.range l).filter fun j => bs.getD j false
theorem minus_sum (bs : List Bool) (l : Nat) (w : List Nat) (h : ∀ j ∈ w, j < l) : ((minus bs l).map fun j => ((w.count j : Nat) : Int)).sum = ((w.countP fun j => bs.getD j false : Nat) : Int) := by
  rw [sum_counts w (minus bs l) (List.nodup_range.filter _)]
  congr 1
  apply List.countP_congr
  intro j hj
  simp [minus, h j hj]
def wsum (ws : List Int) (w : List Nat) : Int := ((List.range ws.length).map fun j => ((w.count j : Nat) : Int) * ws.getD j 0).sum
theorem sum_add {α : Type} (f g : α → Int) : ∀ L : List α, (L.map fun j => f j + g j).sum = (L.map f).sum + (L.map g).sum
  | [] => rfl
  | a :: L => by
    rw [List.map_cons, List.sum_cons, sum_add f g L, List.map_cons, List.sum_cons, List.map_cons, List.sum_cons]
    omega
theorem wsum_app (ws : List Int) (u v : List Nat) : wsum ws (u ++ v) = wsum ws u + wsum ws v := by
  unfold wsum
  rw [← sum_add]
  congr 1
  refine List.map_congr_left fun j _ => ?_
  rw [List.count_append, ← Int.add_mul]
  congr 1
theorem sum_bound (f : Nat → Int) (b : Nat) (h : ∀ j, (f j).natAbs ≤ b) : ∀ L : List Nat, ((L.map f).sum).natAbs ≤ L.length * b
  | [] => by simp
  | a :: L => by
    rw [List.map_cons, List.sum_cons, List.length_cons, Nat.add_mul]
    have := sum_bound f b h L
    have := h a
    omega
theorem wsum_le (ws : List Int) (w : List Nat) (hl : ws.length ≤ 4) (hw : w.length ≤ 1000) (h : ∀ x ∈ ws, x.natAbs ≤ 99) : (wsum ws w).natAbs ≤ 400000 := by
  have := sum_bound (fun j => ((w.count j : Nat) : Int) * ws.getD j 0) 99000 (fun j => ?_) (List.range ws.length)
  · rw [List.length_range] at this
    unfold wsum
    omega
  · have c := List.count_le_length (a := j) (l := w)
    have g : (ws.getD j 0).natAbs ≤ 99 := by
      rw [List.getD_eq_getElem?_getD]
      cases e : ws[j]? with
      | none => exact Nat.zero_le _
      | some x => exact h x (List.mem_of_getElem? e)
    show (((w.count j : Nat) : Int) * ws.getD j 0).natAbs ≤ 99000
    rw [Int.natAbs_mul, Int.natAbs_natCast]
    exact Nat.le_trans (Nat.mul_le_mul (Nat.le_trans c hw) g) (by decide)
theorem wsum_nought (l : Nat) (w : List Nat) : wsum (List.replicate l 0) w = 0 := by
  unfold wsum
  have : ∀ L : List Nat, (L.map fun j => ((w.count j : Nat) : Int) * (List.replicate l (0 : Int)).getD j 0).sum = 0 := by
    intro L
    induction L with
    | nil => rfl
    | cons a L ih =>
      rw [List.map_cons, List.sum_cons, ih]
      have e : (List.replicate l (0 : Int)).getD a 0 = 0 := by
        rw [List.getD_eq_getElem?_getD]
        cases h : (List.replicate l (0 : Int))[a]? with
        | none => rfl
        | some b => exact List.eq_of_mem_replicate (List.mem_of_getElem? h)
      rw [e, Int.mul_zero]
      rfl
  exact this _
/-! ### a text times a number, a tuple once -/
def rMulS : R2 := fun x y H Q => ∃ (c : Nat) (n : Nat), x = .str ⟨#[c]⟩ ∧ y = .int (n : Int) ∧ 1 ≤ n ∧ n ≤ 100000 ∧ Q (.str ⟨(List.replicate n c).toArray⟩) H
theorem rep_c (c : Nat) : ∀ (n : Nat) (acc : List Nat), (List.replicate n #[c]).foldl (· ++ ·) acc.toArray = (acc ++ List.replicate n c).toArray
  | 0, acc => by simp
  | n + 1, acc => by
    rw [List.replicate_succ, List.foldl_cons]
    have e : acc.toArray ++ #[c] = (acc ++ [c]).toArray := by simp
    rw [e, rep_c c n]
    rw [List.replicate_succ, List.append_assoc]
    rfl
theorem op_mulS {X : Cx} : OpR X (binaryOp .Mult) rMulS := by
  intro pins s σ H x y v u Q I rx ry h
  obtain ⟨c, n, rfl, rfl, h1, h2, q⟩ := h
  obtain ⟨t, rfl⟩ := rx
  obtain ⟨t', rfl⟩ := ry
  have e1 : ¬ ((n : Int) < 1) := by omega
  have l1 : (⟨#[c]⟩ : Str).length = 1 := rfl
  refine P.mul_str (x := ⟨#[c]⟩) (n := (n : Int)) (t := t) (u := t') ?_ (fun _ _ => ?_) (fun _ _ => ?_) ?_
  · rw [decide_eq_false (by omega), decide_eq_false (by omega)]; rfl
  · rw [l1]
    have : (1 : Int) ≤ (2 ^ 63 - 1) / (n : Int) := by
      rw [Int.le_ediv_iff_mul_le (by omega)]
      omega
    show ¬ (((1 : Nat) : Int) > _)
    omega
  · show decide _ = false
    rw [l1, Int.toNat_natCast, sizeLine_eq]
    exact decide_eq_false (by omega)
  · rw [if_neg e1]
    by_cases e2 : n = 1
    · subst e2
      rw [if_pos (by rfl)]
      exact ⟨.str ⟨#[c]⟩, H, I, ⟨_, rfl⟩, q⟩
    · have e3 : (((n : Int) == 1) || ((⟨#[c]⟩ : Str).length == 0)) = false := by
        rw [l1]
        have : ((n : Int) == 1) = false := beq_eq_false_iff_ne.mpr (by omega)
        rw [this]
        rfl
      rw [e3, if_neg Bool.false_ne_true, Int.toNat_natCast]
      have e4 := rep_c c n []
      rw [List.nil_append] at e4
      rw [e4]
      refine ⟨?_, .str ⟨(List.replicate n c).toArray⟩, H, I.tok _, ⟨_, rfl⟩, q⟩
      show ((List.replicate n c).toArray).size ≤ sizeLine
      rw [List.size_toArray, List.length_replicate, sizeLine_eq]
      omega
theorem tuple_mul1 (l : Addr) (items : Array Value) (n : Nat) (dd : Option Addr) (sl : Array (Option Value)) (u : Tok) :
    Meets (Builtin.«tuple.__mul__» ⟨[.ref l, .int 1 u], []⟩) (fun _ R s => s.heap.get? l = some { cls := .type "tuple", dict := dd, data := .seq items n, slots := sl } ∧ R (.ok (.ret (Value.ref l))) s) :=
  .of_wp fun prog w A R s h => by
    obtain ⟨hp, g, d, tk, os⟩ := s
    obtain ⟨hl, h⟩ := h
    have f1 := AutoSeq1.idx_int
    have c1 : (items.isEmpty || (1 : Int) == 1) = true := by rw [Bool.or_eq_true]; exact .inr rfl
    wp_walk using AutoSeq1.wpAny_loadPart' hl
    repeat (first
      | (refine wpAny_ite_false (decide_eq_false (by decide)) ?_; wp_walk using AutoSeq1.wpAny_loadPart' hl)
      | (refine wpAny_ite_true (decide_eq_true c1) ?_; wp_walk using AutoSeq1.wpAny_loadPart' hl))
    exact ⟨_, rfl, h⟩
def rRepT1 (K : PySem.W.Frag) : R2 := fun x y H Q => ∃ (l : Addr) (k : Nat) (xs : List V), x = .ref l ∧ y = .int (k : Int) ∧ SqT K H l xs ∧ xs ≠ [] ∧ 1 ≤ k ∧ k ≤ 1000 ∧ xs.length ≤ 1000 ∧ (k = 1 → Q (.ref l) H) ∧ ∀ p, H p = none → Q (.ref p) (upd H p (.tup (List.replicate k xs).flatten))
theorem op_repT1 {X : Cx} : OpR X (binaryOp .Mult) (rRepT1 X.K) := by
  intro pins s σ H x y v u Q I rx ry h
  obtain ⟨l, k, xs, rfl, rfl, hT, hne, h1, h2, hz, q1, q⟩ := h
  by_cases e : k = 1
  · subst e
    cases rx
    obtain ⟨t, rfl⟩ := ry
    obtain ⟨its, r, ⟨⟨cls, dd, data, sl⟩, ho, hc, n, hd⟩, hs⟩ := I.tuple hT
    simp only at hc hd
    subst hc hd
    exact wpAny_binaryOp_repeat_ref (T := "tuple") (U := "int") (by decide) ⟨_, ho, rfl⟩ (fun s' => typeIs_int s' ((1 : Nat) : Int) t) noFill_tuple_mul F.fills_int_mul F.slot_int_rmul repeat_tuple F.slot_int_index.lookup
      (call_meets F.slot_int_rmul (typeIs_int s ((1 : Nat) : Int) t) F.entry_int_rmul (F.args_int_rmul_2 _ _) (int_rmul_tuple ((1 : Nat) : Int) t l its.toArray n dd sl)
        ⟨ho, rfl, ⟨_, ho, rfl⟩, call_meets F.slot_tuple_mul ⟨_, ho, rfl⟩ F.entry_tuple_mul (F.args_tuple_mul_2 _ _) (tuple_mul1 l its.toArray n dd sl t) ⟨ho, .ref l, H, I, rfl, q1 rfl⟩⟩)
  · exact op_repT pins s σ H _ _ v u Q I rx ry ⟨l, k, xs, rfl, rfl, hT, hne, by omega, by omega, hz, fun p np => by rw [Int.toNat_natCast]; exact q p np⟩
end KW

namespace K24
open PySem L2 GL KC
def top (i : Nat) : Stmt := PySem.Challenge.pw_pairedaway_k24_signs_and_weights.main.body.getD i (.Pass ⟨0, 0, 0, 0⟩)
abbrev sDeck : Stmt := top 5
abbrev sDraw : Stmt := top 6
abbrev sOne : Stmt := top 7
section
variable {P : Program} {w : World} {K : PySem.W.Frag} {mg : Str → Option Value} {base : Heap}
theorem scDeck : FnScope ["_law_script", "_law_cell"] ["_law_script"] (defScope sDeck) := ⟨rfl, rfl, rfl, by decide +kernel, rfl, by decide +kernel, by decide +kernel⟩
theorem ok_deck {f : Addr} {fd : FuncData} (F : Fun K "_law_deck" "_law_deck" sDeck f fd) (T : TxC mg) : FnOk P w K mg base CX0 1 f fd ["_law_script"] (spDeck K) := by
  refine F.ok scDeck (fun vs H Q E h => ?_) (fun cdv A outer s H vs Q E hr h => ?_)
  · obtain ⟨a, ns, rfl, _⟩ := h
    rfl
  obtain ⟨a, ns, rfl, hS, hl, q⟩ := h
  refine ⟨_, pss_one (ps_ret (pe_lst (pa_cons (pe_lc (own := [("_law_cell", 1)]) (g := gName 1) (tt := tYes) rfl scDeck.nd (pi_list (pe_slice sl_list (pv 0) po_none (po_some pe_int)))
      (blkOk_by (own := [("_law_cell", 1)]) (N := ["_law_script", "_law_cell"]) (sc := defScope sDeck) (by decide +kernel)) (fun _ _ _ _ _ => pg_name (i := 1) scDeck.nd rfl (Or.inl rfl)) (fun _ _ _ _ _ => pts_nil)
      (fun _ _ _ _ _ => pe_callB call_absS (by rfl) T.abs (by decide +kernel) (pa_cons (pv 1) pa_nil))) (pa_cons pe_int pa_nil)))), ?_⟩
  refine ⟨_, rfl, _, rfl, a, _, rfl, hS, fun p np => ?_⟩
  have isI : ∀ x ∈ cutV (ns.map V.int) none (some 63), ∃ i : Int, x = .int i := fun x hx => by
    obtain ⟨i, _, e⟩ := List.mem_map.mp (cut_mem hx)
    exact ⟨i, e.symm⟩
  have ll : (cutV (ns.map V.int) none (some 63)).length ≤ 63 := by
    have := cutV_length (ns.map V.int) none (some 63)
    rw [List.length_map] at this
    omega
  generalize cutV (ns.map V.int) none (some 63) = xs at isI ll
  have sp : Same H (upd H p (.lst xs)) := same_new np _
  refine ⟨p, rfl, ⟨_, .inl (.inl upd_same)⟩, fun L nL => lc_list (K := K) (a := p) (xs := xs) (fun i G => Same (upd H p (.lst xs)) G ∧ ∃ ys : List Int, G L = some (.lst (ys.map V.int)) ∧ ys.length = i ∧ ∀ y ∈ ys, 0 ≤ y)
    ⟨same_new nL _, [], upd_same, rfl, fun y z => nomatch z⟩ (fun i G _ h => .inl (.inl (h.1 _ _ upd_same))) (fun i x G hx h => ?_) fun G h => ?_⟩
  · obtain ⟨s1, ys, y1, y2, y3⟩ := h
    obtain ⟨z, rfl⟩ := isI x (List.mem_of_getElem? hx)
    have il : i < xs.length := (List.getElem?_eq_some_iff.mp hx).1
    refine ⟨rfl, _, rfl, z, rfl, _, y1, by rw [List.length_map, y2]; show i < 2 ^ 24; omega, same_grow nL s1 _, ys ++ [if z < 0 then -z else z], by rw [upd_same, List.map_append]; rfl, by rw [List.length_append, y2]; rfl, ?_⟩
    intro y hy
    rcases List.mem_append.mp hy with hy | hy
    · exact y3 y hy
    · rw [List.mem_singleton.mp hy]
      split <;> omega
  · obtain ⟨s1, ys, y1, y2, y3⟩ := h
    refine ⟨by show 2 ≤ 2 ^ 24; decide, fun d nd => ?_⟩
    have sG : Same H G := sp.trans s1
    have ndL : d ≠ L := fun e => by rw [e, y1] at nd; cases nd
    have nHL : H L = none := sp.free nL
    refine q d L _ (sG.trans (same_new nd _)) (sG.free nd) nHL ⟨ndL, ys, 0, upd_same, by rw [upd_ne ndL.symm]; exact y1, by omega, y3, Nat.le_refl _⟩
theorem scDraw : FnScope ["_law_deck_here", "_law_many", "_law_cell", "_law_at", "_law_mixed"] ["_law_deck_here", "_law_many"] (defScope sDraw) := ⟨rfl, rfl, rfl, by decide +kernel, rfl, by decide +kernel, by decide +kernel⟩
theorem ok_draw {f : Addr} {fd : FuncData} (F : Fun K "_law_draw" "_law_draw" sDraw f fd) (T : TxC mg) : FnOk P w K mg base CX0 1 f fd ["_law_deck_here", "_law_many"] spDraw := by
  refine F.ok scDraw (fun vs H Q E h => ?_) (fun cdv A outer s H vs Q E hr h => ?_)
  · obtain ⟨d, c, many, m, rfl, _⟩ := h
    rfl
  obtain ⟨d, c, many, m, rfl, D, hm, p1, p2, q⟩ := h
  refine ⟨_, pss_cons (ps_asg (pe_op op_add (pe_ix ix_list (pv 0) pe_int (fun _ _ => rfl)) pe_int) (pg_sub (pv 0) pe_int set_list))
    (pss_cons (ps_asg (pe_tup (pa_cons pe_int (pa_cons (pe_un un_neg pe_int) pa_nil))) (pg_tup (by rfl) (pgs_cons (pg_name (i := 2) scDraw.nd rfl (Or.inl rfl)) (pgs_cons (pg_name (i := 3) scDraw.nd rfl (Or.inl rfl)) pgs_nil))))
    (pss_cons (ps_if (pt_cmpR op_gt (pe_callB call_len_seq (by rfl) T.len PySem.boot_len (pa_cons (pe_ix ix_list (pv 0) pe_int (fun _ _ => rfl)) pa_nil)) pe_int (nomark _))
      (pss_cons (ps_set (i := 3) scDraw.nd rfl (Or.inl rfl) (pe_op op_mod (pe_callTy call_int1 (by rfl) T.int (by decide +kernel) (pa_cons (pe_ix ix_list (pv 0) pe_int (fun _ _ => rfl)) pa_nil)) (pe_callB call_len_seq (by rfl) T.len PySem.boot_len (pa_cons (pe_ix ix_list (pv 0) pe_int (fun _ _ => rfl)) pa_nil))))
      (pss_one (ps_set (i := 2) scDraw.nd rfl (Or.inl rfl) (pe_ix ix_list (pe_ix ix_list (pv 0) pe_int (fun _ _ => rfl)) (pv 3) (fun _ _ => rfl))))) pss_nil)
    (pss_cons (ps_if (pt_cmpR op_ge (pv 2) (pe_op op_pow pe_int pe_int) (nomark _))
      (pss_cons (ps_asg (pe_op op_fdiv (pe_callTy call_int1 (by rfl) T.int (by decide +kernel) (pa_cons (pv 2) pa_nil)) (pv 1)) (pg_sub (pe_ix ix_list (pv 0) pe_int (fun _ _ => rfl)) (pv 3) set_list))
      (pss_one (ps_ret (pe_op op_mod (pe_callTy call_int1 (by rfl) T.int (by decide +kernel) (pa_cons (pv 2) pa_nil)) (pv 1))))) pss_nil)
    (pss_cons (ps_set (i := 4) scDraw.nd rfl (Or.inl rfl) (pe_op op_add (pe_op op_add (pe_op op_mod (pe_callTy call_int1 (by rfl) T.int (by decide +kernel) (pa_cons (pv 2) pa_nil)) pe_int) (pe_op op_mul pe_int (pe_ix ix_list (pv 0) pe_int (fun _ _ => rfl)))) pe_int))
    (pss_one (ps_ret (pe_op op_mod (pe_callTy call_int1 (by rfl) T.int (by decide +kernel) (pa_cons (pe_op op_mod (pe_callTy call_int1 (by rfl) T.int (by decide +kernel) (pa_cons (pe_op op_pow (pv 4) pe_int) pa_nil)) pe_int) pa_nil)) (pv 1)))))))), ?_⟩
  obtain ⟨ne, L, n, h1, h2, h3, h4, h5⟩ := D
  -- the count goes up
  refine ⟨_, rfl, d, _, 1, .int n, rfl, rfl, .inl (.inl h1), rfl, _, _, rfl, rfl, _, rfl, d, _, 1, 1, rfl, rfl, h1, rfl, ?_⟩
  have e1 : (List.set [V.ref c, V.int n] 1 (V.int ((n : Int) + 1))) = [.ref c, .int ((n + 1 : Nat) : Int)] := rfl
  rw [e1]
  have g1 : upd H d (.lst [.ref c, .int ((n + 1 : Nat) : Int)]) d = some (.lst [.ref c, .int ((n + 1 : Nat) : Int)]) := upd_same
  have g2 : upd H d (.lst [.ref c, .int ((n + 1 : Nat) : Int)]) c = some (.lst (L.map V.int)) := by rw [upd_ne ne.symm]; exact h2
  have sH : Same (Hd d c H) (Hd d c (upd H d (.lst [.ref c, .int ((n + 1 : Nat) : Int)]))) := hd_put (.inl rfl) _
  generalize upd H d (.lst [.ref c, .int ((n + 1 : Nat) : Int)]) = H1 at g1 g2 sH
  have D1 : Deck H1 d c (m + 1) := ⟨ne, L, n + 1, g1, g2, h3, h4, Nat.succ_le_succ h5⟩
  -- the cell and its place
  refine ⟨_, rfl, by show 2 ≤ 2 ^ 24; decide, fun p np => ?_⟩
  replace sH := sH.trans (hd_new np (.tup [V.int 0, V.int (-1)]))
  have gt : upd H1 p (.tup [V.int 0, V.int (-1)]) p = some (.tup [V.int 0, V.int (-1)]) := upd_same
  replace g1 := same_new np (.tup [V.int 0, V.int (-1)]) _ _ g1
  replace g2 := same_new np (.tup [V.int 0, V.int (-1)]) _ _ g2
  replace D1 := D1.new np (.tup [V.int 0, V.int (-1)])
  generalize upd H1 p (.tup [V.int 0, V.int (-1)]) = H2 at sH gt g1 g2 D1
  refine ⟨p, _, rfl, .inl (.inl gt), rfl, _, _, rfl, _, _, rfl, rfl, ?_⟩
  refine ⟨_, rfl, d, _, 0, _, rfl, rfl, .inl (.inl g1), rfl, c, _, rfl, .inl (.inl (.inl g2)), _, _, rfl, rfl, _, rfl, ?_⟩
  have hL : ((L.map V.int).length : Int) = (L.length : Int) := by rw [List.length_map]
  refine ite2 (fun c0 => ?_) (fun c0 => ?_)
  · have lp : 0 < L.length := by have := of_decide_eq_true c0; rw [hL] at this; omega
    have k0 : 0 ≤ ((n + 1 : Nat) : Int) % ((L.map V.int).length : Int) := Int.emod_nonneg _ (by rw [hL]; omega)
    have k1 : ((n + 1 : Nat) : Int) % ((L.map V.int).length : Int) < (L.length : Int) := by
      have := Int.emod_lt_of_pos ((n + 1 : Nat) : Int) (b := ((L.map V.int).length : Int)) (by rw [hL]; omega)
      rw [hL] at this ⊢
      exact this
    have hk : ∀ z : Int, (10 : Int) ^ (18 : Int).toNat ≤ z → ∃ j, ixN (L.map V.int).length (((n + 1 : Nat) : Int) % ((L.map V.int).length : Int)) = some j ∧ j < L.length := fun _ _ => ⟨_, by unfold ixN; rw [if_pos k0, if_pos (by omega)], by omega⟩
    obtain ⟨j0, ej⟩ : ∃ j : Nat, ((n + 1 : Nat) : Int) % ((L.map V.int).length : Int) = (j : Int) := ⟨_, (Int.toNat_of_nonneg k0).symm⟩
    have jl : j0 < L.length := by rw [ej] at k1; omega
    obtain ⟨z, hz0⟩ : ∃ z, L[j0]? = some z := ⟨_, List.getElem?_eq_getElem jl⟩
    have hz : 0 ≤ z := h4 _ (List.mem_of_getElem? hz0)
    replace hk := hk z
    refine ⟨_, rfl, d, _, 1, _, rfl, rfl, .inl (.inl g1), rfl, .inl ⟨_, rfl, ?_⟩⟩
    refine ⟨_, rfl, d, _, 0, _, rfl, rfl, .inl (.inl g1), rfl, c, _, rfl, .inl (.inl (.inl g2)), _, _, rfl, rfl, (by rw [hL]; show (0 : Int) < L.length; omega), ?_⟩
    refine ⟨_, rfl, d, _, 0, _, rfl, rfl, .inl (.inl g1), rfl, _, rfl, c, _, _, _, rfl, rfl, .inl (.inl g2), at_of ej (by rw [List.getElem?_map, hz0]; rfl), ?_⟩
    refine ⟨_, rfl, _, _, rfl, rfl, ⟨by decide, by decide, by decide⟩, _, _, rfl, rfl, _, rfl, ite2 (fun c1 => ?_) (fun c1 => ?_)⟩
    · obtain ⟨j, hj, hj2⟩ := hk (of_decide_eq_true c1)
      refine ⟨_, rfl, .inl ⟨_, rfl, _, rfl, _, _, rfl, rfl, ⟨p1, p2⟩, _, rfl, d, _, 0, _, rfl, rfl, .inl (.inl g1), rfl, _, rfl, c, _, _, j, rfl, rfl, g2, hj, ?_⟩⟩
      refine ⟨_, rfl, .inl ⟨_, rfl, _, rfl, _, _, rfl, rfl, p1, ?_⟩⟩
      refine q _ _ (Int.emod_nonneg _ (by omega)) (Int.emod_lt_of_pos _ p1) ⟨ne, L.set j (z / many), n + 1, ?_, ?_, ?_, ?_, Nat.succ_le_succ h5⟩ (sH.trans (hd_put (.inr rfl) _))
      · rw [upd_ne ne]; exact g1
      · rw [upd_same, List.map_set]
      · rw [List.length_set]; exact h3
      · intro x hx
        rcases List.mem_or_eq_of_mem_set hx with hx | hx
        · exact h4 x hx
        · rw [hx]; exact Int.ediv_nonneg hz (by omega)
    · have b1 : 0 ≤ z % 2147483563 := Int.emod_nonneg _ (by decide)
      have b2 : z % 2147483563 < 2147483563 := Int.emod_lt_of_pos _ (by decide)
      refine ⟨_, rfl, .inl ⟨_, rfl, _, _, rfl, rfl, by show (0 : Int) < 2147483563; decide, _, rfl, d, _, 1, _, rfl, rfl, .inl (.inl g1), rfl, _, _, rfl, rfl, .inl ⟨by decide, by decide⟩, _, _, rfl, rfl, _, _, rfl, rfl, ?_⟩⟩
      refine ⟨_, rfl, _, _, rfl, rfl, ⟨by decide, by decide, ?_⟩, .inl ⟨_, rfl, _, _, rfl, rfl, by show (0 : Int) < 2147483629; decide, .inl ⟨_, rfl, _, rfl, _, _, rfl, rfl, p1, ?_⟩⟩⟩
      · show (z % 2147483563 + 8117 * ((n + 1 : Nat) : Int) + 3).natAbs < 2 ^ 64
        omega
      · exact q _ _ (Int.emod_nonneg _ (by omega)) (Int.emod_lt_of_pos _ p1) D1 sH
  · have hz : (0 : Int) ≤ 0 := Int.le_refl 0
    have hk : (10 : Int) ^ (18 : Int).toNat ≤ 0 → ∃ j, ixN (L.map V.int).length (-1) = some j ∧ j < L.length := fun h => absurd h (by decide)
    refine ⟨_, rfl, _, _, rfl, rfl, ⟨by decide, by decide, by decide⟩, _, _, rfl, rfl, _, rfl, ite2 (fun c1 => ?_) (fun c1 => ?_)⟩
    · obtain ⟨j, hj, hj2⟩ := hk (of_decide_eq_true c1)
      refine ⟨_, rfl, .inl ⟨_, rfl, _, rfl, _, _, rfl, rfl, ⟨p1, p2⟩, _, rfl, d, _, 0, _, rfl, rfl, .inl (.inl g1), rfl, _, rfl, c, _, _, j, rfl, rfl, g2, hj, ?_⟩⟩
      refine ⟨_, rfl, .inl ⟨_, rfl, _, rfl, _, _, rfl, rfl, p1, ?_⟩⟩
      refine q _ _ (Int.emod_nonneg _ (by omega)) (Int.emod_lt_of_pos _ p1) ⟨ne, L.set j ((0 : Int) / many), n + 1, ?_, ?_, ?_, ?_, Nat.succ_le_succ h5⟩ (sH.trans (hd_put (.inr rfl) _))
      · rw [upd_ne ne]; exact g1
      · rw [upd_same, List.map_set]
      · rw [List.length_set]; exact h3
      · intro x hx
        rcases List.mem_or_eq_of_mem_set hx with hx | hx
        · exact h4 x hx
        · rw [hx]; exact Int.ediv_nonneg hz (by omega)
    · have b1 : 0 ≤ (0 : Int) % 2147483563 := Int.emod_nonneg _ (by decide)
      have b2 : (0 : Int) % 2147483563 < 2147483563 := Int.emod_lt_of_pos _ (by decide)
      refine ⟨_, rfl, .inl ⟨_, rfl, _, _, rfl, rfl, by show (0 : Int) < 2147483563; decide, _, rfl, d, _, 1, _, rfl, rfl, .inl (.inl g1), rfl, _, _, rfl, rfl, .inl ⟨by decide, by decide⟩, _, _, rfl, rfl, _, _, rfl, rfl, ?_⟩⟩
      refine ⟨_, rfl, _, _, rfl, rfl, ⟨by decide, by decide, ?_⟩, .inl ⟨_, rfl, _, _, rfl, rfl, by show (0 : Int) < 2147483629; decide, .inl ⟨_, rfl, _, rfl, _, _, rfl, rfl, p1, ?_⟩⟩⟩
      · show ((0 : Int) % 2147483563 + 8117 * ((n + 1 : Nat) : Int) + 3).natAbs < 2 ^ 64
        omega
      · exact q _ _ (Int.emod_nonneg _ (by omega)) (Int.emod_lt_of_pos _ p1) D1 sH
end
section
variable {P : Program} {w : World} {K : PySem.W.Frag} {mg : Str → Option Value} {base : Heap}
theorem scOne : FnScope ["_law_deck_here", "_law_items"] ["_law_deck_here", "_law_items"] (defScope sOne) := ⟨rfl, rfl, rfl, by decide +kernel, rfl, by decide +kernel, by decide +kernel⟩
theorem ok_one {f fD : Addr} {fd fdD : FuncData} (F : Fun K "_law_one" "_law_one" sOne f fd) (T : TxC mg) (W : Dfn P w K mg base "_law_draw" 1 fD fdD ["_law_deck_here", "_law_many"] spDraw) :
    FnOk P w K mg base CX0 2 f fd ["_law_deck_here", "_law_items"] spOne := by
  refine F.ok scOne (fun vs H Q E h => ?_) (fun cdv A outer s H vs Q E hr h => ?_)
  · obtain ⟨d, c, a, xs, m, rfl, _⟩ := h
    rfl
  obtain ⟨d, c, a, xs, m, rfl, D, hm, ha, x0, x1, q⟩ := h
  refine ⟨_, pss_one (ps_ret (pe_ix ix_list (pv 1) (pe_call W.ok hr rfl W.m W.kp W.b .nil pass0 (pa_cons (pv 0) (pa_cons (pe_callB call_len_seq (by rfl) T.len PySem.boot_len (pa_cons (pv 1) pa_nil)) pa_nil))) (fun _ _ => rfl))), ?_⟩
  refine ⟨_, rfl, _, rfl, _, rfl, a, xs, rfl, .inl (.inl (.inl (hd_sub _ _ ha))), d, c, xs.length, m, rfl, D, hm, by omega, by omega, fun r G r0 r1 D2 s2 => ?_⟩
  obtain ⟨j, rfl⟩ : ∃ j : Nat, r = (j : Int) := ⟨r.toNat, by omega⟩
  have jl : j < xs.length := by omega
  obtain ⟨v, hv⟩ : ∃ v, xs[j]? = some v := ⟨_, List.getElem?_eq_getElem jl⟩
  exact ⟨a, xs, _, v, rfl, rfl, .inl (.inl (hd_sub _ _ (s2 _ _ ha))), atI_nat hv, q v G (List.mem_of_getElem? hv) D2 s2⟩
end
end K24

namespace K24
open PySem L2 GL KC GZ KW
abbrev sSignOf : Stmt := top 2
abbrev sWeightOf : Stmt := top 3
abbrev sWord : Stmt := top 8
abbrev sSign : Stmt := top 9
abbrev sSigns : Stmt := top 10
abbrev sWeight : Stmt := top 11
abbrev sLaw : Stmt := top 12
structure Txt (mg : Str → Option Value) : Prop where
  c : TxC mg
  repr : mg "repr" = none
  sum : mg "sum" = none
  zip : mg "zip" = none
  let' : ∃ t, mg "LETTERS" = some (.str "abcd" t)
def spSgn : Sp := fun vs H Q _ => ∃ (bs : List Bool) (w : List Nat), vs = [.str (sS bs), .str (wS w)] ∧ bs.length ≤ 4 ∧ (∀ j ∈ w, j < bs.length) ∧ w.length ≤ 100000 ∧ ∀ G, Same H G → Q (.int (sgn bs w)) G
def spWgt : Sp := fun vs H Q _ => ∃ (p : Addr) (ws : List Int) (w : List Nat), vs = [.ref p, .str (wS w)] ∧ H p = some (.tup (ws.map V.int)) ∧ ws.length ≤ 4 ∧ (∀ x ∈ ws, x.natAbs ≤ 99) ∧ (∀ j ∈ w, j < ws.length) ∧ w.length ≤ 1000 ∧ ∀ G, Same H G → Q (.int (wsum ws w)) G
theorem walk2 {K : PySem.W.Frag} {k1 k2 : Kd} {v1 v2 : V} {xs ys : List V} : Walk (It2 K k1 v1 xs k2 v2 ys) (min xs.length ys.length) (fun H => Src K H k1 v1 xs ∧ Src K H k2 v2 ys) (fun i H v H' => ∃ T r, v = .ref T ∧ H T = none ∧ H' = upd H T (.tup r) ∧ row2 xs ys i = some r) := walk_N
section
variable {P : Program} {w : World} {K : PySem.W.Frag} {mg : Str → Option Value} {base : Heap}
theorem ok_oneT {f fD : Addr} {fd fdD : FuncData} (F : Fun K "_law_one" "_law_one" sOne f fd) (T : Txt mg) (W : Dfn P w K mg base "_law_draw" 1 fD fdD ["_law_deck_here", "_law_many"] spDraw) :
    FnOk P w K mg base CX0 2 f fd ["_law_deck_here", "_law_items"] spOneT := by
  refine F.ok scOne (fun vs H Q E h => ?_) (fun cdv A outer s H vs Q E hr h => ?_)
  · obtain ⟨d, c, z, m, rfl, _⟩ := h
    rfl
  obtain ⟨d, c, z, m, rfl, D, hm, x0, x1, q⟩ := h
  have zl : z.length ≤ 2 ^ 24 := by omega
  refine ⟨_, pss_one (ps_ret (pe_ix ix_str (pv 1) (pe_call W.ok hr rfl W.m W.kp W.b .nil pass0 (pa_cons (pv 0) (pa_cons (pe_callB call_len_str (by rfl) T.c.len PySem.boot_len (pa_cons (pv 1) pa_nil)) pa_nil))) (fun _ _ => rfl))), ?_⟩
  refine ⟨_, rfl, _, rfl, _, rfl, _, rfl, zl, d, c, (z.length : Int), m, rfl, D, hm, by omega, by omega, fun r G r0 r1 D2 s2 => ?_⟩
  obtain ⟨j, rfl⟩ : ∃ j : Nat, r = (j : Int) := ⟨r.toNat, by omega⟩
  have jl : j < z.cps.toList.length := by
    rw [Array.length_toList]
    show j < z.length
    omega
  obtain ⟨k, hk⟩ : ∃ k, z.cps.toList[j]? = some k := ⟨_, List.getElem?_eq_getElem jl⟩
  exact ⟨_, _, k, rfl, rfl, zl, atI_nat hk, q k G (List.mem_of_getElem? hk) D2 s2⟩
theorem scWd : FnScope ["_law_deck_here", "_law_letters", "_law_most", "_law_k"] ["_law_deck_here", "_law_letters", "_law_most"] (defScope sWord) := ⟨rfl, rfl, rfl, by decide +kernel, rfl, by decide +kernel, by decide +kernel⟩
theorem ok_word {f fD fO : Addr} {fd fdD fdO : FuncData} (F : Fun K "_law_word" "_law_word" sWord f fd) (T : Txt mg) (W : Dfn P w K mg base "_law_draw" 1 fD fdD ["_law_deck_here", "_law_many"] spDraw)
    (O : Dfn P w K mg base "_law_one" 2 fO fdO ["_law_deck_here", "_law_items"] spOneT) : FnOk P w K mg base CX0 3 f fd ["_law_deck_here", "_law_letters", "_law_most"] spWord := by
  refine F.ok scWd (fun vs H Q E h => ?_) (fun cdv A outer s H vs Q E hr h => ?_)
  · obtain ⟨d, c, l, most, m, rfl, _⟩ := h
    rfl
  obtain ⟨d, c, l, most, m, rfl, D, hm, l1, l4, hmo, q⟩ := h
  have hr1 : Room 1 _ := hr.mono (by decide)
  refine ⟨_, pss_one (ps_ret (pe_join pe_str (pe_lc (own := [("_law_k", 3)]) (g := gName 3) (tt := tYes) rfl scWd.nd (pi_range1 rfl T.c.range (pa_cons (pe_call W.ok hr1 rfl W.m W.kp W.b .nil pass0 (pa_cons (pv 0) (pa_cons (pe_op op_add (pv 2) pe_int) pa_nil))) pa_nil))
      (blkOk_by (own := [("_law_k", 3)]) (N := ["_law_deck_here", "_law_letters", "_law_most", "_law_k"]) (sc := defScope sWord) (by decide +kernel)) (fun _ _ _ _ _ => pg_name (i := 3) scWd.nd rfl (Or.inl rfl)) (fun _ _ _ _ _ => pts_nil)
      (fun _ _ _ _ _ => pe_call O.ok hr rfl O.m O.kp O.b .nil pass0 (pa_cons (pv 0) (pa_cons (pe_slice sl_str pe_str po_none (po_some (pv 1))) pa_nil)))))), ?_⟩
  refine ⟨⟨_, rfl⟩, _, rfl, _, rfl, _, _, rfl, rfl, d, c, (most : Int) + 1, m, rfl, D, by omega, by omega, by omega, fun r G r0 r1 D1 s1 => ?_⟩
  obtain ⟨n, rfl⟩ : ∃ n : Nat, r = (n : Int) := ⟨r.toNat, by omega⟩
  refine ⟨n, rfl, by omega, by omega, fun L nL => lc_range (lo := 0) (n := n) (fun i G' => Deck G' d c (m + 1 + i) ∧ Same (Hd d c G) (Hd d c G') ∧ ∃ u : List Nat, G' L = some (.lst ((u.map fun k => (⟨#[k]⟩ : Str)).map V.str)) ∧ u.length = i ∧ ∀ k ∈ u, k ∈ (wS (List.range l)).cps.toList)
    ⟨D1.new nL _, hd_new nL _, [], upd_same, rfl, fun j h => nomatch h⟩ ?_ ?_⟩
  · rintro i G' hi ⟨D2, s2, u, u1, u2, u3⟩
    have fL := D1.free nL
    refine ⟨rfl, _, rfl, _, rfl, l, rfl, _, rfl, by decide, d, c, wS (List.range l), m + 1 + i, ?_, D2, by omega, by rw [wS_len, List.length_range]; omega, by rw [wS_len, List.length_range]; omega, fun j G2 hj D3 s3 => ?_⟩
    · show [V.ref d, V.str (cutS ("abcd" : Str) none (some (l : Int)))] = _
      rw [cut_abcd l l1 l4]
    · refine ⟨_, hd_sub _ _ (s3 _ _ (hd_of u1 fL.1 fL.2)), ?_, D3.put fL.1 fL.2 _, hd_grow (hd_none nL) (s2.trans s3) _, u ++ [j], ?_, by rw [List.length_append, u2]; rfl, ?_⟩
      · rw [List.length_map, List.length_map, u2]
        show i < 2 ^ 24
        omega
      · rw [upd_same, List.map_append, List.map_append]; rfl
      · intro k hk
        rcases List.mem_append.mp hk with hk | hk
        · exact u3 k hk
        · rw [List.mem_singleton.mp hk]; exact hj
  · rintro G' ⟨D2, s2, u, u1, u2, u3⟩
    obtain ⟨w', rfl, hw⟩ := ws_of l u u3
    refine ⟨_, L, _, rfl, rfl, .inl (.inl (.inl u1)), ?_, ?_⟩
    · rw [len_c]
      simp only [List.length_map] at u2 ⊢
      show w'.length + w'.length * 0 ≤ 16777216
      omega
    · rw [join_c]
      exact q w' G' hw (by rw [List.length_map] at u2; omega) (D2.mono (by omega)) (s1.trans s2)
theorem scSg : FnScope ["_law_deck_here", "_law_letters", "_law_k"] ["_law_deck_here", "_law_letters"] (defScope sSigns) := ⟨rfl, rfl, rfl, by decide +kernel, rfl, by decide +kernel, by decide +kernel⟩
theorem ok_signs {f fO : Addr} {fd fdO : FuncData} (F : Fun K "_law_signs" "_law_signs" sSigns f fd) (T : Txt mg)
    (O : Dfn P w K mg base "_law_one" 2 fO fdO ["_law_deck_here", "_law_items"] spOneT) : FnOk P w K mg base CX0 3 f fd ["_law_deck_here", "_law_letters"] spSigns := by
  refine F.ok scSg (fun vs H Q E h => ?_) (fun cdv A outer s H vs Q E hr h => ?_)
  · obtain ⟨d, c, l, m, rfl, _⟩ := h
    rfl
  obtain ⟨d, c, l, m, rfl, D, hm, l4, q⟩ := h
  refine ⟨_, pss_one (ps_ret (pe_join pe_str (pe_lc (own := [("_law_k", 2)]) (g := gName 2) (tt := tYes) rfl scSg.nd (pi_range1 rfl T.c.range (pa_cons (pv 1) pa_nil))
      (blkOk_by (own := [("_law_k", 2)]) (N := ["_law_deck_here", "_law_letters", "_law_k"]) (sc := defScope sSigns) (by decide +kernel)) (fun _ _ _ _ _ => pg_name (i := 2) scSg.nd rfl (Or.inl rfl)) (fun _ _ _ _ _ => pts_nil)
      (fun _ _ _ _ _ => pe_call O.ok hr rfl O.m O.kp O.b .nil pass0 (pa_cons (pv 0) (pa_cons pe_str pa_nil)))))), ?_⟩
  refine ⟨⟨_, rfl⟩, _, rfl, l, rfl, by omega, by omega, fun L nL => lc_range (lo := 0) (n := l) (fun i G' => Deck G' d c (m + i) ∧ Same (Hd d c H) (Hd d c G') ∧ ∃ u : List Nat, G' L = some (.lst ((u.map fun k => (⟨#[k]⟩ : Str)).map V.str)) ∧ u.length = i ∧ ∀ k ∈ u, k = 43 ∨ k = 45)
    ⟨D.new nL _, hd_new nL _, [], upd_same, rfl, fun j h => nomatch h⟩ ?_ ?_⟩
  · rintro i G' hi ⟨D2, s2, u, u1, u2, u3⟩
    have fL := D.free nL
    refine ⟨rfl, _, rfl, d, c, "+-", m + i, rfl, D2, by omega, by decide, by decide, fun j G2 hj D3 s3 => ?_⟩
    refine ⟨_, hd_sub _ _ (s3 _ _ (hd_of u1 fL.1 fL.2)), ?_, D3.put fL.1 fL.2 _, hd_grow (hd_none nL) (s2.trans s3) _, u ++ [j], ?_, by rw [List.length_append, u2]; rfl, ?_⟩
    · rw [List.length_map, List.length_map, u2]
      show i < 2 ^ 24
      omega
    · rw [upd_same, List.map_append, List.map_append]; rfl
    · intro k hk
      rcases List.mem_append.mp hk with hk | hk
      · exact u3 k hk
      · rw [List.mem_singleton.mp hk]
        have hj' : j ∈ [43, 45] := hj
        simpa using hj'
  · rintro G' ⟨D2, s2, u, u1, u2, u3⟩
    obtain ⟨bs, rfl⟩ := bs_of u u3
    refine ⟨_, L, _, rfl, rfl, .inl (.inl (.inl u1)), ?_, ?_⟩
    · rw [len_c]
      simp only [List.length_map] at u2 ⊢
      show bs.length + bs.length * 0 ≤ 16777216
      omega
    · rw [join_c]
      exact q bs G' (by rw [List.length_map] at u2; exact u2) (D2.mono (by omega)) s2
/-! ### signs -/
theorem filterN_pos {p : Nat → Bool} {x : Nat} (h : p x = true) : List.filter p [x] = [x] := by simp [h]
theorem filterN_neg {p : Nat → Bool} {x : Nat} (h : ¬ p x = true) : List.filter p [x] = [] := by simp [h]
theorem scLs : FnScope ["_law_signs_here", "_law_word_here", "_law_found", "_law_letter"] ["_law_signs_here", "_law_word_here"] (defScope sSign) := ⟨rfl, rfl, rfl, by decide +kernel, rfl, by decide +kernel, by decide +kernel⟩
theorem sS_at {bs : List Bool} {j : Nat} (h : j < bs.length) : (sS bs).cps.toList[j]? = some (sc (bs.getD j false)) := by
  show (bs.map sc)[j]? = _
  rw [List.getElem?_map, List.getD_eq_getElem?_getD, List.getElem?_eq_getElem h]
  rfl
theorem ok_lsign {f : Addr} {fd : FuncData} (F : Fun K "_law_sign" "_law_sign" sSign f fd) : FnOk P w K mg base CX0 1 f fd ["_law_signs_here", "_law_word_here"] spSgn := by
  refine F.ok scLs (fun vs H Q E h => ?_) (fun cdv A outer s H vs Q E hr h => ?_)
  · obtain ⟨bs, w, rfl, _⟩ := h
    rfl
  obtain ⟨bs, wd, rfl, b4, hw, hl, q⟩ := h
  refine ⟨_, pss_cons (ps_set (i := 2) scLs.nd rfl (Or.inl rfl) pe_int)
    (pss_cons (ps_for PassesOwn.never rfl (pi_str (pv 1)) (pg_name (i := 3) scLs.nd rfl (Or.inl rfl))
      (pss_one (ps_if (pt_cmpR op_eq (pe_ix ix_str (pv 0) (pe_bm PySem.F.plainAttrs_str PySem.F.slot_str_index PySem.F.type_str_index mt_sindex pe_str (pa_cons (pv 3) pa_nil)) (fun _ _ => rfl)) pe_str (nomark _))
        (pss_one (ps_set (i := 2) scLs.nd rfl (Or.inl rfl) (pe_op op_sub pe_int (pv 2)))) pss_nil)))
    (pss_one (ps_ret (pv 2)))), ?_⟩
  refine ⟨_, rfl, _, rfl, for_it (walk_str (z := wS wd)) (fun i σ G' => ∃ (k3 : Option V), σ = [some (.str (sS bs)), some (.str (wS wd)), some (.int (sgn bs (wd.take i))), k3] ∧ Same H G')
    ⟨none, rfl, Same.refl H⟩ (fun _ _ _ _ _ => True.intro) ?_ ?_⟩
  · rintro i x σ G2 H' hi ⟨k3, rfl, s2⟩ ⟨rfl, c, hc, rfl⟩
    obtain ⟨j, j1, rfl⟩ := wS_at hc
    have jl := hw j (List.mem_of_getElem? j1)
    have e1 : sgn bs (wd.take (i + 1)) = sgn bs (wd.take i) * (if bs.getD j false then -1 else 1) := by
      rw [List.take_add_one, j1, sgn_app]
      exact congrArg _ (sgn_one bs j)
    refine ⟨_, rfl, rfl, _, rfl, _, sg j, j, [], rfl, rfl, occ_at j (Nat.lt_of_lt_of_le jl b4), _, _, sc (bs.getD j false), rfl, rfl, by rw [sS_len]; show _ ≤ 2 ^ 24; omega, atI_nat (sS_at jl), rfl, _, rfl, ?_⟩
    rw [sc_minus]
    cases e : bs.getD j false with
    | true =>
      refine iteT ⟨_, rfl, _, _, rfl, rfl, some (.str ⟨#[97 + j]⟩), ?_, s2⟩
      rw [e1, e]
      show _ = [some (V.str (sS bs)), some (V.str (wS wd)), some (V.int (sgn bs (wd.take i) * -1)), _]
      rw [show sgn bs (wd.take i) * -1 = 0 - sgn bs (wd.take i) by omega]
      rfl
    | false =>
      refine iteF ⟨some (.str ⟨#[97 + j]⟩), ?_, s2⟩
      rw [e1, e]
      show _ = [some (V.str (sS bs)), some (V.str (wS wd)), some (V.int (sgn bs (wd.take i) * 1)), _]
      rw [Int.mul_one]
      rfl
  · rintro σ G2 ⟨k3, rfl, s2⟩
    rw [wS_size, List.take_length]
    exact ⟨_, rfl, q G2 s2⟩
theorem scSo : FnScope ["signs", "word", "turns", "letter", "sign"] ["signs", "word"] (defScope sSignOf) := ⟨rfl, rfl, rfl, by decide +kernel, rfl, by decide +kernel, by decide +kernel⟩
theorem ok_sign {f : Addr} {fd : FuncData} (F : Fun K "sign_of" "sign_of" sSignOf f fd) (T : Txt mg) : FnOk P w K mg base CX0 1 f fd ["signs", "word"] spSgn := by
  refine F.ok scSo (fun vs H Q E h => ?_) (fun cdv A outer s H vs Q E hr h => ?_)
  · obtain ⟨bs, w, rfl, _⟩ := h
    rfl
  obtain ⟨bs, wd, rfl, b4, hw, hl, q⟩ := h
  obtain ⟨tk, ml⟩ := T.let'
  refine ⟨_, pss_cons (ps_set (i := 2) scSo.nd rfl (Or.inl rfl) (pe_callB (cr_sum (by rfl)) (by rfl) T.sum (by decide +kernel) (pa_cons (pe_lc (own := [("letter", 3), ("sign", 4)]) (g := gTup K 2 (gCons (gName 3) (gCons (gName 4) gNil))) rfl scSo.nd (pi_z2 rfl T.zip (pa_cons (pe_glob (v := .str "abcd") rfl ml ⟨_, rfl⟩) (pa_cons (pv 0) pa_nil)))
      (blkOk_by (own := [("letter", 3), ("sign", 4)]) (N := ["signs", "word", "turns", "letter", "sign"]) (sc := defScope sSignOf) (by decide +kernel))
      (fun _ _ _ _ _ => show PG _ _ (gTup K 2 _) from pg_tup (by rfl) (pgs_cons (pg_name (i := 3) scSo.nd rfl (Or.inl rfl)) (pgs_cons (pg_name (i := 4) scSo.nd rfl (Or.inl rfl)) pgs_nil)))
      (fun _ _ _ _ _ => pts_one (pt_cmpR op_eq (pv 4) pe_str (nomark _)))
      (fun _ _ _ _ _ => show PE _ _ (tBM K "str" _ _ _) from pe_bm PySem.F.plainAttrs_str PySem.F.slot_str_count PySem.F.type_str_count mt_count (pv 1) (pa_cons (pv 3) pa_nil))) pa_nil)))
    (pss_one (ps_ret (pe_ifExp (pt_truth (pe_op op_and (pv 2) pe_int) (by intro _; rfl)) (pe_un un_neg pe_int) pe_int))), ?_⟩
  have ln : min (sgs ("abcd" : Str)).length (sgs (sS bs)).length = bs.length := by
    rw [sgs_sS, List.length_map, show (sgs ("abcd" : Str)).length = 4 from rfl]
    omega
  refine ⟨_, rfl, .str "abcd", .str (sS bs), .str, .str, sgs "abcd", sgs (sS bs), rfl, ⟨_, rfl, rfl⟩, ⟨_, rfl, rfl⟩, fun L nL => lc_it walk2 (fun i G => Same H G ∧ G L = some (.lst (((minus bs i).map fun j => ((wd.count j : Nat) : Int)).map V.int)))
    ⟨same_new nL _, upd_same⟩ (fun i G _ h => ⟨⟨_, rfl, rfl⟩, ⟨_, rfl, rfl⟩⟩) ?_ ?_⟩
  · rintro i x G G' hi ⟨s1, g1⟩ ⟨Tt, r, rfl, nT, rfl, hr'⟩
    obtain ⟨x, y, h1, h2, rfl⟩ := row2_of hr'
    obtain ⟨rfl, i4⟩ := sgs_abcd_at h1
    rw [ln] at hi
    have hy : y = .str ⟨#[sc (bs.getD i false)]⟩ := by
      rw [sgs_sS, List.getElem?_map, List.getElem?_eq_getElem hi] at h2
      rw [List.getD_eq_getElem?_getD, List.getElem?_eq_getElem hi]
      exact (Option.some.inj h2).symm
    subst hy
    have sT := same_new nT (.tup [V.str (sg i), V.str ⟨#[sc (bs.getD i false)]⟩])
    refine ⟨Tt, _, rfl, .inl (.inl upd_same), rfl, _, _, rfl, _, _, rfl, rfl, rfl, _, rfl, rfl, _, rfl, ?_⟩
    rw [sc_minus]
    generalize upd G Tt (.tup [V.str (sg i), V.str ⟨#[sc (bs.getD i false)]⟩]) = G2 at sT
    have em : minus bs (i + 1) = minus bs i ++ (if bs.getD i false then [i] else []) := by
      unfold minus
      rw [List.range_succ, List.filter_append]
      cases e : bs.getD i false with
      | true => rw [List.filter_cons_of_pos (by exact e)]; rfl
      | false => rw [List.filter_cons_of_neg (by rw [e]; exact Bool.false_ne_true)]; rfl
    have lm : (minus bs i).length ≤ i := by
      have := List.length_filter_le (fun j => bs.getD j false) (List.range i)
      rw [List.length_range] at this
      exact this
    cases e : bs.getD i false with
    | true =>
      refine iteT ⟨_, rfl, rfl, _, rfl, _, _, rfl, rfl, _, sT _ _ g1, ?_, same_grow nL (s1.trans sT) _, ?_⟩
      · rw [List.length_map, List.length_map]
        show _ < 2 ^ 24
        omega
      · rw [upd_same, em, e, List.map_append, List.map_append]
        show some (HO.lst (_ ++ [V.int (Txt.count (wS wd) (sg i))])) = _
        rw [count_wS]
        rfl
    | false =>
      refine iteF ⟨s1.trans sT, ?_⟩
      rw [em, e]
      show G2 L = some (HO.lst ((List.map _ (minus bs i ++ [])).map V.int))
      rw [List.append_nil]
      exact sT _ _ g1
  · rintro G ⟨s1, g1⟩
    rw [ln] at g1
    refine ⟨L, _, rfl, .inl (.inl g1), ?_⟩
    rw [minus_sum bs bs.length wd hw]
    have eq : sgn bs wd = if (((wd.countP fun j => bs.getD j false : Nat) : Int) % 2 != 0) then -1 else 1 := by
      rw [sgn_odd]
      generalize wd.countP (fun j => bs.getD j false) = n
      by_cases e : n % 2 = 1
      · rw [if_pos e, if_pos (by simp; omega)]
      · rw [if_neg e, if_neg (by simp; omega)]
    refine ⟨_, rfl, _, _, rfl, rfl, _, rfl, ?_⟩
    rw [PyProof.Rows.bitAnd_m1]
    cases e : (((wd.countP fun j => bs.getD j false : Nat) : Int) % 2 != 0) with
    | true =>
      refine iteT ⟨_, rfl, ?_⟩
      rw [e] at eq
      have k2 := q G s1
      rw [eq] at k2
      exact k2
    | false =>
      refine iteF ?_
      rw [e] at eq
      have k2 := q G s1
      rw [eq] at k2
      exact k2
/-! ### weights -/
theorem scLw : FnScope ["_law_weights", "_law_word_here", "_law_found", "_law_k", "_law_letter"] ["_law_weights", "_law_word_here"] (defScope sWeight) := ⟨rfl, rfl, rfl, by decide +kernel, rfl, by decide +kernel, by decide +kernel⟩
def wpart (ws : List Int) (w : List Nat) (i : Nat) : Int := ((List.range i).map fun j => ((w.count j : Nat) : Int) * ws.getD j 0).sum
theorem sum_snoc (f : Nat → Int) (i : Nat) : ((List.range (i + 1)).map f).sum = ((List.range i).map f).sum + f i := by
  rw [List.range_succ, List.map_append, List.sum_append]
  simp
theorem abcd_at : ∀ k, k < 4 → ("abcd" : Str).cps.toList[k]? = some (97 + k) := by
  intro k hk
  rcases k with _ | _ | _ | _ | k
  · decide +kernel
  · decide +kernel
  · decide +kernel
  · decide +kernel
  · omega
theorem ok_lweight {f : Addr} {fd : FuncData} (F : Fun K "_law_weight" "_law_weight" sWeight f fd) (T : Txt mg) : FnOk P w K mg base CX0 1 f fd ["_law_weights", "_law_word_here"] spWgt := by
  refine F.ok scLw (fun vs H Q E h => ?_) (fun cdv A outer s H vs Q E hr h => ?_)
  · obtain ⟨p, ws, w, rfl, _⟩ := h
    rfl
  obtain ⟨p, ws, wd, rfl, hp, l4, h99, hw, hl, q⟩ := h
  refine ⟨_, pss_cons (ps_set (i := 2) scLw.nd rfl (Or.inl rfl) pe_int)
    (pss_cons (ps_for PassesOwn.never rfl (pi_range1 rfl T.c.range (pa_cons (pe_callB call_len_seq (by rfl) T.c.len PySem.boot_len (pa_cons (pv 0) pa_nil)) pa_nil)) (pg_name (i := 3) scLw.nd rfl (Or.inr rfl))
      (pss_one (ps_set (i := 2) scLw.nd rfl (Or.inl rfl) (pe_op op_add (pv 2) (pe_op op_mul (pe_ix ix_tup (pv 0) (pv 3) (fun _ _ => rfl)) (pe_callB call_len_seq (by rfl) T.c.len PySem.boot_len (pa_cons
        (pe_lc (own := [("_law_letter", 4)]) (g := gName 4) rfl scLw.nd (pi_str (pv 1)) (blkOk_by (own := [("_law_letter", 4)]) (N := ["_law_weights", "_law_word_here", "_law_found", "_law_k", "_law_letter"]) (sc := defScope sWeight) (by decide +kernel))
          (fun _ _ _ _ _ => pg_name (i := 4) scLw.nd rfl (Or.inl rfl)) (fun _ _ _ _ _ => pts_one (pt_cmpR op_eq (pv 4) (pe_ix ix_str pe_str (pv 3) (fun _ _ => rfl)) (nomark _))) (fun _ _ _ _ _ => pv 4)) pa_nil)))))))
    (pss_one (ps_ret (pv 2)))), ?_⟩
  have ll : (ws.map V.int).length = ws.length := List.length_map _
  refine ⟨_, rfl, p, _, rfl, .inr (.inl (.inl hp)), ws.length, by rw [ll], by omega, by omega, for_range (lo := 0) (n := ws.length) (fun i σ G => ∃ (k3 : Option V), σ = [some (.ref p), some (.str (wS wd)), some (.int (wpart ws wd i)), k3, none] ∧ Same H G)
    ⟨none, rfl, Same.refl H⟩ ?_ ?_⟩
  · rintro i σ G hi ⟨k3, rfl, s1⟩
    have ek : (0 : Int) + (i : Int) = ((i : Nat) : Int) := Int.zero_add _
    have hx : (ws.map V.int)[i]? = some (.int (ws.getD i 0)) := by rw [List.getElem?_map, List.getD_eq_getElem?_getD, List.getElem?_eq_getElem hi]; rfl
    have b : (ws.getD i 0).natAbs ≤ 99 := by
      rw [List.getD_eq_getElem?_getD, List.getElem?_eq_getElem hi]
      exact h99 _ (List.getElem_mem hi)
    refine ⟨_, rfl, _, rfl, _, rfl, p, _, _, _, rfl, rfl, .inl (.inl (s1 _ _ hp)), at_of ek hx, _, rfl, _, rfl, fun L nL => lc_it (walk_str (z := wS wd)) (fun k G' => Same G G' ∧ G' L = some (.lst (((wd.take k).filter fun j => decide (j = i)).map fun j => V.str (sg j))))
      ⟨same_new nL _, upd_same⟩ (fun _ _ _ _ => True.intro) ?_ ?_⟩
    · rintro k x G1 G2 hk ⟨s2, g2⟩ ⟨rfl, c, hc, rfl⟩
      obtain ⟨j, j1, rfl⟩ := wS_at hc
      have i4 : i < 4 := by omega
      refine ⟨rfl, _, rfl, _, rfl, _, _, 97 + i, rfl, rfl, by decide, by rw [ek]; exact atI_nat (abcd_at i i4), rfl, _, rfl, ?_⟩
      have e1 : decide (V.str (⟨#[97 + j]⟩ : Str) = V.str ⟨#[97 + i]⟩) = decide (j = i) := by
        by_cases e : j = i
        · subst e; simp
        · have : ¬ V.str (⟨#[97 + j]⟩ : Str) = V.str ⟨#[97 + i]⟩ := fun z => by
            injection z with z
            injection z with z
            have := congrArg Array.toList z
            simp at this
            exact e this
          rw [decide_eq_false this, decide_eq_false e]
      rw [e1, List.take_add_one, j1]
      have fl := List.length_filter_le (fun j => decide (j = i)) (wd.take k)
      rw [List.length_take] at fl
      refine ite2 (fun c1 => ?_) (fun c1 => ?_)
      · refine ⟨_, rfl, _, g2, by rw [List.length_map]; show _ < 2 ^ 24; omega, same_grow nL s2 _, ?_⟩
        rw [upd_same, List.filter_append]
        show _ = some (HO.lst (List.map _ (_ ++ List.filter _ [j])))
        rw [filterN_pos (p := fun j => decide (j = i)) c1, List.map_append]
        rfl
      · refine ⟨s2, ?_⟩
        rw [g2, List.filter_append]
        show _ = some (HO.lst (List.map _ (_ ++ List.filter _ [j])))
        rw [filterN_neg (p := fun j => decide (j = i)) c1, List.append_nil]
    · rintro G1 ⟨s2, g2⟩
      rw [wS_size, List.take_length] at g2
      have ec : (wd.filter fun j => decide (j = i)).length = wd.count i := by
        rw [← List.countP_eq_length_filter]
        unfold List.count
        exact List.countP_congr fun j _ => by simp
      refine ⟨L, _, rfl, .inl (.inl (.inl g2)), _, _, rfl, rfl, .inl ⟨by omega, by omega⟩, _, _, rfl, rfl, some (V.int (0 + (i : Int))), ?_, s1.trans s2⟩
      rw [List.length_map, ec]
      show _ = [_, _, some (V.int (wpart ws wd (i + 1))), _, _]
      unfold wpart
      rw [sum_snoc, Int.mul_comm (ws.getD i 0)]
      rfl
  · rintro σ G ⟨k3, rfl, s1⟩
    exact ⟨_, rfl, q G s1⟩
theorem scWo : FnScope ["weights", "word", "letter", "weight"] ["weights", "word"] (defScope sWeightOf) := ⟨rfl, rfl, rfl, by decide +kernel, rfl, by decide +kernel, by decide +kernel⟩
theorem ok_weight {f : Addr} {fd : FuncData} (F : Fun K "weight_of" "weight_of" sWeightOf f fd) (T : Txt mg) : FnOk P w K mg base CX0 1 f fd ["weights", "word"] spWgt := by
  refine F.ok scWo (fun vs H Q E h => ?_) (fun cdv A outer s H vs Q E hr h => ?_)
  · obtain ⟨p, ws, w, rfl, _⟩ := h
    rfl
  obtain ⟨p, ws, wd, rfl, hp, l4, h99, hw, hl, q⟩ := h
  obtain ⟨tk, ml⟩ := T.let'
  refine ⟨_, pss_one (ps_ret (pe_callB (cr_sum (by rfl)) (by rfl) T.sum (by decide +kernel) (pa_cons (pe_lc (own := [("letter", 2), ("weight", 3)]) (g := gTup K 2 (gCons (gName 2) (gCons (gName 3) gNil))) (tt := tYes) rfl scWo.nd (pi_z2 rfl T.zip (pa_cons (pe_glob (v := .str "abcd") rfl ml ⟨_, rfl⟩) (pa_cons (pv 0) pa_nil)))
      (blkOk_by (own := [("letter", 2), ("weight", 3)]) (N := ["weights", "word", "letter", "weight"]) (sc := defScope sWeightOf) (by decide +kernel))
      (fun _ _ _ _ _ => show PG _ _ (gTup K 2 _) from pg_tup (by rfl) (pgs_cons (pg_name (i := 2) scWo.nd rfl (Or.inl rfl)) (pgs_cons (pg_name (i := 3) scWo.nd rfl (Or.inl rfl)) pgs_nil)))
      (fun _ _ _ _ _ => pts_nil)
      (fun _ _ _ _ _ => show PE _ _ (tOp _ (tBM K "str" _ _ _) _) from pe_op op_mul (pe_bm PySem.F.plainAttrs_str PySem.F.slot_str_count PySem.F.type_str_count mt_count (pv 1) (pa_cons (pv 2) pa_nil)) (pv 3))) pa_nil))), ?_⟩
  have ln : min (sgs ("abcd" : Str)).length (ws.map V.int).length = ws.length := by
    rw [List.length_map, show (sgs ("abcd" : Str)).length = 4 from rfl]
    omega
  refine ⟨_, rfl, .str "abcd", .ref p, .str, .tup, sgs "abcd", ws.map V.int, rfl, ⟨_, rfl, rfl⟩, ⟨_, rfl, .inl (.inl hp)⟩, fun L nL => lc_it walk2 (fun i G => Same H G ∧ G L = some (.lst (((List.range i).map fun j => ((wd.count j : Nat) : Int) * ws.getD j 0).map V.int)))
    ⟨same_new nL _, upd_same⟩ (fun i G _ h => ⟨⟨_, rfl, rfl⟩, ⟨_, rfl, .inl (.inl (h.1 _ _ hp))⟩⟩) ?_ ?_⟩
  · rintro i x G G' hi ⟨s1, g1⟩ ⟨Tt, r, rfl, nT, rfl, hr'⟩
    obtain ⟨x, y, h1, h2, rfl⟩ := row2_of hr'
    obtain ⟨rfl, i4⟩ := sgs_abcd_at h1
    rw [ln] at hi
    have hx : (ws.map V.int)[i]? = some (.int (ws.getD i 0)) := by rw [List.getElem?_map, List.getD_eq_getElem?_getD, List.getElem?_eq_getElem hi]; rfl
    rw [hx] at h2
    cases h2
    have sT := same_new nT (.tup [V.str (sg i), V.int (ws.getD i 0)])
    have cb := List.count_le_length (a := i) (l := wd)
    refine ⟨Tt, _, rfl, .inl (.inl upd_same), rfl, _, _, rfl, _, _, rfl, rfl, rfl, _, rfl, rfl, _, rfl, _, _, rfl, rfl, _, rfl, _, _, rfl, rfl, .inl ⟨?_, ?_⟩, _, sT _ _ g1, ?_, same_grow nL (s1.trans sT) _, ?_⟩
    · rw [count_wS]; omega
    · rw [count_wS]; omega
    · rw [List.length_map, List.length_map, List.length_range]
      show i < 2 ^ 24
      omega
    · rw [upd_same, List.range_succ, List.map_append, List.map_append, count_wS]
      rfl
  · rintro G ⟨s1, g1⟩
    rw [ln] at g1
    exact ⟨L, _, rfl, .inl (.inl g1), q G s1⟩
end
end K24

namespace K24
open PySem L2 GL KC GZ KW
def spLaw (K : PySem.W.Frag) : Sp := fun vs H Q _ => ∃ (a : Addr) (ns : List Int), vs = [.ref a] ∧ SqL K H a (ns.map V.int) ∧ ns.length ≤ 63 ∧ ∀ H', Q (.bl true) H'
abbrev NL : List Str := ["_law_script", "_law_deck_here", "_law_turn", "_law_letters", "_law_signs_here", "_law_weights", "_law_k", "_law_one_here", "_law_other", "_law_due", "_law_word_here"]
/-- 200 or 9 -/
theorem if_200 {b : Bool} {σ : L2.St} {G : Hp} {Q : VK} (q : ∀ n : Nat, n ≤ 200 → Q (.int (n : Int)) G) : if b = true then tC (.int 200) σ G Q else tC (.int 9) σ G Q := by
  cases b with
  | true => exact iteT (q 200 (Nat.le_refl _))
  | false => exact iteF (q 9 (by decide))
theorem fit3 {a b c : Int} (ha : a.natAbs ≤ 400000) (hb : b.natAbs ≤ 400000) (hc : c.natAbs ≤ 400000) : Fit 140 1 (.list [.int a, .int b, .int c]) := by
  have f : ∀ {x : Int}, x.natAbs ≤ 400000 → Fit 42 0 (.int x) := fun {x} h => fit_int (Nat.lt_of_le_of_lt h (by decide +kernel)) (by decide)
  exact (Fit.lst (FitAll.cons (f ha) (FitAll.cons (f hb) (FitAll.cons (f hc) FitAll.nil)))).mono (by decide) (by decide)
theorem shown_le {K : PySem.W.Frag} {H : Hp} {d : PyData} {v : V} {n k : Nat} (h : Dt K H v d) (f : Fit n k d) (hn : n ≤ 1000000) : d.shown.length ≤ sizeLine := by
  have a := shown_wt d v h
  have b := f.w
  show _ ≤ 2 ^ 24
  omega
def rAddS : R2 := fun x y H Q => ∃ i j, x = .str i ∧ y = .str j ∧ i.length + j.length ≤ sizeLine ∧ Q (.str (i ++ j)) H
/-- [f(x, w) for w in [one, other, one + other]] -/
theorem three {K : PySem.W.Frag} {sp : Sp} {ar : Nat} {v0 : V} {s0 s1 s2 s3 s4 s5 s6 s9 s10 : Option V} {H : Hp} {u v : List Nat} {f : List Nat → Int} {Q : VK}
    (har : ∀ x, [s0, s1, s2, s3, s4, s5, s6, some (V.str (wS u)), some (V.str (wS v)), s9, x][ar]? = some (some v0)) (lu : u.length ≤ 1000) (lv : v.length ≤ 1000)
    (hsp : ∀ (z : List Nat) (H' : Hp) (Q' : VK), (z = u ∨ z = v ∨ z = u ++ v) → Same H H' → (∀ G, Same H' G → Q' (.int (f z)) G) → sp [v0, .str (wS z)] H' Q' E0)
    (q : ∀ (L : Addr) (G : Hp), Same H G → G L = some (.lst [.int (f u), .int (f v), .int (f (u ++ v))]) → Q (.ref L) G) :
    tLc (iList K (tLst (tCons (tVar 7) (tCons (tVar 8) (tCons (tOp rAddS (tVar 7) (tVar 8)) tNil))))) (gName 10) tYes (tCall sp [] E0 (tCons (tVar ar) (tCons (tVar 10) tNil))) [10] [s0, s1, s2, s3, s4, s5, s6, some (V.str (wS u)), some (V.str (wS v)), s9, s10] H Q := by
  refine ⟨_, rfl, _, rfl, _, rfl, _, rfl, _, _, rfl, rfl, by rw [wS_len, wS_len]; show _ ≤ 2 ^ 24; omega, by show 3 ≤ 2 ^ 24; decide, fun lw nlw => ?_⟩
  rw [wS_app]
  have e0 : [V.str (wS u), V.str (wS v), V.str (wS (u ++ v))] = [u, v, u ++ v].map fun z => V.str (wS z) := rfl
  rw [e0]
  have s1 := same_new nlw (.lst ([u, v, u ++ v].map fun z => V.str (wS z)))
  have g1 : upd H lw (.lst ([u, v, u ++ v].map fun z => V.str (wS z))) lw = some (.lst ([u, v, u ++ v].map fun z => V.str (wS z))) := upd_same
  generalize upd H lw (.lst ([u, v, u ++ v].map fun z => V.str (wS z))) = H1 at s1 g1
  refine ⟨lw, rfl, ⟨_, .inl (.inl g1)⟩, fun L nL => lc_list (K := K) (a := lw) (xs := [u, v, u ++ v].map fun z => V.str (wS z)) (fun i G => Same H1 G ∧ G L = some (.lst (([u, v, u ++ v].take i).map fun z => V.int (f z)))) ⟨same_new nL _, upd_same⟩
    (fun i G _ h => .inl (.inl (h.1 _ _ g1))) ?_ ?_⟩
  · rintro i x G hx ⟨s2, g2⟩
    rw [List.getElem?_map] at hx
    cases hz : [u, v, u ++ v][i]? with
    | none => rw [hz] at hx; cases hx
    | some z =>
      rw [hz] at hx
      cases hx
      have zm : z = u ∨ z = v ∨ z = u ++ v := by simpa using List.mem_of_getElem? hz
      have il : i < 3 := (List.getElem?_eq_some_iff.mp hz).1
      refine ⟨rfl, v0, har _, _, rfl, hsp z G _ zm (s1.trans s2) fun G2 s3 => ?_⟩
      refine ⟨_, s3 _ _ g2, by rw [List.length_map, List.length_take]; show _ < 2 ^ 24; omega, same_grow nL (s2.trans s3) _, ?_⟩
      rw [upd_same, List.take_add_one, hz, List.map_append]
      rfl
  · rintro G ⟨s2, g2⟩
    exact q L G (s1.trans s2) g2
theorem seq_asg {a : TE} {g : TG} {z : TS} {D : Ends} {σ : L2.St} {H : Hp} (h : a σ H fun v H1 => g v σ H1 (z D)) : tSeq (tAsg a g) z D σ H := h
theorem seq_if {a : TE} {x y z : TS} {D : Ends} {σ : L2.St} {H : Hp} (h : a σ H fun v H1 => ∃ k, v = .bl k ∧ (if k = true then x { D with nx := z D } σ H1 else y { D with nx := z D } σ H1)) : tSeq (tIfS (tTest a) x y) z D σ H := h
theorem op_cb {te tb : TE} {r : R2} {rr : List V → Hp → VK → Prop} {σ : L2.St} {H : Hp} {Q : VK} (h : te σ H fun v H1 => rr [v] H1 fun y H2 => tb σ H2 fun z H3 => r y z H3 Q) : tOp r (tCB rr (tCons te tNil)) tb σ H Q := h
theorem dt3 {K : PySem.W.Frag} {G : Hp} {L : Addr} {a b c : Int} (g : G L = some (.lst [.int a, .int b, .int c])) : Dt K G (.ref L) (.list [.int a, .int b, .int c]) := .lst g (.cons (.int a) (.cons (.int b) (.cons (.int c) .nil)))
theorem one_v {r : Int} (h0 : 0 ≤ r) (h1 : r < 199) {v : V} (h : v ∈ [V.int (-99), V.int 99, V.int 0, V.int 1, V.int (-1), V.int (r - 99)]) : ∃ z : Int, v = .int z ∧ z.natAbs ≤ 99 := by
  simp only [List.mem_cons, List.not_mem_nil, or_false] at h
  rcases h with rfl | rfl | rfl | rfl | rfl | rfl
  · exact ⟨_, rfl, by decide⟩
  · exact ⟨_, rfl, by decide⟩
  · exact ⟨_, rfl, by decide⟩
  · exact ⟨_, rfl, by decide⟩
  · exact ⟨_, rfl, by decide⟩
  · exact ⟨_, rfl, by omega⟩
theorem sgn_le (bs : List Bool) (w : List Nat) : (sgn bs w).natAbs ≤ 400000 := by
  rcases sgn_pm bs w with h | h <;> rw [h] <;> decide
section
variable {P : Program} {w : World} {K : PySem.W.Frag} {mg : Str → Option Value} {base : Heap}
theorem scL : FnScope ["_law_script", "_law_deck_here", "_law_turn", "_law_letters", "_law_signs_here", "_law_weights", "_law_k", "_law_one_here", "_law_other", "_law_due", "_law_word_here"] ["_law_script"] (defScope sLaw) := ⟨rfl, rfl, rfl, by decide +kernel, rfl, by decide +kernel, by decide +kernel⟩
theorem ok_law {f fK fW fO fD fG fS fR fQ fE : Addr} {fd fdK fdW fdO fdD fdG fdS fdR fdQ fdE : FuncData} (F : Fun K "law" "law" sLaw f fd) (T : Txt mg)
    (DK : Dfn P w K mg base "_law_deck" 1 fK fdK ["_law_script"] (spDeck K)) (W : Dfn P w K mg base "_law_draw" 1 fW fdW ["_law_deck_here", "_law_many"] spDraw) (O : Dfn P w K mg base "_law_one" 2 fO fdO ["_law_deck_here", "_law_items"] spOne)
    (WD : Dfn P w K mg base "_law_word" 3 fD fdD ["_law_deck_here", "_law_letters", "_law_most"] spWord) (SG : Dfn P w K mg base "_law_signs" 3 fG fdG ["_law_deck_here", "_law_letters"] spSigns)
    (LS : Dfn P w K mg base "_law_sign" 1 fS fdS ["_law_signs_here", "_law_word_here"] spSgn) (LW : Dfn P w K mg base "_law_weight" 1 fR fdR ["_law_weights", "_law_word_here"] spWgt)
    (QS : Dfn P w K mg base "sign_of" 1 fQ fdQ ["signs", "word"] spSgn) (QW : Dfn P w K mg base "weight_of" 1 fE fdE ["weights", "word"] spWgt) : Fg P w K mg base CX0 4 f fd ["_law_script"] (spLaw K) := by
  refine ok_g F scL (fun vs H Q E h => ?_) (fun cdv A outer s H vs Q E hg hr h => ?_)
  · obtain ⟨a, ns, rfl, _⟩ := h
    rfl
  obtain ⟨a, ns, rfl, hS, hl, q⟩ := h
  have hr1 : Room 1 _ := hr.mono (by decide)
  have hr2 : Room 2 _ := hr.mono (by decide)
  refine ⟨_, pss_cons (ps_set (i := 1) scL.nd rfl (Or.inr rfl) (pe_call DK.ok hr1 rfl DK.m DK.kp DK.b .nil pass0 (pa_cons (pv 0) pa_nil)))
    (pss_cons (ps_for PassesOwn.never rfl (pi_range1 rfl T.c.range (pa_cons pe_int pa_nil)) (pg_name (i := 2) scL.nd rfl (Or.inl rfl))
      (pss_cons (ps_set (i := 3) scL.nd rfl (Or.inl rfl) (pe_op op_add pe_int (pe_call W.ok hr1 rfl W.m W.kp W.b .nil pass0 (pa_cons (pv 1) (pa_cons pe_int pa_nil)))))
      (pss_cons (ps_set (i := 4) scL.nd rfl (Or.inr rfl) (pe_call SG.ok hr rfl SG.m SG.kp SG.b .nil pass0 (pa_cons (pv 1) (pa_cons (pv 3) pa_nil))))
      (pss_cons (ps_set (i := 5) scL.nd rfl (Or.inr rfl) (pe_callTy call_tuple_of (by rfl) T.c.tuple (by decide +kernel) (pa_cons (pe_lc (own := [("_law_k", 6)]) (g := gName 6) (tt := tYes) rfl scL.nd (pi_range1 rfl T.c.range (pa_cons (pv 3) pa_nil))
        (blkOk_by (own := [("_law_k", 6)]) (N := NL) (sc := defScope sLaw) (by decide +kernel)) (fun _ _ _ _ _ => pg_name (i := 6) scL.nd rfl (Or.inl rfl)) (fun _ _ _ _ _ => pts_nil)
        (fun _ _ _ _ _ => pe_call O.ok hr2 rfl O.m O.kp O.b .nil pass0 (pa_cons (pv 1) (pa_cons (pe_lst (pa_cons (pe_un un_neg pe_int) (pa_cons pe_int (pa_cons pe_int (pa_cons pe_int (pa_cons (pe_un un_neg pe_int)
          (pa_cons (pe_op op_sub (pe_call W.ok hr1 rfl W.m W.kp W.b .nil pass0 (pa_cons (pv 1) (pa_cons pe_int pa_nil))) pe_int) pa_nil))))))) pa_nil)))) pa_nil)))
      (pss_one (ps_for PassesOwn.never rfl (pi_range1 rfl T.c.range (pa_cons pe_int pa_nil)) (pg_name (i := 6) scL.nd rfl (Or.inl rfl))
        (pss_cons (ps_par (i := 7) (j := 8) (by rfl) scL.nd rfl rfl (by decide) rfl rfl
            (pa_cons (pe_call WD.ok hr rfl WD.m WD.kp WD.b .nil pass0 (pa_cons (pv 1) (pa_cons (pv 3) (pa_cons (pe_ifExp (pt_cmpR op_eq (pv 6) pe_int (nomark _)) pe_int pe_int) pa_nil))))
            (pa_cons (pe_call WD.ok hr rfl WD.m WD.kp WD.b .nil pass0 (pa_cons (pv 1) (pa_cons (pv 3) (pa_cons (pe_ifExp (pt_cmpR op_eq (pv 6) pe_int (nomark _)) pe_int pe_int) pa_nil)))) pa_nil)) (by rfl))
        (pss_cons (ps_setLc (i := 9) (own := [("_law_word_here", 10)]) (g := gName 10) (tt := tYes) rfl scL.nd rfl rfl (sw_true rfl rfl rfl (by decide +kernel)) (pi_list (pe_lst (pa_cons (pv 7) (pa_cons (pv 8) (pa_cons (pe_op op_add_str (pv 7) (pv 8)) pa_nil)))))
            (blkOk_by (own := [("_law_word_here", 10)]) (N := NL) (sc := defScope sLaw) (by decide +kernel)) (fun _ _ _ _ _ => pg_name (i := 10) scL.nd rfl (Or.inl rfl)) (fun _ _ _ _ _ => pts_nil)
            (fun _ _ _ _ _ => pe_call LS.ok hr1 rfl LS.m LS.kp LS.b .nil pass0 (pa_cons (pv 4) (pa_cons (pv 10) pa_nil))))
        (pss_cons (ps_if (pt_cmpR op_ne (pe_callB (call_reprD hg hr.units) (by rfl) T.repr (by decide +kernel) (pa_cons (pe_lc (own := [("_law_word_here", 10)]) (g := gName 10) (tt := tYes) rfl scL.nd (pi_list (pe_lst (pa_cons (pv 7) (pa_cons (pv 8) (pa_cons (pe_op op_add_str (pv 7) (pv 8)) pa_nil)))))
              (blkOk_by (own := [("_law_word_here", 10)]) (N := NL) (sc := defScope sLaw) (by decide +kernel)) (fun _ _ _ _ _ => pg_name (i := 10) scL.nd rfl (Or.inl rfl)) (fun _ _ _ _ _ => pts_nil)
              (fun _ _ _ _ _ => pe_call QS.ok hr1 rfl QS.m QS.kp QS.b .nil pass0 (pa_cons (pv 4) (pa_cons (pv 10) pa_nil)))) pa_nil)) (pe_callB (call_reprD hg hr.units) (by rfl) T.repr (by decide +kernel) (pa_cons (pv 9) pa_nil)) (nomark _)) (pss_one (ps_ret pe_bl)) pss_nil)
        (pss_cons (ps_if (PW.pt (pw_or (pt_cmpR op_ne (pe_ix ix_list (pv 9) pe_int (fun _ _ => rfl)) (pe_op op_mul (pe_ix ix_list (pv 9) pe_int (fun _ _ => rfl)) (pe_ix ix_list (pv 9) pe_int (fun _ _ => rfl))) (nomark _))
            (pw_or1 (pt_cmpR op_ne (pe_callB (call_reprD hg hr.units) (by rfl) T.repr (by decide +kernel) (pa_cons (pe_call QS.ok hr1 rfl QS.m QS.kp QS.b .nil pass0 (pa_cons (pe_op op_mulS pe_str (pv 3)) (pa_cons (pv 7) pa_nil))) pa_nil)) pe_str (nomark _))))) (pss_one (ps_ret pe_bl)) pss_nil)
        (pss_cons (ps_setLc (i := 9) (own := [("_law_word_here", 10)]) (g := gName 10) (tt := tYes) rfl scL.nd rfl rfl (sw_true rfl rfl rfl (by decide +kernel)) (pi_list (pe_lst (pa_cons (pv 7) (pa_cons (pv 8) (pa_cons (pe_op op_add_str (pv 7) (pv 8)) pa_nil)))))
            (blkOk_by (own := [("_law_word_here", 10)]) (N := NL) (sc := defScope sLaw) (by decide +kernel)) (fun _ _ _ _ _ => pg_name (i := 10) scL.nd rfl (Or.inl rfl)) (fun _ _ _ _ _ => pts_nil)
            (fun _ _ _ _ _ => pe_call LW.ok hr1 rfl LW.m LW.kp LW.b .nil pass0 (pa_cons (pv 5) (pa_cons (pv 10) pa_nil))))
        (pss_cons (ps_if (pt_cmpR op_ne (pe_callB (call_reprD hg hr.units) (by rfl) T.repr (by decide +kernel) (pa_cons (pe_lc (own := [("_law_word_here", 10)]) (g := gName 10) (tt := tYes) rfl scL.nd (pi_list (pe_lst (pa_cons (pv 7) (pa_cons (pv 8) (pa_cons (pe_op op_add_str (pv 7) (pv 8)) pa_nil)))))
              (blkOk_by (own := [("_law_word_here", 10)]) (N := NL) (sc := defScope sLaw) (by decide +kernel)) (fun _ _ _ _ _ => pg_name (i := 10) scL.nd rfl (Or.inl rfl)) (fun _ _ _ _ _ => pts_nil)
              (fun _ _ _ _ _ => pe_call QW.ok hr1 rfl QW.m QW.kp QW.b .nil pass0 (pa_cons (pv 5) (pa_cons (pv 10) pa_nil)))) pa_nil)) (pe_callB (call_reprD hg hr.units) (by rfl) T.repr (by decide +kernel) (pa_cons (pv 9) pa_nil)) (nomark _)) (pss_one (ps_ret pe_bl)) pss_nil)
        (pss_one (ps_if (PW.pt (pw_or (pt_cmpR op_ne (pe_ix ix_list (pv 9) pe_int (fun _ _ => rfl)) (pe_op op_add (pe_ix ix_list (pv 9) pe_int (fun _ _ => rfl)) (pe_ix ix_list (pv 9) pe_int (fun _ _ => rfl))) (nomark _))
            (pw_or1 (pt_cmpR op_ne (pe_callB (call_reprD hg hr.units) (by rfl) T.repr (by decide +kernel) (pa_cons (pe_call QW.ok hr1 rfl QW.m QW.kp QW.b .nil pass0 (pa_cons (pe_op op_repT1 (pe_tup (pa_cons pe_int pa_nil)) (pv 3)) (pa_cons (pv 8) pa_nil))) pa_nil)) pe_str (nomark _))))) (pss_one (ps_ret pe_bl)) pss_nil))))))))))))))
    (pss_one (ps_ret (pe_cmpR op_eq (pe_callB (call_reprD hg hr.units) (by rfl) T.repr (by decide +kernel) (pa_cons (pe_lst (pa_cons (pe_call QS.ok hr1 rfl QS.m QS.kp QS.b .nil pass0 (pa_cons pe_str (pa_cons pe_str pa_nil)))
        (pa_cons (pe_call QS.ok hr1 rfl QS.m QS.kp QS.b .nil pass0 (pa_cons pe_str (pa_cons pe_str pa_nil)))
        (pa_cons (pe_call QW.ok hr1 rfl QW.m QW.kp QW.b .nil pass0 (pa_cons (pe_tup (pa_cons (pe_un un_neg pe_int) pa_nil)) (pa_cons (pe_op op_mulS pe_str pe_int) pa_nil))) pa_nil)))) pa_nil)) pe_str (nomark _))))), ?_⟩
  refine ⟨_, rfl, a, ns, rfl, hS, hl, fun d c G0 s0 nd nc D0 => ?_⟩
  refine ⟨8, rfl, by decide, by decide, for_range (lo := 0) (n := 8) (fun i σ G => ∃ (k2 k3 k4 k5 k6 k7 k8 k9 : Option V), σ = [some (.ref a), some (.ref d), k2, k3, k4, k5, k6, k7, k8, k9, none] ∧ Deck G d c (i * 30000))
      ⟨none, none, none, none, none, none, none, none, rfl, D0⟩ ?_ ?_⟩
  · rintro i σ G hi ⟨k2, k3, k4, k5, k6, k7, k8, k9, rfl, DG⟩
    refine ⟨_, rfl, d, c, 4, _, rfl, DG, by omega, by decide, by decide, fun r1 G1 r10 r11 D1 s1 => ⟨_, _, rfl, rfl, ?_⟩⟩
    obtain ⟨l0, rfl⟩ : ∃ l0 : Nat, r1 = (l0 : Int) := ⟨r1.toNat, by omega⟩
    have l4 : 1 + l0 ≤ 4 := by omega
    refine ⟨_, rfl, _, rfl, d, c, 1 + l0, _, rfl, D1, by omega, l4, fun bs G2 bl D2 s2 => ?_⟩
    refine ⟨_, rfl, (1 + l0 : Nat), rfl, by omega, by omega, fun L nL => lc_range (lo := 0) (n := 1 + l0) (fun j G' => Deck G' d c (i * 30000 + 10 + 3 * j) ∧ Same (Hd d c G2) (Hd d c G') ∧ ∃ ws : List Int, G' L = some (.lst (ws.map V.int)) ∧ ws.length = j ∧ ∀ x ∈ ws, x.natAbs ≤ 99)
      ⟨(D2.mono (by omega)).new nL _, hd_new nL _, [], upd_same, rfl, fun x h => nomatch h⟩ ?_ ?_⟩
    · rintro j G' hj ⟨D3, s3, ws, w1, w2, w3⟩
      have fL := D2.free nL
      refine ⟨rfl, _, rfl, _, rfl, _, rfl, _, rfl, d, c, 199, _, rfl, D3, by omega, by decide, by decide, fun r G3 r0 r2 D4 s4 => ⟨_, _, rfl, rfl, by show 6 ≤ 2 ^ 24; decide, fun la nla => ?_⟩⟩
      have fla := D4.free nla
      refine ⟨d, c, la, _, _, rfl, D4.new nla _, by omega, hd_of upd_same fla.1 fla.2, by show 0 < 6; decide, by show 6 ≤ 100000; decide, fun v G5 hv D5 s5 => ?_⟩
      obtain ⟨z, rfl, hz⟩ := one_v r0 r2 hv
      have s6 := s4.trans ((hd_new nla _).trans s5)
      refine ⟨_, hd_sub _ _ (s6 _ _ (hd_of w1 fL.1 fL.2)), ?_, (D5.mono (by omega)).put fL.1 fL.2 _, hd_grow (hd_none nL) (s3.trans s6) _, ws ++ [z], ?_, by rw [List.length_append, w2]; rfl, ?_⟩
      · rw [List.length_map, w2]
        show j < 2 ^ 24
        omega
      · rw [upd_same, List.map_append]; rfl
      · intro x hx
        rcases List.mem_append.mp hx with hx | hx
        · exact w3 x hx
        · rw [List.mem_singleton.mp hx]; exact hz
    · rintro G3 ⟨D3, s3, ws, w1, w2, w3⟩
      refine ⟨L, _, rfl, .inl ⟨.inl (.inl w1), fun tw ntw => ?_⟩⟩
      have D4 := D3.new ntw (.tup (ws.map V.int))
      have ft := D3.free ntw
      have gt : Hd d c (upd G3 tw (.tup (ws.map V.int))) tw = some (.tup (ws.map V.int)) := hd_of upd_same ft.1 ft.2
      generalize upd G3 tw (.tup (ws.map V.int)) = G4 at D4 gt
      refine ⟨6, rfl, by decide, by decide, for_range (lo := 0) (n := 6) (fun j σ G' => ∃ (x6 x7 x8 x9 : Option V), σ = [some (.ref a), some (.ref d), some (.int (0 + i)), some (.int (1 + l0 : Nat)), some (.str (sS bs)), some (.ref tw), x6, x7, x8, x9, none] ∧
          Deck G' d c (i * 30000 + 100 + j * 2010) ∧ Same (Hd d c G4) (Hd d c G')) ⟨k6, k7, k8, k9, rfl, D4.mono (by omega), Same.refl _⟩ ?_ ?_⟩
      · rintro j σ G' hj ⟨x6, x7, x8, x9, rfl, DG', sG⟩
        refine ⟨_, rfl, _, rfl, _, rfl, rfl, _, rfl, if_200 fun n1 h1 => ⟨d, c, 1 + l0, n1, _, rfl, DG', by omega, by omega, l4, by omega, fun u G5 a1 b1 D5 s5 => ?_⟩⟩
        refine ⟨_, rfl, _, rfl, _, rfl, rfl, _, rfl, if_200 fun n2 h2 => ⟨d, c, 1 + l0, n2, _, rfl, D5, by omega, by omega, l4, by omega, fun v G6 a2 b2 D6 s6 => ?_⟩⟩
        refine ⟨_, _, rfl, ?_⟩
        have sM : Same (Hd d c G4) (Hd d c G6) := sG.trans (s5.trans s6)
        have fu : ∀ z, (z = u ∨ z = v ∨ z = u ++ v) → (∀ j ∈ z, j < 1 + l0) ∧ z.length ≤ 1000 := by
          rintro z (rfl | rfl | rfl)
          · exact ⟨a1, by omega⟩
          · exact ⟨a2, by omega⟩
          · refine ⟨fun j hj => ?_, by rw [List.length_append]; omega⟩
            rcases List.mem_append.mp hj with h | h
            · exact a1 j h
            · exact a2 j h
        have cS : ∀ (z : List Nat) (H' : Hp) (Q' : VK), (z = u ∨ z = v ∨ z = u ++ v) → (∀ G, Same H' G → Q' (.int (sgn bs z)) G) → spSgn [V.str (sS bs), V.str (wS z)] H' Q' E0 := fun z H' Q' hz hq =>
          ⟨bs, z, rfl, by omega, by rw [bl]; exact (fu z hz).1, by have := (fu z hz).2; omega, hq⟩
        have cW : ∀ (z : List Nat) (H' : Hp) (Q' : VK), (z = u ∨ z = v ∨ z = u ++ v) → Same G6 H' → (∀ G, Same H' G → Q' (.int (wsum ws z)) G) → spWgt [V.ref tw, V.str (wS z)] H' Q' E0 := fun z H' Q' hz s hq =>
          ⟨tw, ws, z, rfl, s _ _ (hd_sub _ _ (sM _ _ gt)), by omega, w3, by rw [w2]; exact (fu z hz).1, (fu z hz).2, hq⟩
        have wl : ∀ z, (z = u ∨ z = v ∨ z = u ++ v) → (wsum ws z).natAbs ≤ 400000 := fun z hz => wsum_le ws z (by omega) (fu z hz).2 w3
        have fS := fit3 (sgn_le bs u) (sgn_le bs v) (sgn_le bs (u ++ v))
        have fW := fit3 (wl u (.inl rfl)) (wl v (.inr (.inl rfl))) (wl (u ++ v) (.inr (.inr rfl)))
        -- the signs
        refine seq_asg (three (K := K) (sp := spSgn) (ar := 4) (v0 := .str (sS bs)) (f := sgn bs) (fun x => rfl) (by omega) (by omega) (fun z H' Q' hz _ hq => cS z H' Q' hz hq) fun L1 H1 t1 g1 => ?_)
        refine seq_if (op_cb (three (K := K) (sp := spSgn) (ar := 4) (v0 := .str (sS bs)) (f := sgn bs) (fun x => rfl) (by omega) (by omega) (fun z H' Q' hz _ hq => cS z H' Q' hz hq) fun L2 H2 t2 g2 => ?_))
        have g1' := t2 _ _ g1
        refine ⟨_, _, rfl, dt3 g2, fS.s, Nat.le_trans fS.k (by decide), shown_le (dt3 (K := K) g2) fS (by decide), ?_⟩
        refine ⟨_, rfl, _, _, rfl, dt3 g1', fS.s, Nat.le_trans fS.k (by decide), shown_le (dt3 (K := K) g1') fS (by decide), rfl, _, rfl, ?_⟩
        refine iteNS rfl ?_
        refine ⟨_, rfl, L1, _, 2, .int (sgn bs (u ++ v)), rfl, rfl, .inl (.inl g1'), rfl, _, rfl, L1, _, 0, .int (sgn bs u), rfl, rfl, .inl (.inl g1'), rfl, _, rfl, L1, _, 1, .int (sgn bs v), rfl, rfl, .inl (.inl g1'), rfl, _, _, rfl, rfl, .inl ?_, rfl, _, rfl, ?_⟩
        · have := sgn_le bs u
          constructor <;> omega
        refine iteNS (by rw [sgn_app]) ?_
        refine ⟨_, rfl, 43, 1 + l0, by decide +kernel, rfl, by omega, by omega, _, rfl, List.replicate (1 + l0) false, u, ?_, by rw [List.length_replicate]; exact l4, by rw [List.length_replicate]; exact a1, by omega, fun H3 t3 => ?_⟩
        · show [V.str ⟨(List.replicate (1 + l0) 43).toArray⟩, V.str (wS u)] = [V.str (sS (List.replicate (1 + l0) false)), V.str (wS u)]
          unfold sS
          rw [List.map_replicate]
          rfl
        rw [sgn_plus]
        refine ⟨_, .int 1, rfl, .int 1, by decide +kernel, by decide +kernel, by decide +kernel, rfl, _, rfl, ?_⟩
        refine iteNS (by decide +kernel) ?_
        have sX := t1.trans (t2.trans t3)
        -- the weights
        refine seq_asg (three (K := K) (sp := spWgt) (ar := 5) (v0 := .ref tw) (f := wsum ws) (fun x => rfl) (by omega) (by omega) (fun z H' Q' hz s hq => cW z H' Q' hz (sX.trans s) hq) fun L3 H4 t4 g4 => ?_)
        refine seq_if (op_cb (three (K := K) (sp := spWgt) (ar := 5) (v0 := .ref tw) (f := wsum ws) (fun x => rfl) (by omega) (by omega) (fun z H' Q' hz s hq => cW z H' Q' hz (sX.trans (t4.trans s)) hq) fun L4 H5 t5 g5 => ?_))
        have g4' := t5 _ _ g4
        refine ⟨_, _, rfl, dt3 g5, fW.s, Nat.le_trans fW.k (by decide), shown_le (dt3 (K := K) g5) fW (by decide), ?_⟩
        refine ⟨_, rfl, _, _, rfl, dt3 g4', fW.s, Nat.le_trans fW.k (by decide), shown_le (dt3 (K := K) g4') fW (by decide), rfl, _, rfl, ?_⟩
        refine iteNS rfl ?_
        refine ⟨_, rfl, L3, _, 2, .int (wsum ws (u ++ v)), rfl, rfl, .inl (.inl g4'), rfl, _, rfl, L3, _, 0, .int (wsum ws u), rfl, rfl, .inl (.inl g4'), rfl, _, rfl, L3, _, 1, .int (wsum ws v), rfl, rfl, .inl (.inl g4'), rfl, _, _, rfl, rfl, rfl, _, rfl, ?_⟩
        refine iteNS (by rw [wsum_app]) ?_
        refine ⟨by show 1 ≤ 2 ^ 24; decide, fun p np => ?_⟩
        have sp0 := same_new np (.tup [V.int 0])
        have gp0 : upd H5 p (.tup [V.int 0]) p = some (.tup [V.int 0]) := upd_same
        generalize upd H5 p (.tup [V.int 0]) = H6 at sp0 gp0
        refine ⟨_, rfl, p, 1 + l0, [.int 0], rfl, rfl, .inl (.inl gp0), by simp, by omega, by omega, by decide, fun e => ?_, fun p2 np2 => ?_⟩
        · refine ⟨_, rfl, p, List.replicate (1 + l0) 0, v, rfl, by rw [e]; exact gp0, by rw [List.length_replicate]; exact l4, fun x hx => by rw [List.eq_of_mem_replicate hx]; decide, by rw [List.length_replicate]; exact a2, by omega, fun G3 s3 => ?_⟩
          rw [wsum_nought]
          refine ⟨_, .int 0, rfl, .int 0, by decide +kernel, by decide +kernel, by decide +kernel, rfl, _, rfl, ?_⟩
          refine iteNS (by decide +kernel) ?_
          have sY := sX.trans (t4.trans (t5.trans (sp0.trans s3)))
          exact ⟨_, _, _, _, rfl, (D6.same sY).mono (by omega), sM.trans (hd_same sY)⟩
        · refine ⟨_, rfl, p2, List.replicate (1 + l0) 0, v, rfl, by rw [upd_same, List.map_replicate, List.flatten_replicate_singleton], by rw [List.length_replicate]; exact l4, fun x hx => by rw [List.eq_of_mem_replicate hx]; decide, by rw [List.length_replicate]; exact a2, by omega, fun G3 s3 => ?_⟩
          rw [wsum_nought]
          refine ⟨_, .int 0, rfl, .int 0, by decide +kernel, by decide +kernel, by decide +kernel, rfl, _, rfl, ?_⟩
          refine iteNS (by decide +kernel) ?_
          have sY := sX.trans (t4.trans (t5.trans (sp0.trans ((same_new np2 _).trans s3))))
          exact ⟨_, _, _, _, rfl, (D6.same sY).mono (by omega), sM.trans (hd_same sY)⟩
      · rintro σ G' ⟨x6, x7, x8, x9, rfl, DG', sG⟩
        exact ⟨_, _, _, _, _, _, _, _, rfl, DG'.mono (by omega)⟩
  · rintro σ G ⟨k2, k3, k4, k5, k6, k7, k8, k9, rfl, DG⟩
    refine ⟨[true], [0, 0, 0], by decide +kernel, by decide, by decide, by decide, fun G1 s1 => ?_⟩
    refine ⟨[true], [], by decide +kernel, by decide, by decide, by decide, fun G2 s2 => ?_⟩
    refine ⟨_, rfl, by show 1 ≤ 2 ^ 24; decide, fun p np => ?_⟩
    refine ⟨97, 400, by decide +kernel, rfl, by decide, by decide, p, [-99], List.replicate 400 0, ?_, upd_same, by decide, by decide, fun j hj => by rw [List.eq_of_mem_replicate hj]; decide, by rw [List.length_replicate]; decide, fun G3 s3 => ?_⟩
    · show [V.ref p, V.str ⟨(List.replicate 400 97).toArray⟩] = [V.ref p, V.str (wS (List.replicate 400 0))]
      unfold wS
      rw [List.map_replicate]
    refine ⟨by show 3 ≤ 2 ^ 24; decide, fun x nx => ?_⟩
    have e : (sgn [true] [0, 0, 0], sgn [true] [], wsum [-99] (List.replicate 400 0)) = ((-1 : Int), (1 : Int), (-39600 : Int)) := by decide +kernel
    obtain ⟨e1, e2⟩ := Prod.mk.inj e
    obtain ⟨e2, e3⟩ := Prod.mk.inj e2
    rw [e1, e2, e3]
    have f := fit3 (a := -1) (b := 1) (c := -39600) (by decide) (by decide) (by decide)
    refine ⟨_, _, rfl, dt3 upd_same, f.s, Nat.le_trans f.k (by decide), by decide +kernel, rfl, ?_⟩
    have ee : (PyData.list [.int (-1), .int 1, .int (-39600)]).shown = ("[-1, 1, -39600]" : Str) := by decide +kernel
    show Q (.bl (decide (V.str (PyData.list [.int (-1), .int 1, .int (-39600)]).shown = V.str "[-1, 1, -39600]"))) _
    rw [ee, decide_eq_true rfl]
    exact q _
end
end K24

namespace K24
open PySem L2 GL KC GZ KW
theorem all_mk {l : PySem.W.OpenLaw} {w : World} {K : PySem.W.Frag} {h : Heap} {mg : Str → Option Value} {fa : Addr} (X : K.In h) (G : h.Ns mainGlobals mg) (hfa : mg "law" = some (.ref fa))
    {f2 f3 f5 f6 f7 f8 f9 f10 f11 f12 : Addr} {d2 d3 d5 d6 d7 d8 d9 d10 d11 d12 : FuncData} {t1 : Tok}
    (F2 : DF K "sign_of" sSignOf f2 d2) (F3 : DF K "weight_of" sWeightOf f3 d3) (F5 : DF K "_law_deck" sDeck f5 d5) (F6 : DF K "_law_draw" sDraw f6 d6) (F7 : DF K "_law_one" sOne f7 d7) (F8 : DF K "_law_word" sWord f8 d8) (F9 : DF K "_law_sign" sSign f9 d9)
    (F10 : DF K "_law_signs" sSigns f10 d10) (F11 : DF K "_law_weight" sWeight f11 d11) (F12 : DF K "law" sLaw f12 d12)
    (z1 : PySem.W.nsIn K mainGlobals "int" = some none) (z2 : PySem.W.nsIn K mainGlobals "tuple" = some none) (z3 : PySem.W.nsIn K mainGlobals "len" = some none) (z4 : PySem.W.nsIn K mainGlobals "abs" = some none) (z5 : PySem.W.nsIn K mainGlobals "range" = some none)
    (z6 : PySem.W.nsIn K mainGlobals "repr" = some none) (z7 : PySem.W.nsIn K mainGlobals "sum" = some none) (z8 : PySem.W.nsIn K mainGlobals "zip" = some none) (m1 : PySem.W.nsIn K mainGlobals "LETTERS" = some (some (.str "abcd" t1))) :
    ∃ fd : FuncData, (∀ (s : Shared) (v : Value), BindsTo s fd ⟨[v], []⟩ [("_law_script", v)]) ∧ ∀ base : Heap, K.In base → base.Ns mainGlobals mg → Fg l.prog w K mg base CX0 4 fa fd ["_law_script"] (spLaw K) := by
  have e := hfa.symm.trans (PySem.W.mg_of X G F12.ns)
  cases e
  have C : TxC mg := ⟨PySem.W.mg_none_of X G z1, PySem.W.mg_none_of X G z2, PySem.W.mg_none_of X G z3, PySem.W.mg_none_of X G z4, PySem.W.mg_none_of X G z5⟩
  have T : Txt mg := ⟨C, PySem.W.mg_none_of X G z6, PySem.W.mg_none_of X G z7, PySem.W.mg_none_of X G z8, ⟨_, PySem.W.mg_of X G m1⟩⟩
  refine ⟨d12, fun s v => ?_, fun base _ _ => ?_⟩
  · obtain ⟨oc, od, kV, doc, pm, an, cdv, ct, osl, rfl, _, _⟩ := F12.fn.ex
    exact .of_eq rfl
  have D2 : Dfn l.prog w K mg base "sign_of" 1 f2 d2 ["signs", "word"] spSgn := ⟨ok_sign F2.fn T, F2.fn.binds fun _ _ _ _ _ _ us hl => match us, hl with | [_, _], _ => rfl, PySem.W.mg_of X G F2.ns, F2.fn.kp⟩
  have D3 : Dfn l.prog w K mg base "weight_of" 1 f3 d3 ["weights", "word"] spWgt := ⟨ok_weight F3.fn T, F3.fn.binds fun _ _ _ _ _ _ us hl => match us, hl with | [_, _], _ => rfl, PySem.W.mg_of X G F3.ns, F3.fn.kp⟩
  have D5 : Dfn l.prog w K mg base "_law_deck" 1 f5 d5 ["_law_script"] (spDeck K) := ⟨ok_deck F5.fn C, F5.fn.binds fun _ _ _ _ _ _ us hl => match us, hl with | [_], _ => rfl, PySem.W.mg_of X G F5.ns, F5.fn.kp⟩
  have D6 : Dfn l.prog w K mg base "_law_draw" 1 f6 d6 ["_law_deck_here", "_law_many"] spDraw := ⟨ok_draw F6.fn C, F6.fn.binds fun _ _ _ _ _ _ us hl => match us, hl with | [_, _], _ => rfl, PySem.W.mg_of X G F6.ns, F6.fn.kp⟩
  have B7 : L2.Binds K d7 ["_law_deck_here", "_law_items"] [] := F7.fn.binds fun _ _ _ _ _ _ us hl => match us, hl with | [_, _], _ => rfl
  have D7 : Dfn l.prog w K mg base "_law_one" 2 f7 d7 ["_law_deck_here", "_law_items"] spOne := ⟨ok_one F7.fn C D6, B7, PySem.W.mg_of X G F7.ns, F7.fn.kp⟩
  have D7s : Dfn l.prog w K mg base "_law_one" 2 f7 d7 ["_law_deck_here", "_law_items"] spOneT := ⟨ok_oneT F7.fn T D6, B7, PySem.W.mg_of X G F7.ns, F7.fn.kp⟩
  have D8 : Dfn l.prog w K mg base "_law_word" 3 f8 d8 ["_law_deck_here", "_law_letters", "_law_most"] spWord := ⟨ok_word F8.fn T D6 D7s, F8.fn.binds fun _ _ _ _ _ _ us hl => match us, hl with | [_, _, _], _ => rfl, PySem.W.mg_of X G F8.ns, F8.fn.kp⟩
  have D9 : Dfn l.prog w K mg base "_law_sign" 1 f9 d9 ["_law_signs_here", "_law_word_here"] spSgn := ⟨ok_lsign F9.fn, F9.fn.binds fun _ _ _ _ _ _ us hl => match us, hl with | [_, _], _ => rfl, PySem.W.mg_of X G F9.ns, F9.fn.kp⟩
  have D10 : Dfn l.prog w K mg base "_law_signs" 3 f10 d10 ["_law_deck_here", "_law_letters"] spSigns := ⟨ok_signs F10.fn T D7s, F10.fn.binds fun _ _ _ _ _ _ us hl => match us, hl with | [_, _], _ => rfl, PySem.W.mg_of X G F10.ns, F10.fn.kp⟩
  have D11 : Dfn l.prog w K mg base "_law_weight" 1 f11 d11 ["_law_weights", "_law_word_here"] spWgt := ⟨ok_lweight F11.fn T, F11.fn.binds fun _ _ _ _ _ _ us hl => match us, hl with | [_, _], _ => rfl, PySem.W.mg_of X G F11.ns, F11.fn.kp⟩
  exact ok_law F12.fn T D5 D6 D7 D8 D10 D9 D11 D2 D3
end K24

open PySem PySem.W PyProof.Rows
set_option maxRecDepth 100000 in
set_option maxHeartbeats 0 in
theorem PySem.Challenge.cw_pairedaway_k24_signs_and_weights_holds : PySem.Challenge.rw_pairedaway_k24_signs_and_weights.Holds := by
  w_on; o_law; k_head; (case hw => w_witness2)
  k_fill
  refine GL.walk_g (l := PySem.Challenge.rw_pairedaway_k24_signs_and_weights) (n := 63) (k := 4) (x := "_law_script") (sp := K24.spLaw) rfl (by decide) rfl ⟨rfl, by decide, by decide⟩ (fun w h Y => PySem.W.kIn_of Y) ?F (fun K H a ns hl _ hS => ⟨a, ns, rfl, hS, hl, fun _ => rfl⟩)
  case F =>
    intro w mg fa h KX G hmg
    refine' K24.all_mk KX G hmg (KC.df ?a2 ?l2 ?c2 ?k2) (KC.df ?a3 ?l3 ?c3 ?k3) (KC.df ?a5 ?l5 ?c5 ?k5) (KC.df ?a6 ?l6 ?c6 ?k6) (KC.df ?a7 ?l7 ?c7 ?k7) (KC.df ?a8 ?l8 ?c8 ?k8) (KC.df ?a9 ?l9 ?c9 ?k9) (KC.df ?a10 ?l10 ?c10 ?k10) (KC.df ?a11 ?l11 ?c11 ?k11) (KC.df ?a12 ?l12 ?c12 ?k12) ?z1 ?z2 ?z3 ?z4 ?z5 ?z6 ?z7 ?z8 ?m1
    (case a2 => k_is); (case l2 => k_is); (case c2 => k_is); (case k2 => k_is)
    (case a3 => k_is); (case l3 => k_is); (case c3 => k_is); (case k3 => k_is)
    (case a5 => k_is); (case l5 => k_is); (case c5 => k_is); (case k5 => k_is)
    (case a6 => k_is); (case l6 => k_is); (case c6 => k_is); (case k6 => k_is)
    (case a7 => k_is); (case l7 => k_is); (case c7 => k_is); (case k7 => k_is)
    (case a8 => k_is); (case l8 => k_is); (case c8 => k_is); (case k8 => k_is)
    (case a9 => k_is); (case l9 => k_is); (case c9 => k_is); (case k9 => k_is)
    (case a10 => k_is); (case l10 => k_is); (case c10 => k_is); (case k10 => k_is)
    (case a11 => k_is); (case l11 => k_is); (case c11 => k_is); (case k11 => k_is)
    (case a12 => k_is); (case l12 => k_is); (case c12 => k_is); (case k12 => k_is)
    (case z1 => k_is)
    (case z2 => k_is)
    (case z3 => k_is)
    (case z4 => k_is)
    (case z5 => k_is)
    (case z6 => k_is)
    (case z7 => k_is)
    (case z8 => k_is)
    (case m1 => k_is)
