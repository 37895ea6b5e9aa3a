
import PyProof.Rows.All
import Wide.All
import OpenK.AllK
import Wide.FinOn
import KE.KStateDown
import HandS.ForMost
import HandS.More
import HandS.Flow
import HandS.IsInst
import HandS.AnyAll
import HandS.Steps
import HandS.Walk
import HandS.Evl
import HandS.ExcOwn
import HandS.ExcCtx
import HandS.ExcIs
import HandS.HotCalls
import HandS.WordsExc
import HandS.Head0
import HandS.Head1
import HandS.Head2
import HandS.HeadEnd
import HandS.HeadHook1
import HandS.HeadHook2
import HandS.HeadHook4
import HandS.HeadWalk
import PySem.Challenge.RW_readwriteroom_k11_told_and_read
set_option Elab.async false
set_option linter.all false
set_option maxHeartbeats 8000000
set_option maxRecDepth 100000

/-! ### all(test for x in text), the test over the sign and the module's names -/
namespace RG
open PySem PySem.Spec PyProof.Rows L2
/-- the test of one sign: it may read the sign's name and the module's names -/
def Elt (P : Program) (w : World) (mg : Str → Option Value) (scope : Scope) (x : Str) (elt : Expr) (pb : Nat → Bool) : Prop :=
  ∀ (ev : Env) (A : Around) (E : Value → Shared → Prop) (k : Nat) (t : Tok) (s : Shared) (m : Str → Option Value), ev.scope = scope → ev.globals = mainGlobals → s.heap.Ns mainGlobals mg → s.heap.Ns ev.locals m → m x = some (.str ⟨#[k]⟩ t) →
    wpAny (model P w) A (eval elt ev) (fun y s' => y = .bool (pb k) ∧ Keeps s s') E s
/-- x in NAME, NAME a text of the module -/
theorem elt_in {P : Program} {w : World} {mg : Str → Option Value} {scope : Scope} {x N z : Str} {tk : Tok} {p1 p2 p3 : Pos} (kd : scope.kind = .function) (lx : scope.names.lookup x = some .local) (lN : scope.names.lookup N = some .globalImplicit) (hN : mg N = some (.str z tk))
    (d1 : (x == ("__debug__" : Str)) = false := by decide) (d2 : (N == ("__debug__" : Str)) = false := by decide) : Elt P w mg scope x (.Compare (.Name x p1) [.In] [.Name N p2] p3) (fun k => decide (k ∈ z.cps.toList)) := by
  intro ev A E k t s m hs hg hG hL hx
  subst hs
  refine wpAny_Compare1 (wpAny_Name (wpAny_loadName_local kd lx hL hx ?_) d1) (by rfl)
  have hG' : s.heap.Ns ev.globals mg := by
    rw [hg]
    exact hG
  refine Calls.Name_function_global kd lN (Calls.loadGlobal_global hG' hN (PyProof.Rows.in_str ⟨?_, s.heap, s.toks, rfl, fun _ _ e => e⟩)) d2
  rw [PySem.StrLaws.found_one z k]
theorem nofree {l : List (Str × NameKind)} {R : Str × NameKind → Prop} (h : (l.all fun y => decide (y.2 ≠ .free)) = true) : ∀ y ∈ l, y.2 = .free → R y := fun y hy e => absurd e (of_decide_eq_true (List.all_eq_true.mp h y hy))
section
variable {X : Cx} {pins : List (Addr × Obj)} {σ : L2.St} {H : Hp} {s : Shared} {c P : Addr} {scope : Scope} {x : Str} {elt : Expr} {pb : Nat → Bool}
/-- the code object of the generator is found in the table, or made and entered -/
theorem code_of {M : Model} {A : Around} {E : Value → Shared → Prop} {r : Shared} {ev : Env} {gp : Pos} {qn : Str} {ps : Array Value} {Q : Value → Shared → Prop} (hc : ev.code = .ref c) (hd : PySem.W.CodeHd r.heap c P) (hP : r.heap.get? P = some (PySem.W.tabObj ps)) (ok : TriplesOk ps.toList)
    (h : ∀ cd h' tk more, Heap.ExtBut P r.heap h' → r.heap.objs.size ≤ h'.objs.size → h'.get? P = some (PySem.W.tabObj (ps ++ more)) → TriplesOk (ps ++ more).toList → Q cd { r with heap := h', toks := tk }) : wpAny M A (genexprCode ev gp qn scope) Q E r := by
  cases hf : codeAmong gp ps.toList with
  | some cd =>
    have e : ps ++ #[] = ps := by simp
    refine wpAny_genexprCode_hit hc (hd.code hP ok) hf ?_
    exact h cd r.heap r.toks #[] (.refl _ _) (Nat.le_refl _) (by rw [e]; exact hP) (by rw [e]; exact ok)
  | none =>
    refine wpAny_genexprCodeX hc (hd.code hP ok) (hd.tab hP) hf ?_
    intro c1 h1 t1 ext ge lt co _ ta _
    obtain ⟨_, _, _, _, _, _, _, _, _, _, _, _, _, _, _, _, _, _, _, tr, _⟩ := co
    exact h _ h1 t1 _ ext (Nat.le_trans ge (Nat.le_of_lt lt)) ta.2 tr
theorem in_range {h : Heap} {b : Addr} {u : Obj} (e : h.get? b = some u) : b ∈ List.range h.objs.size := List.mem_range.mpr (Heap.lt_size e)
theorem pe_allG {iter : Expr} {px p pos gp : Pos} {te : TE} {k : Nat} (hr : Room k X.A) (gA : Gl X "all") (mA : X.mg "all" = none) (TB : GxR.TabB X.base X.mg c P) (hc : X.env.code = .ref c) (S : GxR.GenS X.env scope x) (hi : PE X iter te) (hel : Elt X.prog X.w X.mg scope x elt pb)
    (hs : ∀ v, genFold iter X.env v = pure v)
    (he : starEach [.GeneratorExp elt [⟨.Name x px, iter, [], 0⟩] scope gp] X.env = [(false, eval (.GeneratorExp elt [⟨.Name x px, iter, [], 0⟩] scope gp) X.env)] := by rfl) :
    PE X (.Call (.Name "all" p) [.GeneratorExp elt [⟨.Name x px, iter, [], 0⟩] scope gp] [] pos) (GxR.tAllS P pb te) := by
  constructor
  intro pins s σ H Q I h
  have bA : bootBuiltins "all" = some (.builtin "all") := PyProof.Rows.boot_all
  refine wpAny_Call_Name_kw (ld_blt I gA mA bA (PyProof.Rows.callWith_builtin1 ?_ he (by rfl)))
  rw [he]
  refine Calls.spliced_cons ?_
  refine wpAny_GeneratorExp_walksQ hr.hd S.co (closure_ok S.free) S.cell S.dot S.loc S.kind (by have := hr.dp; omega) (thn (hi.run pins s σ H _ I h) ?_) hs
  rintro xv sa ⟨v, Ha, Ia, rv, a, rfl, ⟨ps, tP, ok⟩, q⟩
  obtain ⟨ta, rfl⟩ := rv
  refine wpAny_pyIter_str ?_
  intro io St W st0
  -- the heap with the text's iterator
  have gP : sa.heap.get? P = some (PySem.W.tabObj ps) := Ia.hok P _ tP
  have up : ∀ b u, sa.heap.get? b = some u → (sa.heap.push io).get? b = some u := fun b u e => Heap.get?_push_of_some _ e
  have nl : (sa.heap.push io).NoLimit := Ia.nolimit.push io
  have szp : (sa.heap.push io).objs.size = sa.heap.objs.size + 1 := Heap.size_push ..
  refine ⟨nl, code_of hc (TB.code.keeps fun b u e => up b u (Ia.bk b u e)) (up _ _ gP) ok ?_⟩
  intro cd h3 tk more ext ge gP3 ok3
  have ge2 : sa.heap.objs.size + 1 ≤ h3.objs.size := by
    rw [← szp]
    exact ge
  have kp : ∀ b u, b ≠ P → sa.heap.get? b = some u → h3.get? b = some u := fun b u n e => ext b u n (up b u e)
  have PltA : P < sa.heap.objs.size := Heap.lt_size gP
  have nsG : h3.Ns mainGlobals X.mg := ((Ia.mod.glob.keeps Ia.bk).push io).extBut ext TB.gP
  have csP : cStatics ≠ P := by
    intro e
    obtain ⟨_, ⟨o', _, _, ho, hdd, _⟩, _⟩ := Ia.nolimit
    rw [e, gP] at ho
    cases ho
    cases hdd
  have csA : cStatics < sa.heap.objs.size := let ⟨_, hns, _⟩ := Ia.nolimit; hns.lt
  have itP : sa.heap.objs.size ≠ P := fun e => absurd PltA (by rw [e]; exact Nat.lt_irrefl _)
  obtain ⟨bm, ob, b1, b2, b3, b4, b5, b6, b7, b8⟩ := TB.bm
  refine wpAny_builtinsFor (m := X.mg) (by rw [Ia.ok.glob]; exact nsG) b1 b2 (kp _ _ b4 (Ia.bk _ _ b5)) b6 b7 b8 ?_
  refine ⟨sa.heap.objs.size, [sa.heap.objs.size], [sa.heap.objs.size], a.cps.size, SignAt a, St, fun _ => true, fun j y => ∃ k, a.cps[j]? = some k ∧ y = .bool (pb k), rfl, W, ?_, ?_, nl.extBut ext csP, ?_, ?_, ?_⟩
  · refine (W X.A hr.hd).frame _ _ _ st0 fun b hb u e => ext b u ?_ e
    rw [List.mem_singleton.mp hb]
    exact itP
  · intro b hb
    rw [List.mem_singleton.mp hb]
    exact ge2
  · intro hm
    exact Nat.ne_of_lt csA (List.mem_singleton.mp hm)
  · intro hh kh
    constructor
    · intros
      simp only [List.forIn_nil]
      exact wpAny_pure ⟨rfl, GxR.keeps_refl _⟩
    · rintro A' E' j v s2 m2 hA ⟨k, u, hk, rfl⟩ _ hn hm keep
      have G2 : s2.heap.Ns mainGlobals X.mg := by
        obtain ⟨og, es, ep, hog, r⟩ := nsG
        refine ⟨og, es, ep, keep _ (in_range hog) ?_ _ (kh _ _ hog), r⟩
        intro hm2
        have e2 := List.mem_singleton.mp hm2
        obtain ⟨o9, _, _, h9, _⟩ := Ia.mod.glob.keeps Ia.bk
        have := Heap.lt_size h9
        rw [e2] at this
        exact Nat.lt_irrefl _ this
      refine wpAny_mono (hel _ A' E' k u s2 m2 rfl Ia.ok.glob G2 hn hm) ?_ fun _ _ z => z
      rintro y s3 ⟨e, kk⟩
      exact ⟨⟨k, hk, e⟩, kk⟩
  · intro g h5 t5 gs bare _ _ k5 W5 hat
    rw [GxR.passing_true] at W5
    simp only [List.length_range] at W5
    refine Calls.spliced_nil (call_all_walkS (W5.in4_1.self 0 _ _ _ hat ⟨g, _, _, _, _, _, _, GxR.trF pb a.cps.toList, rfl, W5.in4_1, hat, ?_, ?_⟩))
    · rintro j y sj Qj Ej ⟨i, hij, k, hk, rfl⟩ hq
      obtain ⟨hj, ej⟩ := List.getElem?_eq_some_iff.mp hij
      rw [List.getElem_range] at ej
      subst ej
      rw [GxR.trF_some (b := k) (by rw [Array.getElem?_toList]; exact hk)] at hq
      exact wpAny_truthy_bool hq
    · intro s' mv
      have away : ∀ b u, sa.heap.get? b = some u → b ∉ [h3.objs.size, sa.heap.objs.size] := by
        intro b u e hm
        have l := Heap.lt_size e
        rcases List.mem_cons.mp hm with z | z
        · rw [z] at l
          exact absurd (Nat.lt_of_lt_of_le l (Nat.le_of_succ_le ge2)) (Nat.lt_irrefl _)
        · rw [List.mem_singleton.mp z] at l
          exact Nat.lt_irrefl _ l
      have J := GxR.inv_tab (more := more) (h' := s'.heap) (g' := s'.gens) (d' := s'.drawn) (t' := s'.toks) Ia tP (fun b u n e => mv.heap b u (away b u e) (k5 b u (kp b u n e))) (mv.heap P _ (away P _ gP) (k5 P _ gP3)) (AllBare.movedS (Ia.bare.push bare) mv)
      rw [GxR.sh_eta sa s' mv.os] at J
      refine ⟨.bl _, _, J, rfl, ?_⟩
      rw [GxR.all_signs a pb]
      exact q _ ⟨⟨_, upd_same, ok3⟩, fun b n => upd_ne n⟩
end
end RG

namespace RR
open PySem L2

/-! ### heaps: what is known stays; the tables of code objects may grow -/
def Gr (H H' : Hp) : Prop := ∀ a o, H a = some o → H' a = some o ∨ ∃ ps qs, o = HO.tbl ps ∧ H' a = some (.tbl qs) ∧ (TriplesOk ps.toList → TriplesOk qs.toList)
namespace Gr
theorem refl (H : Hp) : Gr H H := fun _ _ h => .inl h
theorem trans {H H1 H2 : Hp} (x : Gr H H1) (y : Gr H1 H2) : Gr H H2 := by
  intro a o h
  rcases x a o h with h1 | ⟨ps, qs, rfl, h1, t1⟩
  · exact y a o h1
  · rcases y a _ h1 with h2 | ⟨ps', qs', e, h2, t2⟩
    · exact .inr ⟨ps, qs, rfl, h2, t1⟩
    · cases e
      exact .inr ⟨ps, qs', rfl, h2, fun t => t2 (t1 t)⟩
theorem new {H : Hp} {p : Addr} {o : HO} (hp : H p = none) : Gr H (upd H p o) := fun a u h => .inl ((upd_ne (ne_of_none h hp)).trans h)
theorem chg {H H' : Hp} {p : Addr} {o : HO} (x : Gr H H') (hp : H p = none) : Gr H (upd H' p o) := by
  intro a u h
  have n : a ≠ p := ne_of_none h hp
  rcases x a u h with h1 | ⟨ps, qs, e, h1, t1⟩
  · exact .inl ((upd_ne n).trans h1)
  · exact .inr ⟨ps, qs, e, (upd_ne n).trans h1, t1⟩
theorem at_ {H H' : Hp} {a : Addr} {o : HO} (x : Gr H H') (h : H a = some o) (n : ∀ ps, o ≠ .tbl ps) : H' a = some o := by
  rcases x a o h with h1 | ⟨ps, _, e, _⟩
  · exact h1
  · exact absurd e (n ps)
theorem lst {H H' : Hp} {a : Addr} {xs : List V} (x : Gr H H') (h : H a = some (.lst xs)) : H' a = some (.lst xs) := x.at_ h fun _ e => by cases e
theorem tup {H H' : Hp} {a : Addr} {xs : List V} (x : Gr H H') (h : H a = some (.tup xs)) : H' a = some (.tup xs) := x.at_ h fun _ e => by cases e
theorem ins {H H' : Hp} {a C d : Addr} {fs : List (Str × V)} (x : Gr H H') (h : H a = some (.ins C d fs)) : H' a = some (.ins C d fs) := x.at_ h fun _ e => by cases e
theorem free {H H' : Hp} {p : Addr} (x : Gr H H') (h : H' p = none) : H p = none := by
  cases q : H p with
  | none => rfl
  | some o =>
    rcases x p o q with h1 | ⟨_, _, _, h1, _⟩ <;> (rw [h] at h1; cases h1)
theorem rd {H H' : Hp} {a : Addr} {u : HO} (x : Gr H H') (h : Rd H a u) (n : ∀ ps, u ≠ .tbl ps) : Rd H' a u := by
  rcases h with h | ⟨o, h⟩
  · exact .inl (x.at_ h n)
  · exact .inr ⟨o, x.at_ h fun _ e => by cases e⟩
theorem sl {K : PySem.W.Frag} {H H' : Hp} {a : Addr} {xs : List V} (x : Gr H H') (h : SqL K H a xs) : SqL K H' a xs := by
  rcases h with h | h
  · exact .inl (x.rd h fun _ e => by cases e)
  · exact .inr h
theorem st {K : PySem.W.Frag} {H H' : Hp} {a : Addr} {xs : List V} (x : Gr H H') (h : SqT K H a xs) : SqT K H' a xs := by
  rcases h with h | h
  · exact .inl (x.rd h fun _ e => by cases e)
  · exact .inr h
theorem tab {H H' : Hp} {P : Addr} (x : Gr H H') (h : GxR.TabG H P) : GxR.TabG H' P := by
  obtain ⟨ps, h, t⟩ := h
  rcases x P _ h with h1 | ⟨ps', qs, e, h1, t1⟩
  · exact ⟨ps, h1, t⟩
  · cases e
    exact ⟨qs, h1, t1 t⟩
theorem ofTab {H H' : Hp} {P : Addr} (h : GxR.TabG H P) (g : GxR.Tabbed P H H') : Gr H H' := by
  obtain ⟨⟨qs, h1, t1⟩, oth⟩ := g
  intro a o ha
  by_cases e : a = P
  · subst e
    obtain ⟨ps, h0, t0⟩ := h
    rw [h0] at ha
    cases ha
    exact .inr ⟨ps, qs, rfl, h1, fun _ => t1⟩
  · exact .inl ((oth a e).trans ha)
end Gr
mutual
theorem Gr.dp {K : PySem.W.Frag} {H H' : Hp} (x : Gr H H') : ∀ {v : V} {d : PyData}, Dp K H v d → Dp K H' v d
  | _, _, .non => .non
  | _, _, .bl b => .bl b
  | _, _, .int i => .int i
  | _, _, .str z => .str z
  | _, _, .lst s h => .lst (x.sl s) (Gr.dps x h)
  | _, _, .tup s h => .tup (x.st s) (Gr.dps x h)
theorem Gr.dps {K : PySem.W.Frag} {H H' : Hp} (x : Gr H H') : ∀ {vs : List V} {ds : List PyData}, DpAll K H vs ds → DpAll K H' vs ds
  | _, _, .nil => .nil
  | _, _, .cons h t => .cons (Gr.dp x h) (Gr.dps x t)
end

/-! ### what a reading gives, whatever grew meanwhile -/
def Vl (te : TE) (σ : L2.St) (H : Hp) (v : V) : Prop := ∀ (H1 : Hp) (Q : VK), Gr H H1 → (∀ H2, Gr H1 H2 → Q v H2) → te σ H1 Q
def Ls (te : TE) (σ : L2.St) (H : Hp) (xs : List V) : Prop := ∀ (H1 : Hp) (Q : VK), Gr H H1 → (∀ p H2, H1 p = none → Gr H1 H2 → H2 p = some (.lst xs) → Q (.ref p) H2) → te σ H1 Q
def Tu (te : TE) (σ : L2.St) (H : Hp) (xs : List V) : Prop := ∀ (H1 : Hp) (Q : VK), Gr H H1 → (∀ p H2, H1 p = none → Gr H1 H2 → H2 p = some (.tup xs) → Q (.ref p) H2) → te σ H1 Q
def Ts (tt : TT) (σ : L2.St) (H : Hp) (b : Bool) : Prop := ∀ (H1 : Hp) (Q : Bool → Hp → Prop), Gr H H1 → (∀ H2, Gr H1 H2 → Q b H2) → tt σ H1 Q
def Ag (ta : TA) (σ : L2.St) (H : Hp) (vs : List V) : Prop := ∀ (H1 : Hp) (Q : List V → Hp → Prop), Gr H H1 → (∀ H2, Gr H1 H2 → Q vs H2) → ta σ H1 Q
/-- any value of which R holds (data, say) -/
def Vr (te : TE) (σ : L2.St) (H : Hp) (R : V → Hp → Prop) : Prop := ∀ (H1 : Hp) (Q : VK), Gr H H1 → (∀ v H2, Gr H1 H2 → R v H2 → Q v H2) → te σ H1 Q
def Ar (ta : TA) (σ : L2.St) (H : Hp) (R : List V → Hp → Prop) : Prop := ∀ (H1 : Hp) (Q : List V → Hp → Prop), Gr H H1 → (∀ vs H2, Gr H1 H2 → R vs H2 → Q vs H2) → ta σ H1 Q
def Bi (r : R2) (x y : V) (H : Hp) (z : V) : Prop := ∀ (H1 : Hp) (Q : VK), Gr H H1 → (∀ H2, Gr H1 H2 → Q z H2) → r x y H1 Q
def SpV (sp : Sp) (vs : List V) (H : Hp) (z : V) : Prop := ∀ (H1 : Hp) (Q : VK) (E : XK), Gr H H1 → (∀ H2, Gr H1 H2 → Q z H2) → sp vs H1 Q E
def SpL (sp : Sp) (vs : List V) (H : Hp) (xs : List V) : Prop := ∀ (H1 : Hp) (Q : VK) (E : XK), Gr H H1 → (∀ p H2, H1 p = none → Gr H1 H2 → H2 p = some (.lst xs) → Q (.ref p) H2) → sp vs H1 Q E
def SpR (sp : Sp) (vs : List V) (H : Hp) (R : V → Hp → Prop) : Prop := ∀ (H1 : Hp) (Q : VK) (E : XK), Gr H H1 → (∀ v H2, Gr H1 H2 → R v H2 → Q v H2) → sp vs H1 Q E
/-- a promise's ways out: a value, a new list, anything of which R holds -/
def RV (v : V) (H : Hp) (Q : VK) : Prop := ∀ H2, Gr H H2 → Q v H2
def RL (xs : List V) (H : Hp) (Q : VK) : Prop := ∀ p H2, H p = none → Gr H H2 → H2 p = some (.lst xs) → Q (.ref p) H2
def RR_ (R : V → Hp → Prop) (H : Hp) (Q : VK) : Prop := ∀ v H2, Gr H H2 → R v H2 → Q v H2
theorem RV.mono {v : V} {H H' : Hp} {Q : VK} (k : RV v H Q) (e : Gr H H') : RV v H' Q := fun H2 e2 => k H2 (e.trans e2)
theorem RL.mono {xs : List V} {H H' : Hp} {Q : VK} (k : RL xs H Q) (e : Gr H H') : RL xs H' Q := fun p H2 hp e2 h => k p H2 (e.free hp) (e.trans e2) h
theorem RR_.mono {R : V → Hp → Prop} {H H' : Hp} {Q : VK} (k : RR_ R H Q) (e : Gr H H') : RR_ R H' Q := fun v H2 e2 h => k v H2 (e.trans e2) h
theorem small {n : Nat} (h : n ≤ 100000) : n ≤ sizeLine := Nat.le_trans h (by decide)
theorem small' {n : Nat} (h : n < 100000) : n < sizeLine := Nat.lt_of_lt_of_le h (by decide)

section
variable {K : PySem.W.Frag} {σ : L2.St} {H H' : Hp} {t1 t2 t3 : TE} {c1 c2 : TT} {x y z v : V} {r : R2} {b c : Bool}
theorem Vl.mono (h : Vl t1 σ H v) (e : Gr H H') : Vl t1 σ H' v := fun H1 Q g q => h H1 Q (e.trans g) q
theorem Ls.mono {xs : List V} (h : Ls t1 σ H xs) (e : Gr H H') : Ls t1 σ H' xs := fun H1 Q g q => h H1 Q (e.trans g) q
theorem Ts.mono (h : Ts c1 σ H b) (e : Gr H H') : Ts c1 σ H' b := fun H1 Q g q => h H1 Q (e.trans g) q
theorem Vl.toR (h : Vl t1 σ H v) : Vr t1 σ H (fun u _ => u = v) := fun H1 Q g q => h H1 Q g fun H2 g2 => q v H2 g2 rfl
theorem Ls.toR {xs : List V} (h : Ls t1 σ H xs) : Vr t1 σ H (fun u H2 => ∃ p, u = .ref p ∧ H2 p = some (.lst xs)) := fun H1 Q g q => h H1 Q g fun p H2 _ g2 e => q _ H2 g2 ⟨p, rfl, e⟩
theorem Vl.is (h : Vl t1 σ H x) (e : x = y) : Vl t1 σ H y := e ▸ h
theorem Ts.is (h : Ts c1 σ H b) (e : b = c) : Ts c1 σ H c := e ▸ h
theorem Ls.is {xs ys : List V} (h : Ls t1 σ H xs) (e : xs = ys) : Ls t1 σ H ys := e ▸ h
theorem v_slot {i : Nat} (h : σ[i]? = some (some v)) : Vl (tVar i) σ H v := fun H1 _ _ q => ⟨v, h, q H1 (.refl _)⟩
theorem v_con : Vl (tC v) σ H v := fun H1 _ _ q => q H1 (.refl _)
theorem v_op (a : Vl t1 σ H x) (d : Vl t2 σ H y) (o : Bi r x y H z) : Vl (tOp r t1 t2) σ H z := fun H1 Q g q =>
  a H1 _ g fun H2 g2 => d H2 _ (g.trans g2) fun H3 g3 => o H3 _ ((g.trans g2).trans g3) fun H4 g4 => q H4 ((g2.trans g3).trans g4)
/-- the first operand, the second: of any kind -/
theorem v_opR {R S : V → Hp → Prop} (a : Vr t1 σ H R) (mR : ∀ {v H1 H2}, Gr H1 H2 → R v H1 → R v H2) (d : ∀ x H1, Gr H H1 → R x H1 → Vr t2 σ H1 S) (o : ∀ x y H1, Gr H H1 → R x H1 → S y H1 → Bi r x y H1 z) : Vl (tOp r t1 t2) σ H z := fun H1 Q g q =>
  a H1 _ g fun x H2 g2 hx => d x H2 (g.trans g2) hx H2 _ (.refl _) fun y H3 g3 hy => o x y H3 ((g.trans g2).trans g3) (mR g3 hx) hy H3 _ (.refl _) fun H4 g4 => q H4 ((g2.trans g3).trans g4)
theorem r_op {R S : V → Hp → Prop} (a : Vl t1 σ H x) (d : Vr t2 σ H R) (o : ∀ y H1, Gr H H1 → R y H1 → ∃ z, (∀ H2, Gr H1 H2 → S z H2) ∧ Bi r x y H1 z) : Vr (tOp r t1 t2) σ H S := fun H1 Q g q =>
  a H1 _ g fun H2 g2 => d H2 _ (g.trans g2) fun y H3 g3 hy => by
    obtain ⟨z, hz, b⟩ := o y H3 ((g.trans g2).trans g3) hy
    exact b H3 _ (.refl _) fun H4 g4 => q z H4 ((g2.trans g3).trans g4) (hz H4 g4)
theorem r_opV {R S : V → Hp → Prop} (a : Vr t1 σ H R) (d : ∀ H1, Gr H H1 → Vl t2 σ H1 y) (o : ∀ x H1, Gr H H1 → R x H1 → ∃ z, (∀ H2, Gr H1 H2 → S z H2) ∧ Bi r x y H1 z) : Vr (tOp r t1 t2) σ H S := fun H1 Q g q =>
  a H1 _ g fun x H2 g2 hx => d H2 (g.trans g2) H2 _ (.refl _) fun H3 g3 => by
    obtain ⟨z, hz, b⟩ := o x H2 (g.trans g2) hx
    exact b H3 _ g3 fun H4 g4 => q z H4 ((g2.trans g3).trans g4) (hz H4 (g3.trans g4))
theorem v_opL {xs : List V} (a : Ls t1 σ H xs) (d : ∀ H1, Gr H H1 → Vl t2 σ H1 y) (o : ∀ p H1, H1 p = some (.lst xs) → Gr H H1 → Bi r (.ref p) y H1 z) : Vl (tOp r t1 t2) σ H z := fun H1 Q g q =>
  a H1 _ g fun p H2 _ g2 hp => d H2 (g.trans g2) H2 _ (.refl _) fun H3 g3 => o p H3 (g3.lst hp) ((g.trans g2).trans g3) H3 _ (.refl _) fun H4 g4 => q H4 ((g2.trans g3).trans g4)
theorem v_opN {xs : List V} (a : Vl t1 σ H x) (d : Ls t2 σ H xs) (o : ∀ p H1, H1 p = some (.lst xs) → Gr H H1 → Bi r x (.ref p) H1 z) : Vl (tOp r t1 t2) σ H z := fun H1 Q g q =>
  a H1 _ g fun H2 g2 => d H2 _ (g.trans g2) fun p H3 _ g3 hp => o p H3 hp ((g.trans g2).trans g3) H3 _ (.refl _) fun H4 g4 => q H4 ((g2.trans g3).trans g4)
theorem v_opU {xs : List V} (a : Vl t1 σ H x) (d : Tu t2 σ H xs) (o : ∀ p H1, H1 p = some (.tup xs) → Gr H H1 → Bi r x (.ref p) H1 z) : Vl (tOp r t1 t2) σ H z := fun H1 Q g q =>
  a H1 _ g fun H2 g2 => d H2 _ (g.trans g2) fun p H3 _ g3 hp => o p H3 hp ((g.trans g2).trans g3) H3 _ (.refl _) fun H4 g4 => q H4 ((g2.trans g3).trans g4)
theorem v_un {f : V → Hp → VK → Prop} (a : Vl t1 σ H x) (o : ∀ H1 (Q : VK), Gr H H1 → Q z H1 → f x H1 Q) : Vl (tUn f t1) σ H z := fun H1 Q g q =>
  a H1 _ g fun H2 g2 => o H2 _ (g.trans g2) (q H2 g2)
theorem bi_0 {f : Int → Int → V} {i j : Int} : Bi (rI0 f) (.int i) (.int j) H (f i j) := fun H1 _ _ q => ⟨i, j, rfl, rfl, q H1 (.refl _)⟩
theorem bi_C {C : Int → Int → Prop} {f : Int → Int → V} {i j : Int} (h : C i j) : Bi (rI C f) (.int i) (.int j) H (f i j) := fun H1 _ _ q => ⟨i, j, rfl, rfl, h, q H1 (.refl _)⟩
theorem bi_eq (h : scal x y = true) : Bi rEq x y H (.bl (decide (x = y))) := fun H1 _ _ q => ⟨h, q H1 (.refl _)⟩
theorem bi_ne (h : scal x y = true) : Bi rNe x y H (.bl (!decide (x = y))) := fun H1 _ _ q => ⟨h, q H1 (.refl _)⟩
theorem bi_ixL {p : Addr} {xs : List V} {i : Int} (s : SqL K H p xs) (h : atI xs i = some v) : Bi (rIxL K) (.ref p) (.int i) H v := fun H1 _ g q => ⟨p, xs, i, v, rfl, rfl, g.sl s, h, q H1 (.refl _)⟩
theorem bi_ixT {p : Addr} {xs : List V} {i : Int} (s : SqT K H p xs) (h : atI xs i = some v) : Bi (rIxT K) (.ref p) (.int i) H v := fun H1 _ g q => ⟨p, xs, i, v, rfl, rfl, g.st s, h, q H1 (.refl _)⟩
theorem bi_ixS {w : Str} {i : Int} {k : Nat} (s : w.length ≤ 100000) (h : atI w.cps.toList i = some k) : Bi rIxS (.str w) (.int i) H (.str ⟨#[k]⟩) := fun H1 _ _ q => ⟨w, i, k, rfl, rfl, small s, h, q H1 (.refl _)⟩
theorem bi_cat {u w : Str} (h : u.length + w.length ≤ 100000) : Bi (fun x y H Q => ∃ i j, x = .str i ∧ y = .str j ∧ i.length + j.length ≤ sizeLine ∧ Q (.str (i ++ j)) H) (.str u) (.str w) H (.str (u ++ w)) := fun H1 _ _ q => ⟨u, w, rfl, rfl, small h, q H1 (.refl _)⟩
theorem bi_isN : Bi (fun x y H Q => y = .non ∧ Q (.bl (decide (x = .non))) H) x .non H (.bl (decide (x = .non))) := fun H1 _ _ q => ⟨rfl, q H1 (.refl _)⟩
theorem bi_notN : Bi (fun x y H Q => y = .non ∧ Q (.bl (!decide (x = .non))) H) x .non H (.bl (!decide (x = .non))) := fun H1 _ _ q => ⟨rfl, q H1 (.refl _)⟩
theorem bi_inT {neg : Bool} {p : Addr} {xs : List V} (s : SqT K H p xs) (hx : flatV x = true) (ha : xs.all flatV = true) : Bi (rIn K neg) x (.ref p) H (.bl (if neg then !inV x xs else inV x xs)) := fun H1 _ g q => ⟨p, xs, rfl, .inr (g.st s), hx, ha, q H1 (.refl _)⟩
theorem bi_inL {neg : Bool} {p : Addr} {xs : List V} (s : SqL K H p xs) (hx : flatV x = true) (ha : xs.all flatV = true) : Bi (rIn K neg) x (.ref p) H (.bl (if neg then !inV x xs else inV x xs)) := fun H1 _ g q => ⟨p, xs, rfl, .inl (g.sl s), hx, ha, q H1 (.refl _)⟩
theorem bi_eqD {d e : PyData} (hx : Dp K H x d) (hy : Dp K H y e) (sd : SeqAt.shaped d = true) (se : SeqAt.shaped e = true) : Bi (rEqD K) x y H (.bl (PyData.eqv d e)) := fun H1 _ g q => ⟨d, e, g.dp hx, g.dp hy, sd, se, q H1 (.refl _)⟩
theorem bi_neD {d e : PyData} (hx : Dp K H x d) (hy : Dp K H y e) (sd : SeqAt.shaped d = true) (se : SeqAt.shaped e = true) : Bi (rNeD K) x y H (.bl (!PyData.eqv d e)) := fun H1 _ g q => ⟨d, e, g.dp hx, g.dp hy, sd, se, q H1 (.refl _)⟩

/-! #### tests -/
theorem s_test (h : Vl t1 σ H (.bl b)) : Ts (tTest t1) σ H b := fun H1 _ g q => h H1 _ g fun H2 g2 => ⟨b, rfl, q H2 g2⟩
theorem s_B (h : Vl t1 σ H (.bl b)) : Ts (tB t1) σ H b := fun H1 _ g q => h H1 _ g fun H2 g2 => ⟨b, rfl, q H2 g2⟩
theorem s_truB (h : Vl t1 σ H (.bl b)) : Ts (fun σ H Q => t1 σ H fun x H' => ∃ k, TruV K x H' k ∧ Q k H') σ H b := fun H1 _ g q => h H1 _ g fun H2 g2 => ⟨b, rfl, q H2 g2⟩
theorem s_truL {a : Addr} {xs : List V} (h : Vl t1 σ H (.ref a)) (s : SqL K H a xs) : Ts (fun σ H Q => t1 σ H fun x H' => ∃ k, TruV K x H' k ∧ Q k H') σ H (!xs.isEmpty) := fun H1 _ g q => h H1 _ g fun H2 g2 => ⟨_, .inl ⟨xs, (g.trans g2).sl s, rfl⟩, q H2 g2⟩
theorem s_not (h : Ts c1 σ H b) : Ts (tNot c1) σ H (!b) := fun H1 _ g q => h H1 _ g fun H2 g2 => q H2 g2
theorem s_and (h : Ts c1 σ H b) (k : b = true → Ts c2 σ H c) : Ts (tAnd c1 c2) σ H (b && c) := fun H1 Q g q => h H1 _ g fun H2 g2 => by
  cases b
  · exact iteF (q H2 g2)
  · exact iteT (k rfl H2 _ (g.trans g2) fun H3 g3 => q H3 (g2.trans g3))
theorem s_or (h : Ts c1 σ H b) (k : b = false → Ts c2 σ H c) : Ts (tOr c1 c2) σ H (b || c) := fun H1 Q g q => h H1 _ g fun H2 g2 => by
  cases b
  · exact iteF (k rfl H2 _ (g.trans g2) fun H3 g3 => q H3 (g2.trans g3))
  · exact iteT (q H2 g2)
theorem v_chain {r' : R2} (a : Vl t1 σ H x) (d : Vl t2 σ H y) (o : Bi r x y H (.bl b)) (k : b = true → Vl t3 σ H z) (o2 : b = true → Bi r' y z H (.bl c)) : Vl (tChain r r' t1 t2 t3) σ H (.bl (b && c)) := fun H1 Q g q =>
  a H1 _ g fun H2 g2 => d H2 _ (g.trans g2) fun H3 g3 => o H3 _ ((g.trans g2).trans g3) fun H4 g4 => ⟨b, rfl, by
    cases b
    · exact iteF (q H4 ((g2.trans g3).trans g4))
    · exact iteT (k rfl H4 _ (((g.trans g2).trans g3).trans g4) fun H5 g5 => o2 rfl H5 _ ((((g.trans g2).trans g3).trans g4).trans g5) fun H6 g6 => q H6 ((((g2.trans g3).trans g4).trans g5).trans g6))⟩
theorem v_and (h : Vl t1 σ H (.bl b)) (k : b = true → Vl t2 σ H (.bl c)) : Vl (tAndV t1 t2) σ H (.bl (b && c)) := fun H1 Q g q => h H1 _ g fun H2 g2 => ⟨b, rfl, by
  cases b
  · exact iteF (q H2 g2)
  · exact iteT (k rfl H2 _ (g.trans g2) fun H3 g3 => q H3 (g2.trans g3))⟩
theorem v_or (h : Vl t1 σ H (.bl b)) (k : b = false → Vl t2 σ H (.bl c)) : Vl (tOrV t1 t2) σ H (.bl (b || c)) := fun H1 Q g q => h H1 _ g fun H2 g2 => ⟨b, rfl, by
  cases b
  · exact iteF (k rfl H2 _ (g.trans g2) fun H3 g3 => q H3 (g2.trans g3))
  · exact iteT (q H2 g2)⟩
theorem v_not (h : Vl t1 σ H (.bl b)) : Vl (tNotV t1) σ H (.bl (!b)) := fun H1 _ g q => h H1 _ g fun H2 g2 => ⟨b, rfl, q H2 g2⟩
theorem v_if (h : Ts c1 σ H b) (k1 : b = true → Vl t1 σ H v) (k2 : b = false → Vl t2 σ H v) : Vl (tIf c1 t1 t2) σ H v := fun H1 Q g q => h H1 _ g fun H2 g2 => by
  cases b
  · exact iteF (k2 rfl H2 _ (g.trans g2) fun H3 g3 => q H3 (g2.trans g3))
  · exact iteT (k1 rfl H2 _ (g.trans g2) fun H3 g3 => q H3 (g2.trans g3))

/-! #### arguments, calls, new objects -/
variable {a1 : TA} {vs xs : List V}
theorem g_nil : Ag tNil σ H [] := fun H1 _ _ q => q H1 (.refl _)
theorem g_cons (h : Vl t1 σ H x) (k : Ag a1 σ H vs) : Ag (tCons t1 a1) σ H (x :: vs) := fun H1 _ g q => h H1 _ g fun H2 g2 => k H2 _ (g.trans g2) fun H3 g3 => q H3 (g2.trans g3)
theorem l_lst (h : Ag a1 σ H vs) (n : vs.length ≤ 100000) : Ls (tLst a1) σ H vs := fun H1 _ g q => h H1 _ g fun H2 g2 => ⟨small n, fun p hp => q p _ (g2.free hp) (g2.trans (.new hp)) upd_same⟩
theorem u_tup (h : Ag a1 σ H vs) (n : vs.length ≤ 100000) : Tu (tTup a1) σ H vs := fun H1 _ g q => h H1 _ g fun H2 g2 => ⟨small n, fun p hp => q p _ (g2.free hp) (g2.trans (.new hp)) upd_same⟩
theorem v_call {sp : Sp} {ds : List V} {E : XK} (h : Ag a1 σ H vs) (k : SpV sp (vs ++ ds) H z) : Vl (tCall sp ds E a1) σ H z := fun H1 _ g q => h H1 _ g fun H2 g2 => k H2 _ _ (g.trans g2) fun H3 g3 => q H3 (g2.trans g3)
theorem l_call {sp : Sp} {ds : List V} {E : XK} (h : Ag a1 σ H vs) (k : SpL sp (vs ++ ds) H xs) : Ls (tCall sp ds E a1) σ H xs := fun H1 _ g q => h H1 _ g fun H2 g2 => k H2 _ _ (g.trans g2) fun p H3 hp g3 e => q p H3 (g2.free hp) (g2.trans g3) e
theorem r_call {sp : Sp} {ds : List V} {E : XK} {R : V → Hp → Prop} (h : Ag a1 σ H vs) (k : SpR sp (vs ++ ds) H R) : Vr (tCall sp ds E a1) σ H R := fun H1 _ g q => h H1 _ g fun H2 g2 => k H2 _ _ (g.trans g2) fun v H3 g3 e => q v H3 (g2.trans g3) e
/-- a built-in's call, by its reading -/
theorem v_blt {f : List V → Hp → VK → Prop} (h : Ag a1 σ H vs) (k : ∀ H1 (Q : VK), Gr H H1 → (∀ H2, Gr H1 H2 → Q z H2) → f vs H1 Q) : Vl (tCB f a1) σ H z := fun H1 _ g q => h H1 _ g fun H2 g2 => k H2 _ (g.trans g2) fun H3 g3 => q H3 (g2.trans g3)
theorem l_blt {f : List V → Hp → VK → Prop} (h : Ag a1 σ H vs) (k : ∀ H1 (Q : VK), Gr H H1 → (∀ p H2, H1 p = none → Gr H1 H2 → H2 p = some (.lst xs) → Q (.ref p) H2) → f vs H1 Q) : Ls (tCB f a1) σ H xs := fun H1 _ g q => h H1 _ g fun H2 g2 => k H2 _ (g.trans g2) fun p H3 hp g3 e => q p H3 (g2.free hp) (g2.trans g3) e
abbrev fLen (K : PySem.W.Frag) : List V → Hp → VK → Prop := fun xs H Q => ∃ p ys, xs = [.ref p] ∧ (SqL K H p ys ∨ SqT K H p ys) ∧ Q (.int ys.length) H
theorem v_len {p : Addr} {xs : List V} (h : Vl t1 σ H (.ref p)) (s : SqL K H p xs) : Vl (tCB (fLen K) (tCons t1 tNil)) σ H (.int xs.length) := v_blt (g_cons h g_nil) fun H1 _ g q => ⟨p, xs, rfl, .inl (g.sl s), q H1 (.refl _)⟩
theorem v_lenS {w : Str} (h : Vl t1 σ H (.str w)) (s : w.length ≤ 100000) : Vl (tCB (fun xs H Q => ∃ z, xs = [.str z] ∧ z.length ≤ sizeLine ∧ Q (.int z.length) H) (tCons t1 tNil)) σ H (.int w.length) := v_blt (g_cons h g_nil) fun H1 _ _ q => ⟨w, rfl, small s, q H1 (.refl _)⟩
theorem v_isi {w : V} {u t : Value} (h : Vl t1 σ H x) (h2 : Vl t2 σ H w) (k : ClsV w u) (ty : ∀ H1, Gr H H1 → TyX K H1 x t) (e : PySem.W.kitOne K t u = some b) : Vl (tCB (rIsi K) (tCons t1 (tCons t2 tNil))) σ H (.bl b) := v_blt (g_cons h (g_cons h2 g_nil)) fun H1 _ g q => ⟨x, w, t, u, b, rfl, k, ty H1 g, e, q H1 (.refl _)⟩
theorem v_isbB (h : Vl t1 σ H (.bl b)) : Vl (tCB (rIsi K) (tCons t1 (tCons (tC (.ty "bool")) tNil))) σ H (.bl true) := v_isi h v_con (.ty _) (fun _ _ => .base (.bl b)) (kit_ty (by decide +kernel))
theorem v_isiI {i : Int} (h : Vl t1 σ H (.int i)) : Vl (tCB (rIsi K) (tCons t1 (tCons (tC (.ty "int")) tNil))) σ H (.bl true) := v_isi h v_con (.ty _) (fun _ _ => .base (.int i)) (kit_ty (by decide +kernel))
theorem v_isbI {i : Int} (h : Vl t1 σ H (.int i)) : Vl (tCB (rIsi K) (tCons t1 (tCons (tC (.ty "bool")) tNil))) σ H (.bl false) := v_isi h v_con (.ty _) (fun _ _ => .base (.int i)) (kit_ty (by decide +kernel))
theorem v_isiN (h : Vl t1 σ H .non) : Vl (tCB (rIsi K) (tCons t1 (tCons (tC (.ty "int")) tNil))) σ H (.bl false) := v_isi h v_con (.ty _) (fun _ _ => .base .non) (kit_ty (by decide +kernel))
theorem v_issS {w : Str} (h : Vl t1 σ H (.str w)) : Vl (tCB (rIsi K) (tCons t1 (tCons (tC (.ty "str")) tNil))) σ H (.bl true) := v_isi h v_con (.ty _) (fun _ _ => .base (.str w)) (kit_ty (by decide +kernel))
theorem v_max {i j : Int} (h : Vl t1 σ H (.int i)) (h2 : Vl t2 σ H (.int j)) : Vl (tCB (fun xs H Q => ∃ i j, xs = [.int i, .int j] ∧ Q (.int (if j > i then j else i)) H) (tCons t1 (tCons t2 tNil))) σ H (.int (if j > i then j else i)) := v_blt (g_cons h (g_cons h2 g_nil)) fun H1 _ _ q => ⟨i, j, rfl, q H1 (.refl _)⟩
theorem v_min {i j : Int} (h : Vl t1 σ H (.int i)) (h2 : Vl t2 σ H (.int j)) : Vl (tCB (fun xs H Q => ∃ i j, xs = [.int i, .int j] ∧ Q (.int (if j < i then j else i)) H) (tCons t1 (tCons t2 tNil))) σ H (.int (if j < i then j else i)) := v_blt (g_cons h (g_cons h2 g_nil)) fun H1 _ _ q => ⟨i, j, rfl, q H1 (.refl _)⟩
theorem v_str {i : Int} (h : Vl t1 σ H (.int i)) (n : i.natAbs.log2 < 1920) : Vl (tCB (fun xs H Q => ∃ i, xs = [.int i] ∧ i.natAbs.log2 < 1920 ∧ Q (.str (toString i)) H) (tCons t1 tNil)) σ H (.str (toString i)) := v_blt (g_cons h g_nil) fun H1 _ _ q => ⟨i, rfl, n, q H1 (.refl _)⟩
theorem v_intB (h : Vl t1 σ H (.bl b)) : Vl (tCB (fun xs H Q => (∃ i, xs = [.int i] ∧ Q (.int i) H) ∨ ∃ k, xs = [.bl k] ∧ Q (.int (if k then 1 else 0)) H) (tCons t1 tNil)) σ H (.int (if b then 1 else 0)) := v_blt (g_cons h g_nil) fun H1 _ _ q => .inr ⟨b, rfl, q H1 (.refl _)⟩
theorem l_list {p : Addr} {xs : List V} (h : Vl t1 σ H (.ref p)) (s : SqL K H p xs) : Ls (tCB (fun xs H Q => ∃ p ys, xs = [.ref p] ∧ (SqL K H p ys ∨ SqT K H p ys) ∧ ∀ l, H l = none → Q (.ref l) (upd H l (.lst ys))) (tCons t1 tNil)) σ H xs :=
  l_blt (g_cons h g_nil) fun _ _ g q => ⟨p, xs, rfl, .inl (g.sl s), fun l hl => q l _ hl (.new hl) upd_same⟩
/-- slices -/
def Pt (to : TO) (σ : L2.St) (H : Hp) (o : Option Int) : Prop := ∀ (H1 : Hp) (Q : Option Int → Hp → Prop), Gr H H1 → (∀ H2, Gr H1 H2 → Q o H2) → to σ H1 Q
theorem p_no : Pt tNoPart σ H none := fun H1 _ _ q => q H1 (.refl _)
theorem p_int {i : Int} (h : Vl t1 σ H (.int i)) : Pt (tPart t1) σ H (some i) := fun H1 _ g q => h H1 _ g fun H2 g2 => ⟨i, rfl, q H2 g2⟩
theorem l_slice {tl th : TO} {a : Addr} {xs : List V} {lo hi : Option Int} (h : Vl t1 σ H (.ref a)) (h1 : Pt tl σ H lo) (h2 : Pt th σ H hi) (s : SqL K H a xs) : Ls (tSl (rSlL K) t1 tl th) σ H (cutV xs lo hi) := fun H1 _ g q =>
  h H1 _ g fun H2 g2 => h1 H2 _ (g.trans g2) fun H3 g3 => h2 H3 _ ((g.trans g2).trans g3) fun H4 g4 => ⟨a, xs, rfl, (((g.trans g2).trans g3).trans g4).sl s, fun p hp => q p _ (((g2.trans g3).trans g4).free hp) (((g2.trans g3).trans g4).trans (.new hp)) upd_same⟩

/-! #### statements; S..: the last one, B..: something behind it -/
variable {D : Ends} {u1 u2 u3 : TS} {g1 : TG} {i : Nat}
theorem S_ret (h : Vl t1 σ H v) (k : ∀ H1, Gr H H1 → D.rt v H1) : tRet t1 D σ H := h H _ (.refl _) k
theorem S_retL (h : Ls t1 σ H xs) (k : ∀ p H1, H p = none → Gr H H1 → H1 p = some (.lst xs) → D.rt (.ref p) H1) : tRet t1 D σ H := h H _ (.refl _) k
theorem S_retR {R : V → Hp → Prop} (h : Vr t1 σ H R) (k : ∀ v H1, Gr H H1 → R v H1 → D.rt v H1) : tRet t1 D σ H := h H _ (.refl _) k
theorem S_set (h : Vl t1 σ H v) (k : ∀ H1, Gr H H1 → D.nx (σ.set i (some v)) H1) : tAsg t1 (gName i) D σ H := h H _ (.refl _) k
theorem S_setL (h : Ls t1 σ H xs) (k : ∀ p H1, H p = none → Gr H H1 → H1 p = some (.lst xs) → D.nx (σ.set i (some (.ref p))) H1) : tAsg t1 (gName i) D σ H := h H _ (.refl _) k
theorem S_setU (h : Tu t1 σ H xs) (k : ∀ p H1, H p = none → Gr H H1 → H1 p = some (.tup xs) → D.nx (σ.set i (some (.ref p))) H1) : tAsg t1 (gName i) D σ H := h H _ (.refl _) k
theorem S_setR {R : V → Hp → Prop} (h : Vr t1 σ H R) (k : ∀ v H1, Gr H H1 → R v H1 → D.nx (σ.set i (some v)) H1) : tAsg t1 (gName i) D σ H := h H _ (.refl _) k
theorem S_drop (h : Vl t1 σ H v) (k : ∀ H1, Gr H H1 → D.nx σ H1) : tDrop t1 D σ H := h H _ (.refl _) k
theorem S_if (h : Ts c1 σ H b) (k1 : b = true → ∀ H1, Gr H H1 → u1 D σ H1) (k2 : b = false → ∀ H1, Gr H H1 → u2 D σ H1) : tIfS c1 u1 u2 D σ H := h H _ (.refl _) fun H1 g => by
  cases b
  · exact iteF (k2 rfl H1 g)
  · exact iteT (k1 rfl H1 g)
theorem B_set (h : Vl t1 σ H v) (k : ∀ H1, Gr H H1 → u1 D (σ.set i (some v)) H1) : tSeq (tAsg t1 (gName i)) u1 D σ H := S_set (D := { D with nx := u1 D }) h k
theorem B_setL (h : Ls t1 σ H xs) (k : ∀ p H1, H p = none → Gr H H1 → H1 p = some (.lst xs) → u1 D (σ.set i (some (.ref p))) H1) : tSeq (tAsg t1 (gName i)) u1 D σ H := S_setL (D := { D with nx := u1 D }) h k
theorem B_setU (h : Tu t1 σ H xs) (k : ∀ p H1, H p = none → Gr H H1 → H1 p = some (.tup xs) → u1 D (σ.set i (some (.ref p))) H1) : tSeq (tAsg t1 (gName i)) u1 D σ H := S_setU (D := { D with nx := u1 D }) h k
theorem B_setR {R : V → Hp → Prop} (h : Vr t1 σ H R) (k : ∀ v H1, Gr H H1 → R v H1 → u1 D (σ.set i (some v)) H1) : tSeq (tAsg t1 (gName i)) u1 D σ H := S_setR (D := { D with nx := u1 D }) h k
theorem B_drop (h : Vl t1 σ H v) (k : ∀ H1, Gr H H1 → u1 D σ H1) : tSeq (tDrop t1) u1 D σ H := S_drop (D := { D with nx := u1 D }) h k
theorem B_if (h : Ts c1 σ H b) (k1 : b = true → ∀ H1, Gr H H1 → u1 { D with nx := u3 D } σ H1) (k2 : b = false → ∀ H1, Gr H H1 → u2 { D with nx := u3 D } σ H1) : tSeq (tIfS c1 u1 u2) u3 D σ H := S_if (D := { D with nx := u3 D }) h k1 k2
theorem B_when (h : Ts c1 σ H b) (k1 : b = true → ∀ H1, Gr H H1 → u1 { D with nx := u3 D } σ H1) (k2 : b = false → ∀ H1, Gr H H1 → u3 D σ H1) : tSeq (tIfS c1 u1 tNext) u3 D σ H := S_if (D := { D with nx := u3 D }) h k1 k2
theorem S_when (h : Ts c1 σ H b) (k1 : b = true → ∀ H1, Gr H H1 → u1 D σ H1) (k2 : b = false → ∀ H1, Gr H H1 → D.nx σ H1) : tIfS c1 u1 tNext D σ H := S_if h k1 k2
/-- a slot set anew in an if without else, told by what it holds behind -/
theorem S_whenSet (h : Ts c1 σ H b) (hy : σ[i]? = some (some y)) (k1 : b = true → Vl t1 σ H v) (hv : b = false → v = y) (k : ∀ H1, Gr H H1 → D.nx (σ.set i (some v)) H1) : tIfS c1 (tAsg t1 (gName i)) tNext D σ H :=
  S_when h (fun hb H1 g => S_set ((k1 hb).mono g) fun H2 g2 => k H2 (g.trans g2)) fun hb H1 g => by
    obtain ⟨hi, e2⟩ := List.getElem?_eq_some_iff.mp hy
    have h2 := k H1 g
    rw [hv hb, ← e2, List.set_getElem_self hi] at h2
    exact h2
theorem B_whenSet (h : Ts c1 σ H b) (hy : σ[i]? = some (some y)) (k1 : b = true → Vl t1 σ H v) (hv : b = false → v = y) (k : ∀ H1, Gr H H1 → u3 D (σ.set i (some v)) H1) : tSeq (tIfS c1 (tAsg t1 (gName i)) tNext) u3 D σ H := S_whenSet (D := { D with nx := u3 D }) h hy k1 hv k
theorem B_whenInt {m n : Int} (h : Ts c1 σ H b) (hy : σ[i]? = some (some (.int n))) (k1 : Vl t1 σ H (.int m)) (k : ∀ H1, Gr H H1 → u3 D (σ.set i (some (.int (if b = true then m else n)))) H1) : tSeq (tIfS c1 (tAsg t1 (gName i)) tNext) u3 D σ H :=
  B_whenSet h hy (fun hb => k1.is (by rw [if_pos hb])) (fun hb => by rw [if_neg (by rw [hb]; exact Bool.false_ne_true)]) k
theorem B_cut {M : L2.St → Hp → Prop} (h : u1 { D with nx := M } σ H) (k : ∀ σ' H', M σ' H' → u2 D σ' H') : Evl.tCut u1 u2 D σ H := ⟨M, h, k⟩
/-- xs.append(e), the list known by its place -/
theorem S_app {l : Addr} {xs : List V} (hl : H l = some (.lst xs)) (a : Vl t1 σ H (.ref l)) (h : Vl t2 σ H v) (n : xs.length < 100000) (k : ∀ H1, Gr H H1 → D.nx σ (upd H1 l (.lst (xs ++ [v])))) : tDrop (tBM K "list" rAppend t1 (tCons t2 tNil)) D σ H := a H _ (.refl _) fun H1 g =>
  ⟨.inl ⟨rfl, xs, SqL.of (g.lst hl)⟩, h H1 _ g fun H2 g2 => ⟨l, xs, v, rfl, rfl, g2.lst (g.lst hl), small' n, k H2 (g.trans g2)⟩⟩
theorem S_appU {l : Addr} {xs ys : List V} (hl : H l = some (.lst xs)) (a : Vl t1 σ H (.ref l)) (h : Tu t2 σ H ys) (n : xs.length < 100000) (k : ∀ p H1, H p = none → Gr H H1 → H1 p = some (.tup ys) → D.nx σ (upd H1 l (.lst (xs ++ [.ref p])))) : tDrop (tBM K "list" rAppend t1 (tCons t2 tNil)) D σ H := a H _ (.refl _) fun H1 g =>
  ⟨.inl ⟨rfl, xs, SqL.of (g.lst hl)⟩, h H1 _ g fun p H2 hp g2 e => ⟨l, xs, .ref p, rfl, rfl, g2.lst (g.lst hl), small' n, k p H2 (g.free hp) (g.trans g2) e⟩⟩

theorem B_appU {l : Addr} {xs ys : List V} (hl : H l = some (.lst xs)) (a : Vl t1 σ H (.ref l)) (h : Tu t2 σ H ys) (n : xs.length < 100000) (k : ∀ p H1, H p = none → Gr H H1 → H1 p = some (.tup ys) → u1 D σ (upd H1 l (.lst (xs ++ [.ref p])))) : tSeq (tDrop (tBM K "list" rAppend t1 (tCons t2 tNil))) u1 D σ H := S_appU (D := { D with nx := u1 D }) hl a h n k
theorem B_app {l : Addr} {xs : List V} (hl : H l = some (.lst xs)) (a : Vl t1 σ H (.ref l)) (h : Vl t2 σ H v) (n : xs.length < 100000) (k : ∀ H1, Gr H H1 → u1 D σ (upd H1 l (.lst (xs ++ [v])))) : tSeq (tDrop (tBM K "list" rAppend t1 (tCons t2 tNil))) u1 D σ H := S_app (D := { D with nx := u1 D }) hl a h n k

/-! #### loops -/
theorem S_for1 {j : Nat} {n : Int} (h : Ag a1 σ H [.int n]) (hn : 0 ≤ n ∧ n ≤ 100000) (Pv : Nat → L2.St → Hp → Prop) (h0 : ∀ H1, Gr H H1 → Pv 0 σ H1)
    (hs : ∀ (m : Nat) σ' H', (m : Int) < n → Pv m σ' H' → u1 { D with nx := Pv (m + 1), ct := Pv (m + 1), bk := D.nx } (σ'.set j (some (.int (m : Int)))) H') (hd : ∀ σ' H', Pv n.toNat σ' H' → D.nx σ' H') : tFor (iRng1 a1) (gName j) u1 D σ H :=
  h H _ (.refl _) fun H1 g => ⟨n, rfl, by omega, by omega, for_range (lo := 0) (n := n.toNat) Pv (h0 H1 g) (fun m σ' H' hm p => by
    have q := hs m σ' H' (by omega) p
    rw [← Int.zero_add (m : Int)] at q
    exact q) hd⟩
theorem B_for1 {j : Nat} {n : Int} (h : Ag a1 σ H [.int n]) (hn : 0 ≤ n ∧ n ≤ 100000) (Pv : Nat → L2.St → Hp → Prop) (h0 : ∀ H1, Gr H H1 → Pv 0 σ H1)
    (hs : ∀ (m : Nat) σ' H', (m : Int) < n → Pv m σ' H' → u1 { D with nx := Pv (m + 1), ct := Pv (m + 1), bk := u2 D } (σ'.set j (some (.int (m : Int)))) H') (hd : ∀ σ' H', Pv n.toNat σ' H' → u2 D σ' H') : tSeq (tFor (iRng1 a1) (gName j) u1) u2 D σ H :=
  S_for1 (D := { D with nx := u2 D }) h hn Pv h0 hs hd
theorem S_forL {a : Addr} {xs : List V} (h : Vl t1 σ H (.ref a)) (s : SqL K H a xs) (Pv : Nat → L2.St → Hp → Prop) (h0 : ∀ H1, Gr H H1 → Pv 0 σ H1) (hl : ∀ m σ' H', m ≤ xs.length → Pv m σ' H' → SqL K H' a xs)
    (hs : ∀ m x σ' H', xs[m]? = some x → Pv m σ' H' → g1 x σ' H' fun σ2 H2 => u1 { D with nx := Pv (m + 1), ct := Pv (m + 1), bk := D.nx } σ2 H2) (hd : ∀ σ' H', Pv xs.length σ' H' → D.nx σ' H') : tFor (iList K t1) g1 u1 D σ H :=
  h H _ (.refl _) fun H1 g => ⟨a, rfl, ⟨xs, g.sl s⟩, for_list Pv (h0 H1 g) hl hs hd⟩
theorem B_forL {a : Addr} {xs : List V} (h : Vl t1 σ H (.ref a)) (s : SqL K H a xs) (Pv : Nat → L2.St → Hp → Prop) (h0 : ∀ H1, Gr H H1 → Pv 0 σ H1) (hl : ∀ m σ' H', m ≤ xs.length → Pv m σ' H' → SqL K H' a xs)
    (hs : ∀ m x σ' H', xs[m]? = some x → Pv m σ' H' → g1 x σ' H' fun σ2 H2 => u1 { D with nx := Pv (m + 1), ct := Pv (m + 1), bk := u2 D } σ2 H2) (hd : ∀ σ' H', Pv xs.length σ' H' → u2 D σ' H') : tSeq (tFor (iList K t1) g1 u1) u2 D σ H :=
  S_forL (D := { D with nx := u2 D }) h s Pv h0 hl hs hd
theorem S_while (W : Nat → L2.St → Hp → Prop) (m0 : Nat) (h0 : W m0 σ H)
    (hs : ∀ m σ' H', W m σ' H' → ∃ b, Ts c1 σ' H' b ∧ (b = true → ∀ H1, Gr H' H1 → ∃ N : L2.St → Hp → Prop, (∀ σ2 H2, N σ2 H2 → ∃ m', m' < m ∧ W m' σ2 H2) ∧ u1 { D with nx := N, ct := N, bk := D.nx } σ' H1) ∧ (b = false → ∀ H1, Gr H' H1 → D.nx σ' H1)) : tWhile c1 u1 D σ H :=
  ⟨W, ⟨m0, h0⟩, fun m σ' H' hw => by
    obtain ⟨b, hb, y1, n1⟩ := hs m σ' H' hw
    refine hb H' _ (.refl _) fun H1 g => ?_
    cases b
    · exact n1 rfl H1 g
    · exact y1 rfl H1 g⟩
theorem B_while (W : Nat → L2.St → Hp → Prop) (m0 : Nat) (h0 : W m0 σ H)
    (hs : ∀ m σ' H', W m σ' H' → ∃ b, Ts c1 σ' H' b ∧ (b = true → ∀ H1, Gr H' H1 → ∃ N : L2.St → Hp → Prop, (∀ σ2 H2, N σ2 H2 → ∃ m', m' < m ∧ W m' σ2 H2) ∧ u1 { D with nx := N, ct := N, bk := u2 D } σ' H1) ∧ (b = false → ∀ H1, Gr H' H1 → u2 D σ' H1)) : tSeq (tWhile c1 u1) u2 D σ H :=
  S_while (D := { D with nx := u2 D }) W m0 h0 hs

/-! #### comprehensions: the turns that give, and what they give -/
def out (n : Nat) (f : Nat → Bool) (val : Nat → V) : List V := ((List.range n).filter f).map val
theorem out_succ (n : Nat) (f : Nat → Bool) (val : Nat → V) : out (n + 1) f val = out n f val ++ (if f n = true then [val n] else []) := by
  unfold out
  rw [List.range_succ, List.filter_append, List.map_append, List.filter_cons]
  cases f n <;> rfl
theorem out_le (n : Nat) (f : Nat → Bool) (val : Nat → V) : (out n f val).length ≤ n := by
  unfold out
  rw [List.length_map]
  exact Nat.le_trans (List.length_filter_le _ _) (Nat.le_of_eq List.length_range)
def Cmp (H : Hp) (f : Nat → Bool) (val : Nat → V) (p : Addr) (m : Nat) (H' : Hp) : Prop := H p = none ∧ Gr H H' ∧ H' p = some (.lst (out m f val))
theorem Cmp.turn {f : Nat → Bool} {val : Nat → V} {p : Addr} {m : Nat} {σ2 : L2.St} (w : Cmp H f val p m H') (hm : m < 50000) (ht : Ts c1 σ2 H (f m)) (he : f m = true → Vl t1 σ2 H (val m)) :
    c1 σ2 H' fun b H3 => if b = true then t1 σ2 H3 fun y H4 => ∃ acc, H4 p = some (.lst acc) ∧ acc.length < sizeLine ∧ Cmp H f val p (m + 1) (upd H4 p (.lst (acc ++ [y]))) else Cmp H f val p (m + 1) H3 := by
  obtain ⟨w1, w2, w3⟩ := w
  refine ht H' _ w2 fun H3 g3 => ?_
  have o := out_succ m f val
  cases hf : f m
  · rw [hf] at o
    refine iteF ⟨w1, w2.trans g3, ?_⟩
    rw [o, if_neg Bool.false_ne_true, List.append_nil]
    exact g3.lst w3
  · rw [hf, if_pos rfl] at o
    refine iteT (he hf H3 _ (w2.trans g3) fun H4 g4 => ⟨out m f val, g4.lst (g3.lst w3), small' (by have := out_le m f val; omega), w1, ((w2.trans g3).trans g4).chg w1, ?_⟩)
    rw [o]
    exact upd_same
theorem l_cmp1 {j : Nat} {ws : List Nat} {n : Int} (f : Nat → Bool) (val : Nat → V) (h : Ag a1 σ H [.int n]) (hn : 0 ≤ n ∧ n ≤ 40000) (hw : ∀ x, wipe ((wipe σ ws).set j (some x)) ws = wipe σ ws)
    (ht : ∀ (m : Nat) H1, Gr H H1 → (m : Int) < n → Ts c1 ((wipe σ ws).set j (some (.int (m : Int)))) H1 (f m)) (he : ∀ (m : Nat) H1, Gr H H1 → (m : Int) < n → f m = true → Vl t1 ((wipe σ ws).set j (some (.int (m : Int)))) H1 (val m)) :
    Ls (tLc (iRng1 a1) (gName j) c1 t1 ws) σ H (out n.toNat f val) := fun H0 Q g q => h H0 _ g fun H1 g1 => ⟨n, rfl, by omega, by omega, fun p hp =>
  lc_range (lo := 0) (n := n.toNat) (Cmp H1 f val p) ⟨hp, .new hp, upd_same⟩ (fun m H' hm w => by
    have t := ht m H1 (g.trans g1) (by omega)
    have e := he m H1 (g.trans g1) (by omega)
    rw [← Int.zero_add (m : Int)] at t e
    exact ⟨hw _, w.turn (by omega) t e⟩) fun H' w => q p H' (g1.free w.1) (g1.trans w.2.1) w.2.2⟩
theorem l_cmpL {a : Addr} {xs : List V} {j : Nat} {ws : List Nat} (f : Nat → Bool) (val : Nat → V) (h : Vl t2 σ H (.ref a)) (s : SqL K H a xs) (hz : xs.length ≤ 40000) (hw : ∀ x, wipe ((wipe σ ws).set j (some x)) ws = wipe σ ws)
    (ht : ∀ (m : Nat) (x : V) H1, Gr H H1 → xs[m]? = some x → Ts c1 ((wipe σ ws).set j (some x)) H1 (f m)) (he : ∀ (m : Nat) (x : V) H1, Gr H H1 → xs[m]? = some x → f m = true → Vl t1 ((wipe σ ws).set j (some x)) H1 (val m)) :
    Ls (tLc (iList K t2) (gName j) c1 t1 ws) σ H (out xs.length f val) := fun H0 Q g q => h H0 _ g fun H1 g1 => ⟨a, rfl, ⟨xs, (g.trans g1).sl s⟩, fun p hp =>
  lc_list (xs := xs) (Cmp H1 f val p) ⟨hp, .new hp, upd_same⟩ (fun _ H' _ w => ((g.trans g1).trans w.2.1).sl s) (fun m x H' hm w => ⟨hw x, w.turn (by have := (List.getElem?_eq_some_iff.mp hm).1; omega) (ht m x H1 (g.trans g1) hm) fun hf => he m x H1 (g.trans g1) hm hf⟩)
    fun H' w => q p H' (g1.free w.1) (g1.trans w.2.1) w.2.2⟩
theorem l_cmpN {xs : List V} {j : Nat} {ws : List Nat} (f : Nat → Bool) (val : Nat → V) (h : Ls t2 σ H xs) (hz : xs.length ≤ 40000) (hw : ∀ x, wipe ((wipe σ ws).set j (some x)) ws = wipe σ ws)
    (ht : ∀ (m : Nat) (x : V) H1, Gr H H1 → xs[m]? = some x → Ts c1 ((wipe σ ws).set j (some x)) H1 (f m)) (he : ∀ (m : Nat) (x : V) H1, Gr H H1 → xs[m]? = some x → f m = true → Vl t1 ((wipe σ ws).set j (some x)) H1 (val m)) :
    Ls (tLc (iList K t2) (gName j) c1 t1 ws) σ H (out xs.length f val) := fun H0 Q g q => h H0 _ g fun a H1 ha g1 hx => ⟨a, rfl, ⟨xs, SqL.of hx⟩, fun p hp =>
  lc_list (xs := xs) (Cmp H1 f val p) ⟨hp, .new hp, upd_same⟩ (fun _ H' _ w => SqL.of (w.2.1.lst hx)) (fun m x H' hm w => ⟨hw x, w.turn (by have := (List.getElem?_eq_some_iff.mp hm).1; omega) (ht m x H1 (g.trans g1) hm) fun hf => he m x H1 (g.trans g1) hm hf⟩)
    fun H' w => q p H' (g1.free w.1) (g1.trans w.2.1) w.2.2⟩
theorem s_yes : Ts tYes σ H true := fun H1 _ _ q => q H1 (.refl _)
end

theorem slots {u : TS} {D : Ends} {σ τ : L2.St} {H : Hp} (e : σ = τ) (h : u D τ H) : u D σ H := e ▸ h

/-! ### automatic steps -/
local macro_rules | `(tactic| walk_at "n") => `(tactic| (try (refine slots (by simp only [List.set_cons_zero, List.set_cons_succ]; exact rfl) ?_)))
local macro_rules | `(tactic| walk_at "ev") => `(tactic| first
  | exact v_slot rfl
  | exact v_con
  | (refine' v_op ?a ?b ?c; (case a => walk_at "ev"); (case b => walk_at "ev"); (case c => walk_at "rv"))
  | (refine' v_call ?a ?b; (case a => walk_at "ea"); (case b => walk_at "sv"))
  | (refine' v_isbB ?a; (case a => walk_at "ev"))
  | (refine' v_and ?a (fun _ => ?b); (case a => walk_at "ev"); (case b => walk_at "ev"))
  | (refine' v_or ?a (fun _ => ?b); (case a => walk_at "ev"); (case b => walk_at "ev"))
  | (refine' v_not ?a; (case a => walk_at "ev"))
  | (refine' v_max ?a ?b; (case a => walk_at "ev"); (case b => walk_at "ev"))
  | (refine' v_min ?a ?b; (case a => walk_at "ev"); (case b => walk_at "ev"))
  | (refine' v_intB ?a; (case a => walk_at "ev"))
  | (refine' v_len ?a ?b; (case a => walk_at "ev"); (case b => assumption))
  | assumption)
local macro_rules | `(tactic| walk_at "ea") => `(tactic| first
  | exact g_nil
  | (refine' g_cons ?a ?b; (case a => walk_at "ev"); (case b => walk_at "ea")))
local macro_rules | `(tactic| walk_at "rv") => `(tactic| first
  | exact bi_0
  | (refine' bi_C ?a; (case a => walk_at "side"))
  | (refine' bi_eq ?a; (case a => rfl))
  | (refine' bi_ne ?a; (case a => rfl))
  | exact bi_isN
  | exact bi_notN
  | assumption)
local macro_rules | `(tactic| walk_at "side") => `(tactic| first
  | (show _ ≠ _; first | decide | omega)
  | (show _ ∧ _; first | exact ⟨by decide, by decide⟩ | exact ⟨by decide, by decide, by decide⟩ | omega))
local macro_rules | `(tactic| walk_at "et") => `(tactic| first
  | (refine' s_test ?a; (case a => walk_at "ev"))
  | (refine' s_B ?a; (case a => walk_at "ev"))
  | (refine' s_truB ?a; (case a => walk_at "ev"))
  | (refine' s_and ?a (fun _ => ?b); (case a => walk_at "et"); (case b => walk_at "et"))
  | (refine' s_or ?a (fun _ => ?b); (case a => walk_at "et"); (case b => walk_at "et"))
  | (refine' s_not ?a; (case a => walk_at "et"))
  | exact s_yes)
local macro_rules | `(tactic| walk_at "set") => `(tactic| (refine' B_set ?h ?k; (case h => walk_at "ev")))
local macro_rules | `(tactic| walk_at "setE") => `(tactic| (refine' S_set ?h ?k; (case h => walk_at "ev")))
local macro_rules | `(tactic| walk_at "when") => `(tactic| (refine' B_when ?h ?k1 ?k2; (case h => walk_at "et")))
local macro_rules | `(tactic| walk_at "whenE") => `(tactic| (refine' S_when ?h ?k1 ?k2; (case h => walk_at "et")))
local macro_rules | `(tactic| walk_at "whenInt") => `(tactic| (refine' B_whenInt ?h1 ?h2 ?h3 ?k; (case h1 => walk_at "et"); (case h2 => rfl); (case h3 => walk_at "ev")))
local macro_rules | `(tactic| walk_at "ret") => `(tactic| (refine' S_ret ?h ?k; (case h => walk_at "ev")))


/-- a def whose code object is known by its place -/
theorem fun_okC {P : Program} {w : World} {K : PySem.W.Frag} {mg : Str → Option Value} {base : Heap} {x z : Str} {st : Stmt} {f c : Addr} {fd : FuncData} {N ps : List Str} {k : Nat} {sp : Sp} (F : Fun K x z st f fd) (hc : fd.code = .ref c) (S : FnScope N ps (defScope st)) (len : ∀ vs H Q E, sp vs H Q E → vs.length = ps.length)
    (body : ∀ (A : Around) (outer : List Env) (s : Shared) (H : Hp) (vs : List V) (Q : VK) (E : XK), Room k (A.deeper (PyProof.Rows.envOfC z (defScope st) s.heap.objs.size f (.ref c))) → sp vs H Q E →
      ∃ t, PSs (cxOf CX0 P w K mg base N z (defScope st) f (.ref c) A outer s H E).nox (defBody st) t ∧ t { nx := fun _ H' => Q .non H', rt := Q } (start N vs) H) : FnOk P w K mg base CX0 (k + 1) f fd ps sp := by
  obtain ⟨oc, od, kV, doc, pm, an, cv, ct, osl, rfl, lk, hcd⟩ := F.ex
  have e : cv = .ref c := hc
  subst e
  refine fn_of lk hcd S len fun A outer s H vs Q E hr hsp => ?_
  obtain ⟨t, h, q⟩ := body A outer s H vs Q E hr hsp
  exact ⟨t, h.nox, q⟩

/-! ### comprehensions over a text; data; what is no text -/
section
variable {K : PySem.W.Frag} {σ : L2.St} {H H' : Hp} {t1 t2 t3 : TE} {c1 c2 : TT} {x y z v : V}
theorem l_cmpS {w : Str} {j : Nat} {ws : List Nat} (f : Nat → Bool) (val : Nat → V) (h : Vl t2 σ H (.str w)) (hz : w.cps.size ≤ 40000) (hw : ∀ x, wipe ((wipe σ ws).set j (some x)) ws = wipe σ ws)
    (ht : ∀ (m k : Nat) H1, Gr H H1 → w.cps[m]? = some k → Ts c1 ((wipe σ ws).set j (some (.str ⟨#[k]⟩))) H1 (f m)) (he : ∀ (m k : Nat) H1, Gr H H1 → w.cps[m]? = some k → f m = true → Vl t1 ((wipe σ ws).set j (some (.str ⟨#[k]⟩))) H1 (val m)) :
    Ls (tLc (iStr t2) (gName j) c1 t1 ws) σ H (out w.cps.size f val) := fun H0 Q g q => h H0 _ g fun H1 g1 => ⟨w, rfl, fun p hp =>
  lc_it walk_str (Cmp H1 f val p) ⟨hp, .new hp, upd_same⟩ (fun _ _ _ _ => trivial) (fun m x Ha Hb hm w0 ⟨e, k, hk, ex⟩ => by
    subst e
    subst ex
    exact ⟨hw _, w0.turn (by omega) (ht m k H1 (g.trans g1) hk) fun hf => he m k H1 (g.trans g1) hk hf⟩) fun H' w0 => q p H' (g1.free w0.1) (g1.trans w0.2.1) w0.2.2⟩
theorem dps_str : ∀ l : List Str, DpAll K H (l.map V.str) (l.map PyData.str)
  | [] => .nil
  | a :: l => .cons (.str a) (dps_str l)
/-- plain signs alone -/
def Asc (z : Str) : Prop := ∀ k ∈ z.cps.toList, k < 128
theorem Asc.ok {z : Str} (h : Asc z) : PyData.strOk z = true := by
  unfold PyData.strOk
  rw [← Array.all_toList, List.all_eq_true]
  intro k hk
  have := h k hk
  exact decide_eq_true (by omega)
theorem Asc.cat {a b : Str} (ha : Asc a) (hb : Asc b) : Asc (a ++ b) := by
  intro k hk
  have e : (a ++ b).cps.toList = a.cps.toList ++ b.cps.toList := Array.toList_append
  rw [e] at hk
  rcases List.mem_append.mp hk with h | h
  · exact ha k h
  · exact hb k h
theorem Asc.cut {a : Str} (ha : Asc a) (lo hi : Option Int) : Asc (cutS a lo hi) := by
  intro k hk
  exact ha k (List.mem_of_mem_drop (List.mem_of_mem_take hk))
theorem Asc.one {k : Nat} (h : k < 128) : Asc ⟨#[k]⟩ := by
  intro j hj
  rw [List.mem_singleton.mp hj]
  exact h
theorem cut_len (a : Str) (lo hi : Option Int) : (cutS a lo hi).length ≤ a.length := by
  show ((_ : List Nat).toArray).size ≤ a.cps.size
  rw [List.size_toArray]
  refine Nat.le_trans (List.length_take_le' _ _) ?_
  rw [List.length_drop, Array.length_toList]
  omega
theorem cat_len (a b : Str) : (a ++ b).length = a.length + b.length := Array.size_append
theorem canLay_strs : ∀ l : List Str, (∀ a ∈ l, Asc a) → PyData.canLayAll0 (l.map PyData.str) = true
  | [], _ => by simp [PyData.canLayAll0]
  | a :: l, h => by
    have t := canLay_strs l fun b hb => h b (List.mem_cons_of_mem _ hb)
    have t2 := (h a List.mem_cons_self).ok
    simp [PyData.canLayAll0, PyData.canLay0, t, t2]
theorem depth_strs : ∀ l : List Str, PyData.depthAll (l.map PyData.str) = 0
  | [] => by simp [PyData.depthAll]
  | a :: l => by
    have := depth_strs l
    simp [PyData.depthAll, PyData.depth, this]
theorem shaped_strs (l : List Str) (h : ∀ a ∈ l, Asc a) : SeqAt.shaped (.list (l.map PyData.str)) = true := by
  unfold SeqAt.shaped
  simp [PyData.canLay0, PyData.depth, canLay_strs l h, depth_strs l]
theorem eqv_nil (ds : List PyData) : PyData.eqv (.list ds) (.list []) = ds.isEmpty := by
  cases ds <;> simp [PyData.eqv, PyData.eqvAll]

theorem Gr.tyOf {t : Value} (g : Gr H H') (h : TyOf K H v t) : TyOf K H' v t := by
  cases h with
  | non => exact .non
  | bl x => exact .bl x
  | int i => exact .int i
  | str x => exact .str x
  | flt x => exact .flt x
  | lst e => exact .lst (g.lst e)
  | frz e => exact .frz (g.at_ e fun _ z => by cases z)
  | tup e => exact .tup (g.tup e)
  | dK e => exact .dK (g.at_ e fun _ z => by cases z)
  | dT e => exact .dT (g.at_ e fun _ z => by cases z)
  | ins e a b c d f => exact .ins (g.ins e) a b c d f
theorem Gr.tyX {t : Value} (g : Gr H H') (h : TyX K H v t) : TyX K H' v t := by
  cases h with
  | base h => exact .base (g.tyOf h)
  | byt b => exact .byt b
  | set e => exact .set (g.at_ e fun _ z => by cases z)
  | kList e c => exact .kList e c
  | kTuple e c => exact .kTuple e c
  | kDict e c => exact .kDict e c
  | fTuple e => exact .fTuple (g.at_ e fun _ z => by cases z)
  | fDict e => exact .fDict (g.at_ e fun _ z => by cases z)
/-- a thing of a known kind that is no text -/
def NoStr (K : PySem.W.Frag) (v : V) (H : Hp) : Prop := ∃ n : String, TyX K H v (.type n) ∧ PySem.W.kitOne K (.type n) (.type "str") = some false
theorem NoStr.mono (g : Gr H H') (h : NoStr K v H) : NoStr K v H' := let ⟨n, a, b⟩ := h; ⟨n, g.tyX a, b⟩
theorem NoStr.non : NoStr K .non H := ⟨_, .base .non, kit_ty (by decide +kernel)⟩
theorem NoStr.bl {b : Bool} : NoStr K (.bl b) H := ⟨_, .base (.bl b), kit_ty (by decide +kernel)⟩
theorem NoStr.int {i : Int} : NoStr K (.int i) H := ⟨_, .base (.int i), kit_ty (by decide +kernel)⟩
theorem NoStr.lst {a : Addr} {xs : List V} (h : H a = some (.lst xs)) : NoStr K (.ref a) H := ⟨_, .base (.lst h), kit_ty (by decide +kernel)⟩
theorem NoStr.tup {a : Addr} {xs : List V} (h : H a = some (.tup xs)) : NoStr K (.ref a) H := ⟨_, .base (.tup h), kit_ty (by decide +kernel)⟩
theorem NoStr.dK {a : Addr} {xs : List (Key × V)} (h : H a = some (.dK xs)) : NoStr K (.ref a) H := ⟨_, .base (.dK h), kit_ty (by decide +kernel)⟩
theorem v_nostr (h : Vl t1 σ H v) (n : NoStr K v H) : Vl (tCB (rIsi K) (tCons t1 (tCons (tC (.ty "str")) tNil))) σ H (.bl false) := by
  obtain ⟨k, a, b⟩ := n
  exact v_isi h v_con (.ty _) (fun _ g => g.tyX a) b
/-- displays whose items are no texts -/
def NoStrs (K : PySem.W.Frag) (n : Nat) (vs : List V) (H : Hp) : Prop := vs.length = n ∧ ∀ v ∈ vs, NoStr K v H
theorem a_nil : Ar tNil σ H (NoStrs K 0) := fun H1 _ _ q => q [] H1 (.refl _) ⟨rfl, fun _ h => absurd h List.not_mem_nil⟩
theorem a_cons {a1 : TA} {n : Nat} (h : Vr t1 σ H (NoStr K)) (k : Ar a1 σ H (NoStrs K n)) : Ar (tCons t1 a1) σ H (NoStrs K (n + 1)) := fun H1 Q g q => h H1 _ g fun v H2 g2 hv => k H2 _ (g.trans g2) fun vs H3 g3 ⟨hl, ha⟩ => q (v :: vs) H3 (g2.trans g3) ⟨by rw [List.length_cons, hl], fun u hu => by
  rcases List.mem_cons.mp hu with e | e
  · rw [e]
    exact hv.mono g3
  · exact ha u e⟩
theorem vr_v {n : V} (h : Vl t1 σ H n) (k : ∀ H1, NoStr K n H1) : Vr t1 σ H (NoStr K) := fun H1 Q g q => h H1 _ g fun H2 g2 => q n H2 g2 (k H2)
theorem vr_l {xs : List V} (h : Ls t1 σ H xs) : Vr t1 σ H (NoStr K) := fun H1 Q g q => h H1 _ g fun p H2 _ g2 e => q _ H2 g2 (.lst e)
theorem vr_u {xs : List V} (h : Tu t1 σ H xs) : Vr t1 σ H (NoStr K) := fun H1 Q g q => h H1 _ g fun p H2 _ g2 e => q _ H2 g2 (.tup e)
theorem r_lst {a1 : TA} {R : List V → Hp → Prop} (h : Ar a1 σ H R) (n : ∀ vs H1, R vs H1 → vs.length ≤ 100000) (mono : ∀ {vs H1 H2}, Gr H1 H2 → R vs H1 → R vs H2) : Vr (tLst a1) σ H (fun v H1 => ∃ p vs, v = .ref p ∧ H1 p = some (.lst vs) ∧ R vs H1) := fun H1 Q g q => h H1 _ g fun vs H2 g2 hv =>
  ⟨small (n vs H2 hv), fun p hp => q _ _ (g2.trans (.new hp)) ⟨p, vs, rfl, upd_same, mono (.new hp) hv⟩⟩
theorem r_ix {i : Int} {R S : V → Hp → Prop} (h : Vr t1 σ H R) (k : ∀ H1, Gr H H1 → Vl t2 σ H1 (.int i)) (o : ∀ v H1, Gr H H1 → R v H1 → ∃ p xs u, v = .ref p ∧ H1 p = some (.lst xs) ∧ atI xs i = some u ∧ S u H1) (mono : ∀ {u H1 H2}, Gr H1 H2 → S u H1 → S u H2) : Vr (tOp (rIxL K) t1 t2) σ H S := fun H1 Q g q =>
  h H1 _ g fun v H2 g2 hv => by
    obtain ⟨p, xs, u, e, hp, hu, hs⟩ := o v H2 (g.trans g2) hv
    exact k H2 (g.trans g2) H2 _ (.refl _) fun H3 g3 => ⟨p, xs, i, u, e, rfl, SqL.of (g3.lst hp), hu, q u H3 (g2.trans g3) (mono g3 hs)⟩
end
section
variable {σ : L2.St} {H : Hp} {t1 : TE}
theorem v_slS {w : Str} {tl th : TO} {lo hi : Option Int} (h : Vl t1 σ H (.str w)) (h1 : Pt tl σ H lo) (h2 : Pt th σ H hi) (s : w.length ≤ 100000) : Vl (tSl (fun x lo hi H Q => ∃ z, x = .str z ∧ z.length ≤ sizeLine ∧ Q (.str (cutS z lo hi)) H) t1 tl th) σ H (.str (cutS w lo hi)) := fun H1 _ g q =>
  h H1 _ g fun H2 g2 => h1 H2 _ (g.trans g2) fun H3 g3 => h2 H3 _ ((g.trans g2).trans g3) fun H4 g4 => ⟨w, rfl, small s, q H4 ((g2.trans g3).trans g4)⟩
end
theorem fmod_in (c : Int) {m : Int} (h : 0 < m) : 0 ≤ c.fmod m ∧ c.fmod m < m := ⟨Int.fmod_nonneg_of_pos c h, Int.fmod_lt_of_pos c h⟩
theorem atI_in {α : Type} (d : α) {l : List α} {i : Int} (h0 : 0 ≤ i) (h : i < l.length) : atI l i = some (l.getD i.toNat d) := by
  have hn : i.toNat < l.length := by omega
  have e := atI_nat (xs := l) (j := i.toNat) (v := l.getD i.toNat d) (by rw [List.getD_eq_getElem?_getD, List.getElem?_eq_getElem hn]; rfl)
  rw [Int.toNat_of_nonneg h0] at e
  exact e
/-! ### names -/
def signs : Str := "abcdefghijklmnopqrstuvwxyz0123456789"
def nameB (z : Str) : Bool := (decide (1 ≤ (z.length : Int)) && decide ((z.length : Int) ≤ 12)) && z.cps.toList.all fun k => decide (k ∈ signs.cps.toList)
def wishB (z : Str) : Bool := inV (.str z) [V.str (Str.ofString "read"), V.str (Str.ofString "write")]
theorem wish_is (z : Str) : wishB z = (decide (V.str z = V.str (Str.ofString "read")) || decide (V.str z = V.str (Str.ofString "write"))) := by
  unfold wishB inV
  rw [List.any_cons, List.any_cons, List.any_nil, Bool.or_false]
  have e : ∀ a b : Str, eqV (.str a) (.str b) = decide (V.str b = V.str a) := fun a b => by
    rw [dec_str]
    exact Bool.beq_comm ..
  rw [e, e]

theorem bi_notInS {k : Nat} {w : Str} {H : Hp} : Bi rNotInS (.str ⟨#[k]⟩) (.str w) H (.bl (!decide (k ∈ w.cps.toList))) := fun H1 _ _ q => ⟨k, w, rfl, rfl, q H1 (.refl _)⟩
theorem bi_inS {k : Nat} {w : Str} {H : Hp} : Bi rInS (.str ⟨#[k]⟩) (.str w) H (.bl (decide (k ∈ w.cps.toList))) := fun H1 _ _ q => ⟨k, w, rfl, rfl, q H1 (.refl _)⟩
theorem none_out (l : List Nat) (p : Nat → Bool) : ((List.range l.length).filter fun m => !p (l.getD m 0)).isEmpty = l.all p := by
  rw [Bool.eq_iff_iff, List.isEmpty_iff, List.filter_eq_nil_iff, List.all_eq_true]
  constructor
  · intro h k hk
    obtain ⟨m, hm, e⟩ := List.getElem_of_mem hk
    have := h m (List.mem_range.mpr hm)
    rw [List.getD_eq_getElem?_getD, List.getElem?_eq_getElem hm, e] at this
    simpa using this
  · intro h m hm
    have hm' := List.mem_range.mp hm
    rw [List.getD_eq_getElem?_getD, List.getElem?_eq_getElem hm']
    have := h _ (List.getElem_mem hm')
    simpa using this
theorem cps_getD {w : Str} {m k : Nat} (h : w.cps[m]? = some k) : w.cps.toList.getD m 0 = k := by
  rw [List.getD_eq_getElem?_getD, Array.getElem?_toList, h]
  rfl

/-! ### more steps: an enumerated list, an item's field, a method that gives nothing -/
section
variable {K : PySem.W.Frag} {σ : L2.St} {H H' : Hp} {t1 t2 t3 : TE} {c1 c2 : TT} {x y z v : V} {D : Ends} {u1 u2 : TS} {g1 : TG}
theorem B_forE {a : Addr} {xs : List V} (h : Vl t1 σ H (.ref a)) (s : SqL K H a xs) (Pv : Nat → L2.St → Hp → Prop) (h0 : ∀ H1, Gr H H1 → Pv 0 σ H1) (hl : ∀ m σ' H', m ≤ xs.length → Pv m σ' H' → SqL K H' a xs)
    (hs : ∀ m x T σ' H', xs[m]? = some x → Pv m σ' H' → H' T = none → g1 (.ref T) σ' (upd H' T (.tup [.int (m : Nat), x])) fun σ2 H2 => u1 { D with nx := Pv (m + 1), ct := Pv (m + 1), bk := u2 D } σ2 H2) (hd : ∀ σ' H', Pv xs.length σ' H' → u2 D σ' H') : tSeq (tFor (iEnum K (tCons t1 tNil)) g1 u1) u2 D σ H :=
  h H _ (.refl _) fun H1 g => ⟨a, xs, rfl, g.sl s, for_it (D := { D with nx := u2 D }) walk_enum Pv (h0 H1 g) hl (fun m v σ' Ha Hb hm p ⟨T, i, w, ev, hT, eH, ei, ew⟩ => by
    subst ev
    subst eH
    cases ei
    exact hs m w T σ' Ha ew p hT) hd⟩
theorem v_fld {l p : Addr} {vs ts : List V} {m : Nat} {i : Int} (hl : SqL K H l vs) (hv : vs[m]? = some (.ref p)) (hp : H p = some (.tup ts)) (hf : atI ts i = some v) (a : Vl t1 σ H (.ref l)) (d : Vl t2 σ H (.int (m : Nat))) :
    Vl (tOp (rIxT K) (tOp (rIxL K) t1 t2) (tC (.int i))) σ H v := v_op (v_op a d (bi_ixL hl (atI_nat hv))) v_con (bi_ixT (SqT.of hp) hf)
theorem Tu.toR {xs : List V} (h : Tu t1 σ H xs) : Vr t1 σ H (fun u H2 => ∃ p, u = .ref p ∧ H2 p = some (.tup xs)) := fun H1 Q g q => h H1 Q g fun p H2 _ g2 e => q _ H2 g2 ⟨p, rfl, e⟩
/-- xs.insert(0, e), the item a new tuple -/
abbrev rIns0 : V → List V → Hp → VK → Prop := fun x vs H Q => ∃ (l : Addr) (xs : List V) (i : Int) (y : V), x = .ref l ∧ vs = [.int i, y] ∧ H l = some (.lst xs) ∧ xs.length < sizeLine ∧ 0 ≤ i ∧ i < 2 ^ 63 ∧ Q .non (upd H l (.lst (xs.take i.toNat ++ [y] ++ xs.drop i.toNat)))
theorem B_ins0U {l : Addr} {xs ts : List V} (hl : H l = some (.lst xs)) (a : Vl t1 σ H (.ref l)) (h : Tu t2 σ H ts) (n : xs.length < 100000) (k : ∀ p H1, H p = none → Gr H H1 → H1 p = some (.tup ts) → u1 D σ (upd H1 l (.lst (.ref p :: xs)))) :
    tSeq (tDrop (tBM K "list" rIns0 t1 (tCons (tC (.int 0)) (tCons t2 tNil)))) u1 D σ H := a H _ (.refl _) fun H1 g =>
  ⟨.inl ⟨rfl, xs, SqL.of (g.lst hl)⟩, h H1 _ g fun p H2 hp g2 e => ⟨l, xs, 0, .ref p, rfl, rfl, g2.lst (g.lst hl), small' n, by decide, by decide, k p H2 (g.free hp) (g.trans g2) e⟩⟩
theorem B_pop0 {l : Addr} {xs : List V} (hl : H l = some (.lst (y :: xs))) (a : Vl t1 σ H (.ref l)) (k : ∀ H1, Gr H H1 → u1 D σ (upd H1 l (.lst xs))) : tSeq (tDrop (tBM K "list" rPopAt t1 (tCons (tC (.int 0)) tNil))) u1 D σ H := a H _ (.refl _) fun H1 g =>
  ⟨.inl ⟨rfl, _, SqL.of (g.lst hl)⟩, l, y :: xs, 0, 0, y, rfl, rfl, g.lst hl, by decide, by decide, by
    unfold seqIndex?
    simp, rfl, k H1 g⟩
end
/-- sep.join(a list or a tuple of texts) -/
abbrev rJoin (K : PySem.W.Frag) : V → List V → Hp → VK → Prop := fun x xs H Q => ∃ a p, ∃ ys : List Str, x = .str a ∧ xs = [.ref p] ∧ (SqL K H p (ys.map V.str) ∨ SqT K H p (ys.map V.str)) ∧ (ys.map (·.length)).sum + ys.length * a.length ≤ 16777216 ∧ Q (.str (Txt.join a ys)) H
theorem out_filter {α : Type} (l : List α) (p : α → Bool) (g : α → V) (f : Nat → Bool) (val : Nat → V) (hf : ∀ m x, l[m]? = some x → f m = p x ∧ val m = g x) : out l.length f val = (l.filter p).map g := by
  have key : ∀ n, n ≤ l.length → out n f val = ((l.take n).filter p).map g := by
    intro n
    induction n with
    | zero => exact fun _ => rfl
    | succ n ih =>
      intro hn
      have h := hf n _ (List.getElem?_eq_getElem (show n < l.length by omega))
      rw [out_succ, ih (by omega), List.take_succ, List.getElem?_eq_getElem (show n < l.length by omega), Option.toList_some, List.filter_append, List.map_append, h.1, h.2, List.filter_cons]
      cases p l[n] <;> rfl
  have := key l.length (Nat.le_refl _)
  rw [List.take_length] at this
  exact this
theorem not_tup {H : Hp} {a : Addr} {kvs : List (Key × V)} (h : H a = some (.dK kvs)) : ∀ ts, H a ≠ some (.tup ts) := fun ts z => by
  rw [h] at z
  cases z
/-- tuples kept by a comprehension -/

abbrev rd : Str := "read"
abbrev wr : Str := "write"
/-! ### the law's readers of the script -/
def cellAt (ns : List Int) (k : Nat) : Int := ns.getD k 0
def spCell (K : PySem.W.Frag) : Sp := fun vs H Q _ => ∃ (a : Addr) (ns : List Int) (k : Nat), vs = [.ref a, .int (k : Int)] ∧ SqL K H a (ns.map V.int) ∧ RV (.int (cellAt ns k)) H Q
theorem sv_cell {K : PySem.W.Frag} {H : Hp} {a : Addr} {ns : List Int} {i : Int} (k : Nat) (e : i = (k : Int)) (h : SqL K H a (ns.map V.int)) : SpV (spCell K) [.ref a, .int i] H (.int (cellAt ns k)) := fun H1 Q E g q => ⟨a, ns, k, by rw [e], g.sl h, q⟩
def numBy (c l : Int) : Int :=
  if c.fmod 8 < 3 then l + c.fmod 8 else
  if c.fmod 8 = 3 then l + (c.fdiv 8).fmod 9 else
  if c.fmod 8 = 4 then 10 ^ 9 else
  if c.fmod 8 = 5 then l + (c.fdiv 8).fmod (10 ^ 9 + 1 - l) else
  l + (c.fdiv 8).fmod (if c.fmod 8 = 6 then 60 else 300)
theorem numBy_in (c l : Int) (hl : l = 0 ∨ l = 1) : l ≤ numBy c l ∧ numBy c l ≤ 10 ^ 9 := by
  have h1 := fmod_in c (m := 8) (by decide)
  have h2 := fmod_in (c.fdiv 8) (m := 9) (by decide)
  have h3 := fmod_in (c.fdiv 8) (m := 10 ^ 9 + 1 - l) (by omega)
  have h4 := fmod_in (c.fdiv 8) (m := (if c.fmod 8 = 6 then 60 else 300)) (by split <;> decide)
  unfold numBy
  split
  · omega
  split
  · omega
  split
  · omega
  split
  · omega
  have : (if c.fmod 8 = 6 then (60:Int) else 300) ≤ 300 := by split <;> decide
  omega
def spNum : Sp := fun vs H Q _ => ∃ (c l : Int), vs = [.int c, .int l] ∧ (l = 0 ∨ l = 1) ∧ RV (.int (numBy c l)) H Q
theorem sv_num {H : Hp} {c l : Int} (h : l = 0 ∨ l = 1) : SpV spNum [.int c, .int l] H (.int (numBy c l)) := fun H1 Q E g q => ⟨c, l, rfl, h, q⟩
/-- a new list of so many plain texts -/
def Names (n : Nat) (v : V) (H : Hp) : Prop := ∃ (p : Addr) (ss : List Str), v = .ref p ∧ H p = some (.lst (ss.map V.str)) ∧ ss.length = n ∧ ∀ s ∈ ss, nameB s = true
theorem Names.mono {n : Nat} {v : V} {H H' : Hp} (g : Gr H H') (h : Names n v H) : Names n v H' := let ⟨p, ss, a, b, c⟩ := h; ⟨p, ss, a, g.lst b, c⟩
def spPeople : Sp := fun vs H Q _ => ∃ (c : Int) (n : Nat), vs = [.int c, .int (n : Int)] ∧ n ≤ 400 ∧ RR_ (Names n) H Q
theorem sr_people {H : Hp} {c i : Int} (n : Nat) (e : i = (n : Int)) (h : n ≤ 400) : SpR spPeople [.int c, .int i] H (Names n) := fun H1 Q E g q => ⟨c, n, by rw [e], h, q⟩
theorem names_out {n : Nat} {s : Nat → Str} (h : ∀ m, m < n → nameB (s m) = true) {p : Addr} {H : Hp} (hp : H p = some (.lst (out n (fun _ => true) fun m => V.str (s m)))) : Names n (.ref p) H := by
  refine ⟨p, (List.range n).map s, rfl, ?_, by rw [List.length_map, List.length_range], ?_⟩
  · rw [hp]
    unfold out
    rw [List.map_map, List.filter_eq_self.mpr (fun _ _ => rfl)]
    rfl
  · intro z hz
    obtain ⟨m, hm, rfl⟩ := List.mem_map.mp hz
    exact h m (List.mem_range.mp hm)
/-- the signs of names alone -/
def Sg (z : Str) : Prop := ∀ k ∈ z.cps.toList, k ∈ signs.cps.toList
theorem sg_asc : ∀ k ∈ signs.cps.toList, k < 128 := by decide +kernel
theorem Sg.asc {z : Str} (h : Sg z) : Asc z := fun k hk => sg_asc k (h k hk)
theorem Sg.cat {a b : Str} (ha : Sg a) (hb : Sg b) : Sg (a ++ b) := by
  intro k hk
  have e : (a ++ b).cps.toList = a.cps.toList ++ b.cps.toList := Array.toList_append
  rw [e] at hk
  exact (List.mem_append.mp hk).elim (ha k) (hb k)
theorem Sg.cut {a : Str} (ha : Sg a) (lo hi : Option Int) : Sg (cutS a lo hi) := fun k hk => ha k (List.mem_of_mem_drop (List.mem_of_mem_take hk))
theorem Sg.one {k : Nat} (h : k ∈ signs.cps.toList) : Sg ⟨#[k]⟩ := fun j hj => by
  rw [List.mem_singleton.mp hj]
  exact h
theorem nameB_of {z : Str} (h1 : 1 ≤ z.length) (h2 : z.length ≤ 12) (h3 : Sg z) : nameB z = true := by
  unfold nameB
  rw [decide_eq_true (show (1 : Int) ≤ (z.length : Int) by omega), decide_eq_true (show (z.length : Int) ≤ 12 by omega), Bool.and_true, Bool.true_and, List.all_eq_true]
  exact fun k hk => decide_eq_true (h3 k hk)
theorem nameB_is {z : Str} (h : nameB z = true) : 1 ≤ z.length ∧ z.length ≤ 12 ∧ Sg z := by
  unfold nameB at h
  simp only [Bool.and_eq_true, decide_eq_true_eq, List.all_eq_true] at h
  exact ⟨by omega, by omega, h.2⟩
theorem cut_to (z : Str) (k : Nat) : (cutS z none (some (k : Int))).length = min k z.length := by
  show ((_ : List Nat).toArray).size = _
  rw [List.size_toArray, HT.sIx_nat, HT.sIx_none, List.length_take, List.length_drop, Array.length_toList]
  show min (min k z.length - 0) (z.length - 0) = _
  omega
theorem cut_from (z : Str) (k : Nat) : (cutS z (some (k : Int)) none).length = z.length - min k z.length := by
  show ((_ : List Nat).toArray).size = _
  rw [List.size_toArray, HT.sIx_nat, HT.sIx_none, List.length_take, List.length_drop, Array.length_toList]
  show min (z.length - min k z.length) (z.length - min k z.length) = _
  omega
theorem sign_at (n : Nat) (h : n < 36) : signs.cps.toList.getD n 0 ∈ signs.cps.toList := by
  have l : signs.cps.toList.length = 36 := by decide +kernel
  rw [List.getD_eq_getElem?_getD, List.getElem?_eq_getElem (by omega)]
  exact List.getElem_mem _
theorem sign_mod (c : Int) : signs.cps.toList.getD (c.fmod 36).toNat 0 ∈ signs.cps.toList := sign_at _ (by have := fmod_in c (m := 36) (by decide); omega)
theorem num_text : ∀ k : Nat, k < 400 → 1 ≤ (toString (k : Int) : Str).length ∧ (toString (k : Int) : Str).length ≤ (if k < 100 then 2 else 3) ∧ Sg (toString (k : Int)) := by
  unfold Sg
  decide +kernel
theorem num_len (k : Nat) (h : k < 400) : (toString (k : Int) : Str).length ≤ 3 := by
  have := (num_text k h).2.1
  split at this <;> omega
theorem num_small {m : Nat} (h : m < 400) : ((m : Int)).natAbs.log2 < 1920 := by
  have e : ((m : Int)).natAbs = m := Int.natAbs_natCast m
  rw [e]
  exact Nat.lt_of_le_of_lt (Nat.log2_le_self m) (by omega)
/-- a sign of a written text -/
theorem sign_in {w : Str} (n : Nat) (h : (w.cps.toList.all fun k => decide (k < 128)) = true) : w.cps.toList.getD n 0 < 128 := by
  rw [List.getD_eq_getElem?_getD]
  cases e : w.cps.toList[n]? with
  | none => show 0 < 128; decide
  | some k => exact of_decide_eq_true (List.all_eq_true.mp h k (List.mem_of_getElem? e))
theorem bi_sign {w : Str} {c : Int} {n : Nat} {H : Hp} (hn : w.length = n) (h0 : 0 < n) (s : n ≤ 100000) : Bi rIxS (.str w) (.int (c.fmod n)) H (.str ⟨#[w.cps.toList.getD (c.fmod n).toNat 0]⟩) :=
  bi_ixS (by omega) (atI_in 0 (fmod_in c (by omega)).1 (by
    have h2 := (fmod_in c (m := n) (by omega)).2
    have e : w.cps.toList.length = w.length := Array.length_toList
    rw [e, hn]
    exact h2))

/-! ### defs that raise, calls of them; methods, new objects; defs called while an exception is handled -/
namespace RX
open PySem PySem.Spec PyProof.Rows L2
section
variable {X : Cx} {CX : CXT} {k : Nat} {f C : Addr} {fd : FuncData} {ps : List Str} {sp : Sp} {E : L2.St → XK} {x m : Str} {p pos apos : Pos} {e o : Expr} {es : List Expr} {ta : TE} {t : TA}
/-- nothing leaves -/
theorem passN : Passes (L2N.CX X.prog X.w) X E0 := by
  intro _ _ _ _ _ _ _ h
  obtain ⟨_, _, _, _, _, _, _, _, _, _, _, _, z⟩ := h
  exact z.elim
theorem takesN : L2N.Takes X fun _ _ _ _ => False := by
  intro _ _ h
  obtain ⟨_, _, _, _, _, _, _, _, _, _, _, _, _, _, _, _, z⟩ := h
  exact z.elim
theorem passA0 {G : L2.St → XK} : ∀ σ, PassesAt CX0 X σ (G σ) := fun _ _ _ _ _ _ _ h => h.elim
/-- what the callee lets out leaves the caller too -/
theorem passD {F : XK} (tk : L2N.Takes X fun c d _ H => F c d H) : Passes (L2N.CX X.prog X.w) X F := L2N.passes_call tk fun _ _ _ _ z => z
/-- a method called where what is raised is wished for at the slots -/
def tMethA (C : Addr) (m : Str) (sp : Sp) (E : L2.St → XK) (ta : TE) (t : TA) : TE := fun σ H Q => ta σ H fun y H1 =>
  ∃ a dx fs, y = .ref a ∧ H1 a = some (.ins C dx fs) ∧ fs.lookup m = none ∧ t σ H1 fun vs H2 => sp (y :: vs) H2 Q (E σ)
theorem pe_methA {pl : Sem Bool} (ho : PE X o ta) (c : Cls X.K C) (hm : Meth X.K C m f) (F : FnOk X.prog X.w X.K X.mg X.base CX k f fd ps sp) (hr : Room k X.A) (hb : Binds X.K fd ps []) (hx : ∀ σ, PassesAt CX X σ (E σ)) (ha : PA X (e :: es) t)
    (hst : starEach (e :: es) X.env = (false, eval e X.env) :: starEach es X.env := by rfl) (hpl : (backTo pos (starEach es X.env)).any (·.1) = false := by rfl)
    (ht : eval (.Call (.Attribute o m apos) (e :: es) [] pos) X.env = (eval o X.env >>= fun ov => standAt apos.atName >>= fun _ => holding [ov] (getMethod ov m pl) >>= fun g => callWith pos g.1 g.2 (backTo pos (starEach (e :: es) X.env)) (backToKw pos (keywordEach [] X.env))) := by rfl) :
    PE X (.Call (.Attribute o m apos) (e :: es) [] pos) (tMethA C m sp E ta t) := ⟨fun pins s σ H Q I h => by
  refine PySem.W.methodCall_KW (pl := pl) (thn (ho.run pins s σ H _ I h) fun u s1 hu => ?_) ht
  obtain ⟨y, H1, I1, ry, a, dx, fs, rfl, ea, l, q⟩ := hu
  obtain rfl : u = Value.ref a := ry
  refine getmeth_ok I1 ea c hm l (PySem.W.callWith_K (first := [.ref a]) (h₀ := X.base) I.ok.mod.kin hm.kp (thn (ha.run pos pins s1 σ H1 _ I1 q) fun us s2 hus => ?_) hst hpl)
  obtain ⟨vs, H2, I2, r, q2⟩ := hus
  exact ⟨I2.kIn, run_fnS (us := .ref a :: us) (vs := .ref a :: vs) F hr hb (hx σ) I2 (.cons rfl r) q2⟩⟩
theorem pe_methA0 {pl : Sem Bool} (ho : PE X o ta) (c : Cls X.K C) (hm : Meth X.K C m f) (F : FnOk X.prog X.w X.K X.mg X.base CX k f fd ps sp) (hr : Room k X.A) (hb : Binds X.K fd ps []) (hx : ∀ σ, PassesAt CX X σ (E σ))
    (ht : eval (.Call (.Attribute o m apos) [] [] pos) X.env = (eval o X.env >>= fun ov => standAt apos.atName >>= fun _ => holding [ov] (getMethod ov m pl) >>= fun g => callWith pos g.1 g.2 (backTo pos (starEach [] X.env)) (backToKw pos (keywordEach [] X.env))) := by rfl) :
    PE X (.Call (.Attribute o m apos) [] [] pos) (tMethA C m sp E ta tNil) := ⟨fun pins s σ H Q I h => by
  refine PySem.W.methodCall_KW (pl := pl) (thn (ho.run pins s σ H _ I h) fun u s1 hu => ?_) ht
  obtain ⟨y, H1, I1, ry, a, dx, fs, rfl, ea, l, q⟩ := hu
  obtain rfl : u = Value.ref a := ry
  exact getmeth_ok I1 ea c hm l (PySem.W.callWith_K0 (first := [.ref a]) I1.kIn hm.kp (run_fnS (us := [.ref a]) (vs := [.ref a]) F hr hb (hx σ) I1 (.cons rfl .nil) q))⟩
/-- C(..) where what is raised is wished for at the slots -/
def tMakeA (C : Addr) (sp : Sp) (E : L2.St → XK) (t : TA) : TE := fun σ H Q => t σ H fun vs H1 => ∀ y dx, H1 y = none → H1 dx = none → dx ≠ y →
  sp (.ref y :: vs) (upd (upd H1 dx (.own y)) y (.ins C dx [])) (fun v H2 => v = .non ∧ Q (.ref y) H2) (E σ)
theorem run_makeA {pins : List (Addr × Obj)} {σ : L2.St} {H : Hp} {s : Shared} {Q : VK} {us : List Value} {vs : List V} {F' : XK} (M : Mk X.K C f) (F : FnOk X.prog X.w X.K X.mg X.base CX k f fd ps sp) (hr : Room (k + 1) X.A) (hb : Binds X.K fd ps [])
    (hx : PassesAt CX X σ F') (I : Inv X pins σ H s) (r : Vals vs us)
    (h : ∀ y dx, H y = none → H dx = none → dx ≠ y → sp (.ref y :: vs) (upd (upd H dx (.own y)) y (.ins C dx [])) (fun v H2 => v = .non ∧ Q (.ref y) H2) F') :
    wpAny (model X.prog X.w) X.A (call (.ref C) us) (EP X pins σ Q) X.xe s := by
  have q := h (s.heap.objs.size + 1) s.heap.objs.size (I.hok.fresh (Nat.le_succ _)) (I.hok.fresh (Nat.le_refl _)) (Nat.ne_of_lt (Nat.lt_succ_self _))
  have I2 := Inv.made (C := C) I
  have r2 : Vals (V.ref (s.heap.objs.size + 1) :: vs) (Value.ref (s.heap.objs.size + 1) :: us) := .cons rfl r
  have hl : (Value.ref (s.heap.objs.size + 1) :: us).length = ps.length := r2.length.symm.trans (F.len _ _ _ _ q)
  have b := hb _ (Value.ref (s.heap.objs.size + 1) :: us) I2.kIn (by rw [List.append_nil]; exact hl)
  rw [List.append_nil] at b
  refine wpAny_call (make_map (f := f) I.kIn M.makes M.init (beq_iff_eq.mp M.fn) (codeAny_mono (F.run _ X.stack _ _ ⟨Value.ref (s.heap.objs.size + 1) :: us, []⟩ _ _ _ F' (hr.make C us []) (I2.env0.make C us []) b r2 q) fun r s' hq => ?_))
  cases r with
  | error e => exact hx pins _ _ e s' I2 hq
  | ok fl =>
    cases fl with
    | ret u =>
      obtain ⟨v, H', I3, rv, rfl, q3⟩ := I2.after hq
      exact ⟨rv, ⟨V.ref (s.heap.objs.size + 1), H', I3, rfl, q3⟩⟩
    | next => exact False.elim hq
    | brk => exact False.elim hq
    | cont => exact False.elim hq
theorem pe_makeA (M : Mk X.K C f) (F : FnOk X.prog X.w X.K X.mg X.base CX k f fd ps sp) (hr : Room (k + 1) X.A) (hg : Gl X x) (hm : X.mg x = some (.ref C)) (hb : Binds X.K fd ps []) (hx : ∀ σ, PassesAt CX X σ (E σ)) (ha : PA X (e :: es) t)
    (hdb : (x == ("__debug__" : Str)) = false := by decide) (he : starEach (e :: es) X.env = (false, eval e X.env) :: starEach es X.env := by rfl) (hpl : (backTo pos (starEach es X.env)).any (·.1) = false := by rfl) : PE X (.Call (.Name x p) (e :: es) [] pos) (tMakeA C sp E t) := ⟨fun pins s σ H Q I h => by
  refine wpAny_Call_Name_kw (ld_glob I hg hm (PySem.W.callWith_K (h₀ := X.base) I.ok.mod.kin M.kp (thn (ha.run pos pins s σ H _ I h) fun us s1 hus => ?_) he hpl) hdb)
  obtain ⟨vs, H1, I1, r, q⟩ := hus
  exact ⟨I1.kIn, run_makeA M F hr hb (hx σ) I1 r q⟩⟩
end
section
variable {P : Program} {w : World} {K : PySem.W.Frag} {mg : Str → Option Value} {base : Heap} {x qual : Str} {st : Stmt} {f : Addr} {fd : FuncData} {N ps : List Str} {k : Nat} {sp : Sp}
/-- a def that may raise -/
theorem okN (F : Fun K x qual st f fd) (S : FnScope N ps (defScope st)) (len : ∀ vs H Q E, sp vs H Q E → vs.length = ps.length)
    (h : ∀ (cdv : Value) (A : Around) (outer : List Env) (s : Shared) (H : Hp) (vs : List V) (Q : VK) (E : XK), Room k (A.deeper (envOfC qual (defScope st) s.heap.objs.size f cdv)) → sp vs H Q E →
      ∃ t, PSs (cxOf (L2N.CX P w) P w K mg base N qual (defScope st) f cdv A outer s H E) (defBody st) t ∧ t ⟨fun _ H' => Q .non H', Q, fun _ _ => False, fun _ _ => False⟩ (start N vs) H) : FnOk P w K mg base (L2N.CX P w) (k + 1) f fd ps sp := by
  obtain ⟨_, _, _, _, _, _, cdv, _, _, rfl, lk, hcd⟩ := F.ex
  exact fn_of lk hcd S len fun A outer s H vs Q E => h cdv A outer s H vs Q E
/-- a def called while an exception is handled, of which nothing is let out -/
theorem okH {CX : CXT} (F : Fun K x qual st f fd) (S : FnScope N ps (defScope st)) (len : ∀ vs H Q E, sp vs H Q E → vs.length = ps.length)
    (h : ∀ (cdv : Value) (A : Around) (outer : List Env) (s : Shared) (H : Hp) (vs : List V) (Q : VK) (E : XK) (z : Addr × Obj), L2H.Hot1 A z → L2H.RoomH k (A.deeper (envOfC qual (defScope st) s.heap.objs.size f cdv)) → sp vs H Q E →
      ∃ t, PSs (L2H.cxH CX P w K mg base N qual (defScope st) f cdv A outer s H E z) (defBody st) t ∧ t ⟨fun _ H' => Q .non H', Q, fun _ _ => False, fun _ _ => False⟩ (start N vs) H) : L2H.FnH P w K mg base CX (k + 1) f fd ps sp := by
  obtain ⟨_, _, _, _, _, _, cdv, _, _, rfl, lk, hcd⟩ := F.ex
  exact L2H.fn_ofH lk hcd S len fun A outer s H vs Q E z => h cdv A outer s H vs Q E z
end
/-- isinstance(e, c) of an exception that is pinned: its class, what the class says, the answer -/
def rIsP (K : PySem.W.Frag) (a : Addr) (cls : Value) (d : Option Addr) : List V → Hp → VK → Prop := fun xs H Q =>
  ∃ (D : Addr) (c : V) (cv : Value) (b : Bool), cls = .ref D ∧ d = none ∧ ExcC K D ∧ xs = [.ref a, c] ∧ (∀ u, RelV c u → u = cv) ∧ PySem.W.kitOne K (.ref D) cv = some b ∧ Q (.bl b) H
theorem call_isP {X : Cx} {a : Addr} {oe : Obj} {cls : Value} {d : Option Addr} (hp : (a, oe) ∈ X.pn) (hz : Zc cls d oe) (hf : ∃ vs, oe.data = .fields vs) : CallR X (.builtin "isinstance") (rIsP X.K a cls d) := by
  intro pins s σ H xs us Q I r h
  obtain ⟨D, c, cv, b, rfl, rfl, C, rfl, hcv, e, q⟩ := h
  obtain ⟨u1, us1, rx, r1, rfl⟩ : ∃ u1 us1, RelV (.ref a) u1 ∧ Vals [c] us1 ∧ us = u1 :: us1 := by
    cases r with
    | cons r1 r2 => exact ⟨_, _, r1, r2, rfl⟩
  obtain ⟨u2, rt, rfl⟩ : ∃ u2, RelV c u2 ∧ us1 = [u2] := by
    cases r1 with
    | cons r2 r3 =>
      cases r3
      exact ⟨_, r2, rfl⟩
  obtain rfl : u1 = .ref a := rx
  obtain rfl := hcv _ rt
  obtain ⟨vs, hv⟩ := hf
  have J : PySem.W.InstAt s.heap a oe D none := by
    have g := (I.pin (a, oe) (List.mem_append_left _ hp)).1
    obtain ⟨oc, od, oda, osl⟩ := oe
    obtain ⟨h1, h2⟩ := hz
    dsimp only at h1 h2 hv
    subst h1 h2 hv
    exact ⟨g, rfl, rfl, trivial⟩
  exact PySem.W.kia_one (PySem.W.handS_kitx_exc C.hg C.hk C.hs C.hd C.ha C.hn C.ht C.hm) I.kIn J e (fun z => nomatch z) fun tk => ⟨.bl b, H, I.kept (t' := tk) fun _ _ z => z, rfl, q⟩
end RX

/-! ### wishes, tuples at places, rows of a journal -/
def wishOf (c : Int) : Str := if c.fmod 3 = 0 then wr else rd
theorem wishOf_ok (c : Int) : wishOf c = rd ∨ wishOf c = wr := by
  unfold wishOf
  split
  · exact .inr rfl
  · exact .inl rfl
def spWish : Sp := fun vs H Q _ => ∃ c : Int, vs = [.int c] ∧ RV (.str (wishOf c)) H Q
theorem sv_wish {H : Hp} {c : Int} : SpV spWish [.int c] H (.str (wishOf c)) := fun H1 Q E g q => ⟨c, rfl, q⟩
/-- tuples at these places, what they hold -/
inductive TupsAt (H : Hp) {α : Type} (f : α → List V) : List V → List α → Prop
  | nil : TupsAt H f [] []
  | cons {p : Addr} {r : α} {vs : List V} {l : List α} : H p = some (.tup (f r)) → TupsAt H f vs l → TupsAt H f (.ref p :: vs) (r :: l)
namespace TupsAt
variable {α : Type} {f : α → List V}
theorem mono {H H' : Hp} (g : Gr H H') : ∀ {vs : List V} {l : List α}, TupsAt H f vs l → TupsAt H' f vs l
  | _, _, .nil => .nil
  | _, _, .cons h t => .cons (g.tup h) (mono g t)
theorem chg {H : Hp} {a : Addr} {o : HO} (n : ∀ ts, H a ≠ some (.tup ts)) : ∀ {vs : List V} {l : List α}, TupsAt H f vs l → TupsAt (upd H a o) f vs l
  | _, _, .nil => .nil
  | _, _, .cons h t => .cons ((upd_ne fun e => n _ (e ▸ h)).trans h) (chg n t)
theorem length {H : Hp} : ∀ {vs : List V} {l : List α}, TupsAt H f vs l → vs.length = l.length
  | _, _, .nil => rfl
  | _, _, .cons _ t => by rw [List.length_cons, List.length_cons, length t]
theorem get {H : Hp} : ∀ {vs : List V} {l : List α} (m : Nat) {r : α}, TupsAt H f vs l → l[m]? = some r → ∃ p, vs[m]? = some (.ref p) ∧ H p = some (.tup (f r))
  | _, _, _, _, .nil, h => by simp at h
  | _, _, 0, _, .cons h _, e => by
    cases e
    exact ⟨_, rfl, h⟩
  | _, _, m + 1, _, .cons _ t, e => get m t e
theorem snoc {H : Hp} {p : Addr} {r : α} (h : H p = some (.tup (f r))) : ∀ {vs : List V} {l : List α}, TupsAt H f vs l → TupsAt H f (vs ++ [.ref p]) (l ++ [r])
  | _, _, .nil => .cons h .nil
  | _, _, .cons k t => .cons k (snoc h t)
theorem app {H : Hp} : ∀ {vs ws : List V} {l m : List α}, TupsAt H f vs l → TupsAt H f ws m → TupsAt H f (vs ++ ws) (l ++ m)
  | _, _, _, _, .nil, k => k
  | _, _, _, _, .cons h t, k => .cons h (app t k)
theorem take {H : Hp} : ∀ (n : Nat) {vs : List V} {l : List α}, TupsAt H f vs l → TupsAt H f (vs.take n) (l.take n)
  | 0, _, _, _ => .nil
  | _ + 1, _, _, .nil => .nil
  | n + 1, _, _, .cons h t => .cons h (take n t)
theorem drop {H : Hp} : ∀ (n : Nat) {vs : List V} {l : List α}, TupsAt H f vs l → TupsAt H f (vs.drop n) (l.drop n)
  | 0, _, _, h => h
  | _ + 1, _, _, .nil => .nil
  | n + 1, _, _, .cons _ t => drop n t
end TupsAt

section
variable {K : PySem.W.Frag} {σ : L2.St} {H H' : Hp} {t1 t2 t3 : TE} {c1 c2 : TT} {x y z v : V}
theorem v_isl {p : Addr} {xs : List V} (h : Vl t1 σ H (.ref p)) (hp : H p = some (.lst xs)) : Vl (tCB (rIsi K) (tCons t1 (tCons (tC (.ty "list")) tNil))) σ H (.bl true) := v_isi h v_con (.ty _) (fun _ g => .base (.lst (g.lst hp))) (kit_ty (by decide +kernel))
theorem v_ist {p : Addr} {xs : List V} (h : Vl t1 σ H (.ref p)) (hp : H p = some (.tup xs)) : Vl (tCB (rIsi K) (tCons t1 (tCons (tC (.ty "tuple")) tNil))) σ H (.bl true) := v_isi h v_con (.ty _) (fun _ g => .base (.tup (g.tup hp))) (kit_ty (by decide +kernel))
theorem v_lenT {p : Addr} {xs : List V} (h : Vl t1 σ H (.ref p)) (s : SqT K H p xs) : Vl (tCB (fLen K) (tCons t1 tNil)) σ H (.int xs.length) := v_blt (g_cons h g_nil) fun H1 _ g q => ⟨p, xs, rfl, .inr (g.st s), q H1 (.refl _)⟩
theorem l_cmpT {a : Addr} {xs : List V} {j : Nat} {ws : List Nat} (f : Nat → Bool) (val : Nat → V) (h : Vl t2 σ H (.ref a)) (s : SqT K H a xs) (hz : xs.length ≤ 40000) (hw : ∀ x, wipe ((wipe σ ws).set j (some x)) ws = wipe σ ws)
    (ht : ∀ (m : Nat) (x : V) H1, Gr H H1 → xs[m]? = some x → Ts c1 ((wipe σ ws).set j (some x)) H1 (f m)) (he : ∀ (m : Nat) (x : V) H1, Gr H H1 → xs[m]? = some x → f m = true → Vl t1 ((wipe σ ws).set j (some x)) H1 (val m)) :
    Ls (tLc (iTup K t2) (gName j) c1 t1 ws) σ H (out xs.length f val) := fun H0 Q g q => h H0 _ g fun H1 g1 => ⟨a, rfl, ⟨xs, (g.trans g1).st s⟩, fun p hp =>
  lc_tup (xs := xs) (Cmp H1 f val p) ⟨hp, .new hp, upd_same⟩ (fun _ H' _ w => ((g.trans g1).trans w.2.1).st s) (fun m x H' hm w => ⟨hw x, w.turn (by have := (List.getElem?_eq_some_iff.mp hm).1; omega) (ht m x H1 (g.trans g1) hm) fun hf => he m x H1 (g.trans g1) hm hf⟩)
    fun H' w => q p H' (g1.free w.1) (g1.trans w.2.1) w.2.2⟩
end
theorem Tu.toN {σ : L2.St} {H : Hp} {t1 : TE} {xs : List V} (h : Tu t1 σ H xs) : Vr t1 σ H (fun u H2 => ∃ p, u = .ref p ∧ H p = none ∧ H2 p = some (.tup xs)) := fun H1 Q g q => h H1 Q g fun p H2 hp g2 e => q _ H2 g2 ⟨p, rfl, g.free hp, e⟩
/-- a row: some words -/
abbrev JRow := List Str
def JRow.vs (r : JRow) : List V := r.map V.str
def JRow.good (r : JRow) : Prop := 2 ≤ r.length ∧ r.length ≤ 3 ∧ ∀ s ∈ r, Asc s ∧ s.length ≤ 100
/-- a row as journals have them -/
def JRow.ok (r : JRow) : Prop := ∃ w n : Str, nameB n = true ∧ (((w = "came" ∨ w = "begins") ∧ ∃ x, (x = rd ∨ x = wr) ∧ r = [w, n, x]) ∨ ((w = "left" ∨ w = "asked" ∨ w = "eased") ∧ r = [w, n]))
theorem word_asc {w : Str} (h : w ∈ (["came", "begins", "left", "asked", "eased", "read", "write"] : List Str)) : Asc w ∧ w.length ≤ 6 := by
  have key : ∀ s ∈ (["came", "begins", "left", "asked", "eased", "read", "write"] : List Str), (s.cps.toList.all fun k => decide (k < 128)) = true ∧ s.length ≤ 6 := by decide +kernel
  obtain ⟨a, b⟩ := key w h
  exact ⟨fun k hk => of_decide_eq_true (List.all_eq_true.mp a k hk), b⟩
theorem JRow.ok.good {r : JRow} (h : r.ok) : r.good := by
  obtain ⟨w, n, hn, h⟩ := h
  obtain ⟨_, n2, n3⟩ := nameB_is hn
  have an : Asc n ∧ n.length ≤ 100 := ⟨n3.asc, by omega⟩
  rcases h with ⟨hw, x, hx, rfl⟩ | ⟨hw, rfl⟩
  · have aw := word_asc (w := w) (by rcases hw with rfl | rfl <;> decide)
    have ax := word_asc (w := x) (by rcases hx with rfl | rfl <;> decide)
    refine ⟨by simp, by simp, fun s hs => ?_⟩
    simp only [List.mem_cons, List.not_mem_nil, or_false] at hs
    rcases hs with rfl | rfl | rfl
    · exact ⟨aw.1, by omega⟩
    · exact an
    · exact ⟨ax.1, by omega⟩
  · have aw := word_asc (w := w) (by rcases hw with rfl | rfl | rfl <;> decide)
    refine ⟨by simp, by simp, fun s hs => ?_⟩
    simp only [List.mem_cons, List.not_mem_nil, or_false] at hs
    rcases hs with rfl | rfl
    · exact ⟨aw.1, by omega⟩
    · exact an
def rowsD (l : List JRow) : List PyData := l.map fun r => .tuple (r.map PyData.str)
theorem dps_rows {K : PySem.W.Frag} {H : Hp} : ∀ {vs : List V} {l : List JRow}, TupsAt H JRow.vs vs l → DpAll K H vs (rowsD l)
  | _, _, .nil => .nil
  | _, _, .cons h t => .cons (.tup (SqT.of h) (dps_str _)) (dps_rows t)
theorem canLay_rows : ∀ l : List JRow, (∀ r ∈ l, r.good) → PyData.canLayAll0 (rowsD l) = true
  | [], _ => by simp [rowsD, PyData.canLayAll0]
  | r :: l, h => by
    have t := canLay_rows l fun b hb => h b (List.mem_cons_of_mem _ hb)
    have t2 := canLay_strs r fun s hs => ((h r List.mem_cons_self).2.2 s hs).1
    unfold rowsD at t ⊢
    rw [List.map_cons]
    simp [PyData.canLayAll0, PyData.canLay0, t, t2]
theorem depth_rows : ∀ l : List JRow, PyData.depthAll (rowsD l) ≤ 1
  | [] => by simp [rowsD, PyData.depthAll]
  | r :: l => by
    have t := depth_rows l
    have t2 := depth_strs r
    unfold rowsD at t ⊢
    rw [List.map_cons]
    simp only [PyData.depthAll, PyData.depth, t2]
    omega
theorem shaped_rows (l : List JRow) (h : ∀ r ∈ l, r.good) : SeqAt.shaped (.list (rowsD l)) = true := by
  have a := canLay_rows l h
  have b := depth_rows l
  unfold SeqAt.shaped
  rw [show PyData.canLay0 (.list (rowsD l)) = PyData.canLayAll0 (rowsD l) by simp [PyData.canLay0], a, Bool.true_and]
  refine decide_eq_true ?_
  simp only [PyData.depth]
  omega
/-- two lists of the same good rows -/
def spAlike (K : PySem.W.Frag) : Sp := fun vs H Q _ => ∃ (p u : Addr) (xs ys : List V) (l : List JRow), vs = [.ref p, .ref u] ∧ H p = some (.lst xs) ∧ H u = some (.lst ys) ∧ TupsAt H JRow.vs xs l ∧ TupsAt H JRow.vs ys l ∧ l.length ≤ 30000 ∧ (∀ r ∈ l, r.good) ∧ RV (.bl true) H Q
theorem sv_alike {K : PySem.W.Frag} {H : Hp} {p u : Addr} {xs ys : List V} {l : List JRow} (hp : H p = some (.lst xs)) (hu : H u = some (.lst ys)) (tx : TupsAt H JRow.vs xs l) (ty : TupsAt H JRow.vs ys l) (n : l.length ≤ 30000) (g : ∀ r ∈ l, r.good) : SpV (spAlike K) [.ref p, .ref u] H (.bl true) :=
  fun H1 Q E e q => ⟨p, u, xs, ys, l, rfl, e.lst hp, e.lst hu, tx.mono e, ty.mono e, n, g, q⟩
/-- a new list of so many rows -/
def JRows (n : Nat) (v : V) (H : Hp) : Prop := ∃ (p : Addr) (vs : List V) (l : List JRow), v = .ref p ∧ H p = some (.lst vs) ∧ TupsAt H JRow.vs vs l ∧ l.length ≤ n ∧ ∀ r ∈ l, r.ok
def spRowsBy (K : PySem.W.Frag) : Sp := fun vs H Q _ => ∃ (a : Addr) (ns : List Int), vs = [.ref a] ∧ SqL K H a (ns.map V.int) ∧ RR_ (JRows 400) H Q

/-! ### names and wishes, asked of any thing -/
/-- what is asked by is_name, is_wish: a text, or a thing that is none -/
def spKind (K : PySem.W.Frag) (P : Addr) (f : Str → Bool) : Sp := fun vs H Q _ => ∃ v, vs = [v] ∧ GxR.TabG H P ∧ ((∃ z, v = .str z ∧ z.length ≤ 100000 ∧ RV (.bl (f z)) H Q) ∨ (NoStr K v H ∧ RV (.bl false) H Q))
theorem sv_kindS {K : PySem.W.Frag} {P : Addr} {f : Str → Bool} {H : Hp} {z : Str} (t : GxR.TabG H P) (n : z.length ≤ 100000) : SpV (spKind K P f) [.str z] H (.bl (f z)) := fun H1 Q E g q => ⟨_, rfl, g.tab t, .inl ⟨z, rfl, n, q⟩⟩
theorem sv_kindN {K : PySem.W.Frag} {P : Addr} {f : Str → Bool} {H : Hp} {v : V} (t : GxR.TabG H P) (n : NoStr K v H) : SpV (spKind K P f) [v] H (.bl false) := fun H1 Q E g q => ⟨_, rfl, g.tab t, .inr ⟨n.mono g, q⟩⟩

/-! ### what is a row -/
theorem in_words (z : Str) (l : List Str) : inV (.str z) (l.map V.str) = decide (z ∈ l) := by
  unfold inV
  rw [Bool.eq_iff_iff, List.any_eq_true, decide_eq_true_eq]
  have e : ∀ a b : Str, eqV (.str a) (.str b) = decide (V.str b = V.str a) := fun a b => by
    rw [dec_str]
    exact Bool.beq_comm ..
  constructor
  · rintro ⟨u, hu, h⟩
    obtain ⟨s, hs, rfl⟩ := List.mem_map.mp hu
    rw [e] at h
    have := V.str.inj (of_decide_eq_true h)
    rw [this]
    exact hs
  · intro h
    exact ⟨.str z, List.mem_map.mpr ⟨z, h, rfl⟩, by rw [e]; exact decide_eq_true rfl⟩
theorem flat_words : ∀ l : List Str, (l.map V.str).all flatV = true
  | [] => rfl
  | _ :: l => by rw [List.map_cons, List.all_cons, flat_words l]; rfl
/-- a call whose second argument is a new tuple -/
theorem v_callU {σ : L2.St} {H : Hp} {t1 t2 : TE} {sp : Sp} {E : XK} {x z : V} {xs : List V} (a : Vl t1 σ H x) (d : Tu t2 σ H xs) (k : ∀ p H1, Gr H H1 → H1 p = some (.tup xs) → SpV sp [x, .ref p] H1 z) : Vl (tCall sp [] E (tCons t1 (tCons t2 tNil))) σ H z :=
  fun H1 Q g q => a H1 _ g fun H2 g2 => d H2 _ (g.trans g2) fun p H3 _ g3 e => k p H3 ((g.trans g2).trans g3) e H3 Q _ (.refl _) fun H4 g4 => q H4 ((g2.trans g3).trans g4)
/-- a text of some length, or no text -/
def Thing (K : PySem.W.Frag) (v : V) (H : Hp) : Prop := (∃ z, v = .str z ∧ z.length ≤ 100000) ∨ (NoStr K v H ∧ ∀ z, v ≠ .str z)
theorem Thing.mono {K : PySem.W.Frag} {v : V} {H H' : Hp} (g : Gr H H') (h : Thing K v H) : Thing K v H' := h.imp id fun ⟨a, b⟩ => ⟨a.mono g, b⟩
def nameV : V → Bool
  | .str z => nameB z
  | _ => false
def wishV : V → Bool
  | .str z => decide (z = rd) || decide (z = wr)
  | _ => false
def wordV (l : List Str) : V → Bool
  | .str z => decide (z ∈ l)
  | _ => false
def rowV : List V → Bool
  | [w, n, x] => wordV ["came", "begins"] w && (nameV n && wishV x)
  | [w, n] => wordV ["left", "asked", "eased"] w && nameV n
  | _ => false
theorem wishV_B (z : Str) : wishV (.str z) = wishB z := by
  rw [wish_is]
  show (decide (z = rd) || decide (z = wr)) = _
  have e : ∀ a b : Str, decide (a = b) = decide (V.str a = V.str b) := fun a b => decide_eq_decide.mpr ⟨congrArg V.str, V.str.inj⟩
  rw [e, e]
theorem no_of {v : V} (h : ∀ z, v ≠ .str z) : nameV v = false ∧ wishV v = false ∧ ∀ l, wordV l v = false := by
  cases v <;> first | exact absurd rfl (h _) | exact ⟨rfl, rfl, fun _ => rfl⟩
theorem rowV_ok {r : JRow} : rowV (JRow.vs r) = true ↔ r.ok := by
  unfold JRow.vs JRow.ok
  constructor
  · intro h
    match r, h with
    | [w, n, x], h =>
      simp only [List.map_cons, List.map_nil, rowV, Bool.and_eq_true, wordV, nameV, wishV, Bool.or_eq_true, decide_eq_true_eq, List.mem_cons, List.not_mem_nil, or_false] at h
      exact ⟨w, n, h.2.1, .inl ⟨h.1, x, h.2.2, rfl⟩⟩
    | [w, n], h =>
      simp only [List.map_cons, List.map_nil, rowV, Bool.and_eq_true, wordV, nameV, decide_eq_true_eq, List.mem_cons, List.not_mem_nil, or_false] at h
      exact ⟨w, n, h.2, .inr ⟨h.1, rfl⟩⟩
    | [], h => simp [rowV] at h
    | [_], h => simp [rowV] at h
    | _ :: _ :: _ :: _ :: _, h => simp [rowV] at h
  · rintro ⟨w, n, hn, ⟨hw, x, hx, rfl⟩ | ⟨hw, rfl⟩⟩
    · simp only [List.map_cons, List.map_nil, rowV, Bool.and_eq_true, wordV, nameV, wishV, Bool.or_eq_true, decide_eq_true_eq, List.mem_cons, List.not_mem_nil, or_false]
      exact ⟨hw, hn, hx⟩
    · simp only [List.map_cons, List.map_nil, rowV, Bool.and_eq_true, wordV, nameV, decide_eq_true_eq, List.mem_cons, List.not_mem_nil, or_false]
      exact ⟨hw, hn⟩
def spIsWord (K : PySem.W.Frag) : Sp := fun vs H Q _ => ∃ (v : V) (p : Addr) (l : List Str), vs = [v, .ref p] ∧ Thing K v H ∧ SqT K H p (l.map V.str) ∧ RV (.bl (wordV l v)) H Q
theorem sv_isword {K : PySem.W.Frag} {H : Hp} {v : V} {p : Addr} {l : List Str} (h : Thing K v H) (s : SqT K H p (l.map V.str)) : SpV (spIsWord K) [v, .ref p] H (.bl (wordV l v)) := fun H1 Q E g q => ⟨v, p, l, rfl, h.mono g, g.st s, q⟩
theorem sv_name {K : PySem.W.Frag} {P : Addr} {H : Hp} {v : V} (t : GxR.TabG H P) (h : Thing K v H) : SpV (spKind K P nameB) [v] H (.bl (nameV v)) := by
  rcases h with ⟨z, rfl, hz⟩ | ⟨n, no⟩
  · exact sv_kindS t hz
  · rw [(no_of no).1]
    exact sv_kindN t n
theorem sv_wishv {K : PySem.W.Frag} {P : Addr} {H : Hp} {v : V} (t : GxR.TabG H P) (h : Thing K v H) : SpV (spKind K P wishB) [v] H (.bl (wishV v)) := by
  rcases h with ⟨z, rfl, hz⟩ | ⟨n, no⟩
  · rw [wishV_B]
    exact sv_kindS t hz
  · rw [(no_of no).2.1]
    exact sv_kindN t n
/-- a thing of a known kind that is no tuple -/
def NoTup (K : PySem.W.Frag) (v : V) (H : Hp) : Prop := ∃ n : String, TyX K H v (.type n) ∧ PySem.W.kitOne K (.type n) (.type "tuple") = some false
theorem NoTup.mono {K : PySem.W.Frag} {v : V} {H H' : Hp} (g : Gr H H') (h : NoTup K v H) : NoTup K v H' := let ⟨n, a, b⟩ := h; ⟨n, g.tyX a, b⟩
def spIsRow (K : PySem.W.Frag) (P : Addr) : Sp := fun vs H Q _ => ∃ v : V, vs = [v] ∧ GxR.TabG H P ∧ ((∃ p xs, v = .ref p ∧ H p = some (.tup xs) ∧ (∀ x ∈ xs, Thing K x H) ∧ RV (.bl (rowV xs)) H Q) ∨ (NoTup K v H ∧ RV (.bl false) H Q))
theorem sv_isrow {K : PySem.W.Frag} {P : Addr} {H : Hp} {p : Addr} {xs : List V} (t : GxR.TabG H P) (h : H p = some (.tup xs)) (th : ∀ x ∈ xs, Thing K x H) : SpV (spIsRow K P) [.ref p] H (.bl (rowV xs)) := fun H1 Q E g q => ⟨_, rfl, g.tab t, .inl ⟨p, xs, rfl, g.tup h, fun x hx => (th x hx).mono g, q⟩⟩
theorem sv_norow {K : PySem.W.Frag} {P : Addr} {H : Hp} {v : V} (t : GxR.TabG H P) (h : NoTup K v H) : SpV (spIsRow K P) [v] H (.bl false) := fun H1 Q E g q => ⟨v, rfl, g.tab t, .inr ⟨h.mono g, q⟩⟩

/-! ### joined, split -/
theorem glue1 (y x : Str) : Txt.join y [x] = x := by
  rw [TL.join_eq]
  rfl
theorem glue (y x : Str) : ∀ {l : List Str}, l ≠ [] → Txt.join y (x :: l) = x ++ y ++ Txt.join y l
  | [], h => absurd rfl h
  | z :: r, _ => by
    rw [TL.join_eq, TL.join_eq]
    rfl
theorem cat_nil (x : Str) : x ++ "" = x := TL.ext_tl (by rw [TL.tl_append]; exact List.append_nil _)
theorem nil_cat (x : Str) : "" ++ x = x := TL.ext_tl (by rw [TL.tl_append]; exact List.nil_append _)
theorem glue0 (x : Str) : ∀ (l : List Str), Txt.join "" (x :: l) = x ++ Txt.join "" l
  | [] => by
    rw [glue1]
    exact (cat_nil x).symm
  | z :: r => by rw [glue _ _ (List.cons_ne_nil _ _), cat_nil]
theorem cat_assoc (a b c : Str) : a ++ b ++ c = a ++ (b ++ c) := congrArg Str.mk (Array.append_assoc (xs := a.cps) (ys := b.cps) (zs := c.cps))
/-- ended lines are lines with nothing behind the last end -/
theorem ended (l : List Str) : Txt.join "" (l.map fun x => x ++ "\n") = Txt.join "\n" (l ++ ([""] : List Str)) := by
  induction l with
  | nil => rw [List.nil_append, glue1]; rfl
  | cons x l ih =>
    rw [List.map_cons, glue0, ih, List.cons_append, glue _ _ (by simp)]
theorem glue_len (y : Str) (n : Nat) (hy : y.length = n) : ∀ (l : List Str) (b : Nat), (∀ x ∈ l, x.length ≤ b) → (Txt.join y l).length ≤ l.length * (b + n)
  | [], b, _ => by rw [TL.join_eq]; exact Nat.zero_le _
  | [x], b, h => by
    rw [glue1]
    have := h x (by simp)
    simp only [List.length_singleton, Nat.one_mul]
    omega
  | x :: z :: r, b, h => by
    rw [glue _ _ (List.cons_ne_nil _ _), cat_len, cat_len, hy]
    have i := glue_len y n hy (z :: r) b fun u hu => h u (List.mem_cons_of_mem _ hu)
    have := h x (by simp)
    rw [List.length_cons, Nat.succ_mul]
    omega
theorem sum_len : ∀ (l : List Str) (b : Nat), (∀ x ∈ l, x.length ≤ b) → (l.map (·.length)).sum ≤ l.length * b
  | [], b, _ => Nat.zero_le _
  | x :: l, b, h => by
    have i := sum_len l b fun u hu => h u (List.mem_cons_of_mem _ hu)
    have := h x (by simp)
    rw [List.map_cons, List.sum_cons, List.length_cons, Nat.succ_mul]
    omega
section
variable {K : PySem.W.Frag} {σ : L2.St} {H H' : Hp} {t1 t2 t3 : TE} {c1 c2 : TT} {x y z v : V} {D : Ends} {u1 u2 : TS}
theorem v_joinT {a : Str} {p : Addr} {ys : List Str} (h : Vl t1 σ H (.str a)) (k : Vl t2 σ H (.ref p)) (s : H p = some (.tup (ys.map V.str))) (n : (ys.map (·.length)).sum + ys.length * a.length ≤ 16777216) : Vl (tBM K "str" (rJoin K) t1 (tCons t2 tNil)) σ H (.str (Txt.join a ys)) :=
  fun H1 Q g q => h H1 _ g fun H2 g2 => ⟨rfl, k H2 _ (g.trans g2) fun H3 g3 => ⟨a, p, ys, rfl, rfl, .inr (SqT.of (((g.trans g2).trans g3).tup s)), n, q H3 (g2.trans g3)⟩⟩
theorem v_joinN {a : Str} {ys : List Str} (h : Vl t1 σ H (.str a)) (k : Ls t2 σ H (ys.map V.str)) (n : (ys.map (·.length)).sum + ys.length * a.length ≤ 16777216) : Vl (tBM K "str" (rJoin K) t1 (tCons t2 tNil)) σ H (.str (Txt.join a ys)) :=
  fun H1 Q g q => h H1 _ g fun H2 g2 => ⟨rfl, k H2 _ (g.trans g2) fun p H3 hp g3 e => ⟨a, p, ys, rfl, rfl, .inl (SqL.of e), n, q H3 (g2.trans g3)⟩⟩
abbrev rSplit : V → List V → Hp → VK → Prop := fun x xs H Q => ∃ a b, x = .str a ∧ xs = [.str b] ∧ (b.length == 0) = false ∧ a.length + 2 ≤ sizeLine ∧ rNewStrs (Txt.split a b) H Q
theorem l_split {a b : Str} (h : Vl t1 σ H (.str a)) (k : Vl t2 σ H (.str b)) (nb : (b.length == 0) = false) (n : a.length + 2 ≤ 100000) : Ls (tBM K "str" rSplit t1 (tCons t2 tNil)) σ H ((Txt.split a b).map V.str) :=
  fun H1 Q g q => h H1 _ g fun H2 g2 => ⟨rfl, k H2 _ (g.trans g2) fun H3 g3 => ⟨a, b, rfl, rfl, nb, small n, fun p hp => q p _ ((g2.trans g3).free hp) ((g2.trans g3).trans (.new hp)) upd_same⟩⟩
theorem if_b {b c : Bool} {A B : Prop} (e : b = c) (h : if c = true then A else B) : if b = true then A else B := e ▸ h
/-- if xs.pop() != a text -/
theorem B_whenPop {l : Addr} {xs : List V} {a b : Str} (h : Vl t1 σ H (.ref l)) (hl : H l = some (.lst xs)) (e : xs[xs.length - 1]? = some (.str a)) (k1 : a ≠ b → ∀ H1, Gr H H1 → u1 { D with nx := u2 D } σ (upd H1 l (.lst xs.dropLast))) (k2 : a = b → ∀ H1, Gr H H1 → u2 D σ (upd H1 l (.lst xs.dropLast))) :
    tSeq (tIfS (tTest (tOp rNe (tBM0 K "list" rPop t1) (tC (.str b)))) u1 tNext) u2 D σ H := h H _ (.refl _) fun H1 g => ⟨.inl ⟨rfl, xs, SqL.of (g.lst hl)⟩, l, xs, .str a, rfl, rfl, g.lst hl, e, rfl, _, rfl, by
  by_cases n : a = b
  · exact if_b (c := false) (by subst n; simp) (iteF (k2 n H1 g))
  · exact if_b (c := true) (by simp [n]) (iteT (k1 n H1 g))⟩
/-- a comprehension whose elements are tuples, told by the place -/
theorem r_cmpV {β : Type} {g : β → List V} (F : Nat → β) {a : Addr} {xs : List V} {j : Nat} {ws : List Nat} (h : Vl t2 σ H (.ref a)) (s : SqL K H a xs) (hz : xs.length ≤ 40000) (hw : ∀ x, wipe ((wipe σ ws).set j (some x)) ws = wipe σ ws)
    (he : ∀ (m : Nat) (x : V) H1, Gr H H1 → xs[m]? = some x → Vr t1 ((wipe σ ws).set j (some x)) H1 (fun v H2 => ∃ p, v = .ref p ∧ H2 p = some (.tup (g (F m))))) :
    Vr (tLc (iList K t2) (gName j) tYes t1 ws) σ H (fun v H1 => ∃ la ya, v = .ref la ∧ H la = none ∧ H1 la = some (.lst ya) ∧ TupsAt H1 g ya ((List.range xs.length).map F)) := fun H0 Q gr q => h H0 _ gr fun H1 g1 => ⟨a, rfl, ⟨xs, (gr.trans g1).sl s⟩, fun p hp =>
  lc_list (xs := xs) (fun m H' => H1 p = none ∧ Gr H1 H' ∧ ∃ ya, H' p = some (.lst ya) ∧ TupsAt H' g ya ((List.range m).map F)) ⟨hp, .new hp, [], upd_same, .nil⟩ (fun _ H' _ w => ((gr.trans g1).trans w.2.1).sl s) (fun m x H' hm ⟨w1, w2, ya, w3, w4⟩ => ⟨hw x, s_yes H' _ (.refl _) fun H3 g3 => iteT (he m x H3 (((gr.trans g1).trans w2).trans g3) hm H3 _ (.refl _) fun v H4 g4 ⟨t, ev, e4⟩ => by
    subst ev
    have hp4 := g4.lst (g3.lst w3)
    have ly := w4.length
    rw [List.length_map, List.length_range] at ly
    have hm2 := (List.getElem?_eq_some_iff.mp hm).1
    refine ⟨ya, hp4, small' (by omega), w1, ((w2.trans g3).trans g4).chg w1, ya ++ [.ref t], upd_same, ?_⟩
    rw [List.range_succ, List.map_append]
    exact ((w4.mono (g3.trans g4)).chg fun ts z => by rw [hp4] at z; cases z).snoc ((upd_ne fun z => by rw [z, hp4] at e4; cases e4).trans e4))⟩)
    fun H' ⟨w1, w2, ya, w3, w4⟩ => q _ H' (g1.trans w2) ⟨p, ya, rfl, (gr.trans g1).free w1, w3, w4⟩⟩
/-- a new tuple made of a new list -/
theorem u_ofL {xs : List V} (h : Ls t1 σ H xs) : Tu (tCB (fun xs H Q => ∃ p ys, xs = [.ref p] ∧ ((SqL K H p ys ∧ ∀ l, H l = none → Q (.ref l) (upd H l (.tup ys))) ∨ (SqT K H p ys ∧ Q (.ref p) H))) (tCons t1 tNil)) σ H xs :=
  fun H1 Q g q => h H1 _ g fun p H2 hp g2 e => ⟨p, xs, rfl, .inl ⟨SqL.of e, fun l hl => q l _ (g2.free hl) (g2.trans (.new hl)) upd_same⟩⟩
end
theorem things_str {K : PySem.W.Frag} {H : Hp} {ws : List Str} {b : Nat} (hb : b ≤ 100000) (h : ∀ s ∈ ws, s.length ≤ b) : ∀ x ∈ ws.map V.str, Thing K x H := fun x hx => by
  obtain ⟨s, hs, rfl⟩ := List.mem_map.mp hx
  exact .inl ⟨s, rfl, Nat.le_trans (h s hs) hb⟩
/-- a line's words -/
def wordsOf (z : Str) : JRow := Txt.split z " "
def lineOk (z : Str) : Bool := rowV (JRow.vs (wordsOf z))
def spRowOf (K : PySem.W.Frag) (P : Addr) : Sp := fun vs H Q E => ∃ z : Str, vs = [.str z] ∧ GxR.TabG H P ∧ z.length ≤ 10000 ∧ (lineOk z = true → RR_ (fun v H1 => ∃ p, v = .ref p ∧ H1 p = some (.tup (JRow.vs (wordsOf z)))) H Q) ∧ (lineOk z = false → ∀ H1, Gr H H1 → E (.ref (He.ga K "BadText")) none H1)

def topS (i : Nat) : Stmt := PySem.Challenge.pw_readwriteroom_k11_told_and_read.main.body.getD i (.Pass ⟨0, 0, 0, 0⟩)
abbrev sIsName : Stmt := topS 8
abbrev nmIsName : List Str := ["thing"]
theorem start_IsName (v0 : V) : L2.start nmIsName [v0] = [some v0] := rfl
theorem scIsName : FnScope nmIsName ["thing"] (defScope sIsName) := ⟨rfl, rfl, rfl, by decide +kernel, rfl, by decide +kernel, by decide +kernel⟩
abbrev sIsWish : Stmt := topS 9
abbrev nmIsWish : List Str := ["thing"]
theorem start_IsWish (v0 : V) : L2.start nmIsWish [v0] = [some v0] := rfl
theorem scIsWish : FnScope nmIsWish ["thing"] (defScope sIsWish) := ⟨rfl, rfl, rfl, by decide +kernel, rfl, by decide +kernel, by decide +kernel⟩
abbrev sIsWord : Stmt := topS 16
abbrev nmIsWord : List Str := ["thing", "words"]
theorem start_IsWord (v0 v1 : V) : L2.start nmIsWord [v0, v1] = [some v0, some v1] := rfl
theorem scIsWord : FnScope nmIsWord ["thing", "words"] (defScope sIsWord) := ⟨rfl, rfl, rfl, by decide +kernel, rfl, by decide +kernel, by decide +kernel⟩
abbrev sIsRow : Stmt := topS 17
abbrev nmIsRow : List Str := ["thing", "word", "name", "wish"]
theorem start_IsRow (v0 : V) : L2.start nmIsRow [v0] = [some v0, none, none, none] := rfl
theorem scIsRow : FnScope nmIsRow ["thing"] (defScope sIsRow) := ⟨rfl, rfl, rfl, by decide +kernel, rfl, by decide +kernel, by decide +kernel⟩
abbrev sTold : Stmt := topS 20
abbrev nmTold : List Str := ["rows", "row"]
theorem start_Told (v0 : V) : L2.start nmTold [v0] = [some v0, none] := rfl
theorem scTold : FnScope nmTold ["rows"] (defScope sTold) := ⟨rfl, rfl, rfl, by decide +kernel, rfl, by decide +kernel, by decide +kernel⟩
abbrev sRowOf : Stmt := topS 21
abbrev nmRowOf : List Str := ["line", "row"]
theorem start_RowOf (v0 : V) : L2.start nmRowOf [v0] = [some v0, none] := rfl
theorem scRowOf : FnScope nmRowOf ["line"] (defScope sRowOf) := ⟨rfl, rfl, rfl, by decide +kernel, rfl, by decide +kernel, by decide +kernel⟩
abbrev sReadT : Stmt := topS 22
abbrev nmReadT : List Str := ["text", "lines", "line"]
theorem start_ReadT (v0 : V) : L2.start nmReadT [v0] = [some v0, none, none] := rfl
theorem scReadT : FnScope nmReadT ["text"] (defScope sReadT) := ⟨rfl, rfl, rfl, by decide +kernel, rfl, by decide +kernel, by decide +kernel⟩
abbrev sCell : Stmt := topS 24
abbrev nmCell : List Str := ["_law_script", "_law_k"]
theorem start_Cell (v0 v1 : V) : L2.start nmCell [v0, v1] = [some v0, some v1] := rfl
theorem scCell : FnScope nmCell ["_law_script", "_law_k"] (defScope sCell) := ⟨rfl, rfl, rfl, by decide +kernel, rfl, by decide +kernel, by decide +kernel⟩
abbrev sPeople : Stmt := topS 25
abbrev nmPeople : List Str := ["_law_cell", "_law_many", "_law_some", "_law_head", "_law_rest", "_law_k", "_law_way", "_law_left", "_law_right"]
theorem start_People (v0 v1 : V) : L2.start nmPeople [v0, v1] = [some v0, some v1, none, none, none, none, none, none, none] := rfl
theorem scPeople : FnScope nmPeople ["_law_cell", "_law_many"] (defScope sPeople) := ⟨rfl, rfl, rfl, by decide +kernel, rfl, by decide +kernel, by decide +kernel⟩
abbrev sWish : Stmt := topS 26
abbrev nmWish : List Str := ["_law_cell"]
theorem start_Wish (v0 : V) : L2.start nmWish [v0] = [some v0] := rfl
theorem scWish : FnScope nmWish ["_law_cell"] (defScope sWish) := ⟨rfl, rfl, rfl, by decide +kernel, rfl, by decide +kernel, by decide +kernel⟩
abbrev sAlike : Stmt := topS 27
abbrev nmAlike : List Str := ["_law_found", "_law_due", "_law_k", "_law_word"]
theorem start_Alike (v0 v1 : V) : L2.start nmAlike [v0, v1] = [some v0, some v1, none, none] := rfl
theorem scAlike : FnScope nmAlike ["_law_found", "_law_due"] (defScope sAlike) := ⟨rfl, rfl, rfl, by decide +kernel, rfl, by decide +kernel, by decide +kernel⟩
abbrev sRowsBy : Stmt := topS 28
abbrev nmRowsBy : List Str := ["_law_script", "_law_many", "_law_people_here", "_law_rows", "_law_k", "_law_cell", "_law_who", "_law_word"]
theorem start_RowsBy (v0 : V) : L2.start nmRowsBy [v0] = [some v0, none, none, none, none, none, none, none] := rfl
theorem scRowsBy : FnScope nmRowsBy ["_law_script"] (defScope sRowsBy) := ⟨rfl, rfl, rfl, by decide +kernel, rfl, by decide +kernel, by decide +kernel⟩
abbrev sLaw : Stmt := topS 29
abbrev nmLaw : List Str := ["_law_script", "_law_rows", "_law_handed", "_law_due", "_law_row", "_law_found", "_law_first"]
theorem start_Law (v0 : V) : L2.start nmLaw [v0] = [some v0, none, none, none, none, none, none] := rfl
theorem scLaw : FnScope nmLaw ["_law_script"] (defScope sLaw) := ⟨rfl, rfl, rfl, by decide +kernel, rfl, by decide +kernel, by decide +kernel⟩
structure Top (K : PySem.W.Frag) (mg : Str → Option Value) where
  f_IsName : Addr
  fd_IsName : FuncData
  F_IsName : Fun K "is_name" "is_name" sIsName f_IsName fd_IsName
  B_IsName : Binds K fd_IsName ["thing"] []
  g_IsName : mg "is_name" = some (.ref f_IsName)
  co_IsName : Addr
  ta_IsName : Addr
  cd_IsName : fd_IsName.code = .ref co_IsName
  f_IsWish : Addr
  fd_IsWish : FuncData
  F_IsWish : Fun K "is_wish" "is_wish" sIsWish f_IsWish fd_IsWish
  B_IsWish : Binds K fd_IsWish ["thing"] []
  g_IsWish : mg "is_wish" = some (.ref f_IsWish)
  f_IsWord : Addr
  fd_IsWord : FuncData
  F_IsWord : Fun K "is_word" "is_word" sIsWord f_IsWord fd_IsWord
  B_IsWord : Binds K fd_IsWord ["thing", "words"] []
  g_IsWord : mg "is_word" = some (.ref f_IsWord)
  f_IsRow : Addr
  fd_IsRow : FuncData
  F_IsRow : Fun K "is_row" "is_row" sIsRow f_IsRow fd_IsRow
  B_IsRow : Binds K fd_IsRow ["thing"] []
  g_IsRow : mg "is_row" = some (.ref f_IsRow)
  f_Told : Addr
  fd_Told : FuncData
  F_Told : Fun K "told" "told" sTold f_Told fd_Told
  B_Told : Binds K fd_Told ["rows"] []
  g_Told : mg "told" = some (.ref f_Told)
  f_RowOf : Addr
  fd_RowOf : FuncData
  F_RowOf : Fun K "row_of" "row_of" sRowOf f_RowOf fd_RowOf
  B_RowOf : Binds K fd_RowOf ["line"] []
  g_RowOf : mg "row_of" = some (.ref f_RowOf)
  f_ReadT : Addr
  fd_ReadT : FuncData
  F_ReadT : Fun K "read" "read" sReadT f_ReadT fd_ReadT
  B_ReadT : Binds K fd_ReadT ["text"] []
  g_ReadT : mg "read" = some (.ref f_ReadT)
  f_Cell : Addr
  fd_Cell : FuncData
  F_Cell : Fun K "_law_cell_at" "_law_cell_at" sCell f_Cell fd_Cell
  B_Cell : Binds K fd_Cell ["_law_script", "_law_k"] []
  g_Cell : mg "_law_cell_at" = some (.ref f_Cell)
  f_People : Addr
  fd_People : FuncData
  F_People : Fun K "_law_people" "_law_people" sPeople f_People fd_People
  B_People : Binds K fd_People ["_law_cell", "_law_many"] []
  g_People : mg "_law_people" = some (.ref f_People)
  f_Wish : Addr
  fd_Wish : FuncData
  F_Wish : Fun K "_law_wish_by" "_law_wish_by" sWish f_Wish fd_Wish
  B_Wish : Binds K fd_Wish ["_law_cell"] []
  g_Wish : mg "_law_wish_by" = some (.ref f_Wish)
  f_Alike : Addr
  fd_Alike : FuncData
  F_Alike : Fun K "_law_rows_alike" "_law_rows_alike" sAlike f_Alike fd_Alike
  B_Alike : Binds K fd_Alike ["_law_found", "_law_due"] []
  g_Alike : mg "_law_rows_alike" = some (.ref f_Alike)
  f_RowsBy : Addr
  fd_RowsBy : FuncData
  F_RowsBy : Fun K "_law_rows_by" "_law_rows_by" sRowsBy f_RowsBy fd_RowsBy
  B_RowsBy : Binds K fd_RowsBy ["_law_script"] []
  g_RowsBy : mg "_law_rows_by" = some (.ref f_RowsBy)
  f_Law : Addr
  fd_Law : FuncData
  F_Law : Fun K "law" "law" sLaw f_Law fd_Law
  B_Law : Binds K fd_Law ["_law_script"] []
  g_Law : mg "law" = some (.ref f_Law)
  gc_BadText : mg "BadText" = some (.ref (He.ga K "BadText"))
  xx_BadText : PySem.W.excIn K (He.ga K "BadText") [.type "ValueError", .type "Exception", .type "BaseException", .type "object"] "ValueError.__new__" = true ∧ PySem.W.keepIn K (.ref (He.ga K "BadText")) = true ∧ PySem.W.subIn K (.ref (He.ga K "BadText")) (.type "BaseException") = some true ∧ PySem.W.typeIn K (.ref (He.ga K "BadText")) = some (.type "type")
  m_all : mg "all" = none
  m_int : mg "int" = none
  m_isinstance : mg "isinstance" = none
  m_len : mg "len" = none
  m_list : mg "list" = none
  m_range : mg "range" = none
  m_str : mg "str" = none
  m_tuple : mg "tuple" = none
  t_ASKED : Tok
  c_ASKED : mg "ASKED" = some (.str (Str.ofString "asked") t_ASKED)
  t_BEGINS : Tok
  c_BEGINS : mg "BEGINS" = some (.str (Str.ofString "begins") t_BEGINS)
  t_CAME : Tok
  c_CAME : mg "CAME" = some (.str (Str.ofString "came") t_CAME)
  t_EASED : Tok
  c_EASED : mg "EASED" = some (.str (Str.ofString "eased") t_EASED)
  t_LEFT : Tok
  c_LEFT : mg "LEFT" = some (.str (Str.ofString "left") t_LEFT)
  t_LINE_END : Tok
  c_LINE_END : mg "LINE_END" = some (.str (Str.ofString "\n") t_LINE_END)
  t_NAME_LENGTH : Tok
  c_NAME_LENGTH : mg "NAME_LENGTH" = some (.int 12 t_NAME_LENGTH)
  t_NAME_SIGNS : Tok
  c_NAME_SIGNS : mg "NAME_SIGNS" = some (.str (Str.ofString "abcdefghijklmnopqrstuvwxyz0123456789") t_NAME_SIGNS)
  t_READ : Tok
  c_READ : mg "READ" = some (.str (Str.ofString "read") t_READ)
  t_WRITE : Tok
  c_WRITE : mg "WRITE" = some (.str (Str.ofString "write") t_WRITE)
structure Tabs {K : PySem.W.Frag} {mg : Str → Option Value} (T : Top K mg) (base : Heap) : Prop where
  IsName : GxR.TabB base mg T.co_IsName T.ta_IsName
/-! ### the text of rows -/
def addRow (t : Str) (r : JRow) : Str := match r with
  | [a, b] => t ++ a ++ " " ++ b ++ "\n"
  | [a, b, c] => t ++ a ++ " " ++ b ++ " " ++ c ++ "\n"
  | _ => t
def textOf (l : List JRow) : Str := l.foldl addRow ""
theorem textOf_snoc (l : List JRow) (r : JRow) : textOf (l ++ [r]) = addRow (textOf l) r := by
  unfold textOf
  rw [List.foldl_append]
  rfl
theorem addRow_len {t : Str} {r : JRow} (h : r.ok) : (addRow t r).length ≤ t.length + 27 := by
  obtain ⟨w, n, hn, h⟩ := h
  obtain ⟨_, n2, _⟩ := nameB_is hn
  have e1 : (" " : Str).length = 1 := rfl
  have e2 : ("\n" : Str).length = 1 := rfl
  rcases h with ⟨hw, x, hx, rfl⟩ | ⟨hw, rfl⟩
  · have aw := (word_asc (w := w) (by rcases hw with rfl | rfl <;> decide)).2
    have ax := (word_asc (w := x) (by rcases hx with rfl | rfl <;> decide)).2
    show (t ++ w ++ " " ++ n ++ " " ++ x ++ "\n").length ≤ _
    simp only [cat_len, e1, e2]
    omega
  · have aw := (word_asc (w := w) (by rcases hw with rfl | rfl | rfl <;> decide)).2
    show (t ++ w ++ " " ++ n ++ "\n").length ≤ _
    simp only [cat_len, e1, e2]
    omega
theorem textOf_len : ∀ (m : Nat) (l : List JRow), (∀ r ∈ l, r.ok) → (textOf (l.take m)).length ≤ 27 * m
  | 0, l, _ => by rw [List.take_zero]; decide
  | m + 1, l, h => by
    have i := textOf_len m l h
    rw [List.take_succ]
    cases e : l[m]? with
    | none => rw [Option.toList_none, List.append_nil]; omega
    | some r =>
      rw [Option.toList_some, textOf_snoc]
      have := addRow_len (t := textOf (l.take m)) (h r (List.mem_of_getElem? e))
      omega
theorem textOf_left (l : List JRow) : textOf (l ++ ([["left", "a1"]] : List JRow)) = textOf l ++ "left a1\n" := by
  rw [textOf_snoc]
  show textOf l ++ "left" ++ " " ++ "a1" ++ "\n" = _
  rw [cat_assoc, cat_assoc, cat_assoc]
  exact congrArg (textOf l ++ ·) (by decide +kernel)
/-- told of a list of good rows; read of a text of such -/
def spTold (K : PySem.W.Frag) : Sp := fun vs H Q _ => ∃ (p : Addr) (xs : List V) (l : List JRow), vs = [.ref p] ∧ H p = some (.lst xs) ∧ TupsAt H JRow.vs xs l ∧ l.length ≤ 401 ∧ (∀ r ∈ l, r.ok) ∧ RV (.str (textOf l)) H Q
theorem sv_told {K : PySem.W.Frag} {H : Hp} {p : Addr} {xs : List V} {l : List JRow} (hp : H p = some (.lst xs)) (t : TupsAt H JRow.vs xs l) (n : l.length ≤ 401) (o : ∀ r ∈ l, r.ok) : SpV (spTold K) [.ref p] H (.str (textOf l)) := fun H1 Q E e q => ⟨p, xs, l, rfl, e.lst hp, t.mono e, n, o, q⟩
/-- a new list of these rows -/
def NewRows (H : Hp) (l : List JRow) (v : V) (H1 : Hp) : Prop := ∃ (p : Addr) (xs : List V), v = .ref p ∧ H p = none ∧ H1 p = some (.lst xs) ∧ TupsAt H1 JRow.vs xs l
def spRead (K : PySem.W.Frag) (P : Addr) : Sp := fun vs H Q _ => ∃ l : List JRow, vs = [.str (textOf l)] ∧ GxR.TabG H P ∧ l.length ≤ 401 ∧ (∀ r ∈ l, r.ok) ∧ RR_ (NewRows H l) H Q
theorem sr_read {K : PySem.W.Frag} {P : Addr} {H : Hp} {l : List JRow} (t : GxR.TabG H P) (n : l.length ≤ 401) (o : ∀ r ∈ l, r.ok) : SpR (spRead K P) [.str (textOf l)] H (NewRows H l) := fun H1 Q E e q => ⟨l, rfl, e.tab t, n, o, fun v H2 e2 ⟨p, xs, a, b, c⟩ => q v H2 e2 ⟨p, xs, a, e.free b, c⟩⟩
def spLaw (K : PySem.W.Frag) (P : Addr) : Sp := fun vs H Q _ => ∃ (a : Addr) (ns : List Int), vs = [.ref a] ∧ SqL K H a (ns.map V.int) ∧ GxR.TabG H P ∧ ∀ H', Q (.bl true) H'
theorem tab_chg {H : Hp} {P p : Addr} {xs : List V} {o : HO} (t : GxR.TabG H P) (h : H p = some (.lst xs)) : GxR.TabG (upd H p o) P := by
  obtain ⟨ps, a, b⟩ := t
  exact ⟨ps, (upd_ne fun z => by rw [z, h] at a; cases a).trans a, b⟩
theorem told_go : ∀ (l : List JRow) (t : Str), (∀ r ∈ l, r.ok) → l.foldl addRow t = t ++ Txt.join "" (l.map fun r => Txt.join " " r ++ "\n")
  | [], t, _ => by
    rw [List.map_nil, TL.join_eq]
    exact (cat_nil t).symm
  | r :: l, t, h => by
    rw [List.foldl_cons, told_go l _ fun x hx => h x (List.mem_cons_of_mem _ hx), List.map_cons, glue0, ← cat_assoc]
    congr 1
    obtain ⟨w, n, _, ⟨_, x, _, rfl⟩ | ⟨_, rfl⟩⟩ := h r List.mem_cons_self
    · show t ++ w ++ " " ++ n ++ " " ++ x ++ "\n" = _
      rw [glue _ _ (List.cons_ne_nil _ _), glue _ _ (List.cons_ne_nil _ _), glue1]
      simp only [cat_assoc]
    · show t ++ w ++ " " ++ n ++ "\n" = _
      rw [glue _ _ (List.cons_ne_nil _ _), glue1]
      simp only [cat_assoc]
theorem told_is (l : List JRow) (h : ∀ r ∈ l, r.ok) : Txt.join "" (l.map fun r => Txt.join " " r ++ "\n") = textOf l := by
  unfold textOf
  rw [told_go l _ h, nil_cat]
/-- no blank, no line end in a word -/
theorem words_free {r : JRow} (h : r.ok) : ∀ s ∈ r, (32 : Nat) ∉ TL.tl s ∧ (10 : Nat) ∉ TL.tl s := by
  have nm : ∀ {n : Str}, nameB n = true → (32 : Nat) ∉ TL.tl n ∧ (10 : Nat) ∉ TL.tl n := fun hn => by
    have sg := (nameB_is hn).2.2
    have k : (32 : Nat) ∉ signs.cps.toList ∧ (10 : Nat) ∉ signs.cps.toList := by decide +kernel
    exact ⟨fun z => k.1 (sg _ z), fun z => k.2 (sg _ z)⟩
  have wd : ∀ s ∈ (["came", "begins", "left", "asked", "eased", "read", "write"] : List Str), (32 : Nat) ∉ TL.tl s ∧ (10 : Nat) ∉ TL.tl s := by decide +kernel
  obtain ⟨w, n, hn, ⟨hw, x, hx, rfl⟩ | ⟨hw, rfl⟩⟩ := h <;> intro s hs <;> simp only [List.mem_cons, List.not_mem_nil, or_false] at hs
  · rcases hs with rfl | rfl | rfl
    · exact wd _ (by rcases hw with rfl | rfl <;> decide)
    · exact nm hn
    · exact wd _ (by rcases hx with rfl | rfl <;> decide)
  · rcases hs with rfl | rfl
    · exact wd _ (by rcases hw with rfl | rfl | rfl <;> decide)
    · exact nm hn
theorem words_back {r : JRow} (h : r.ok) : wordsOf (Txt.join " " r) = r := by
  refine TL.split_join (y := " ") (s := 32) (S := []) rfl (by decide +kernel) ?_ fun p hp => (words_free h p hp).1
  obtain ⟨w, n, _, ⟨_, x, _, rfl⟩ | ⟨_, rfl⟩⟩ := h <;> exact List.cons_ne_nil _ _
theorem line_free {r : JRow} (h : r.ok) : (10 : Nat) ∉ TL.tl (Txt.join " " r) := by
  have f := words_free h
  have sp : (10 : Nat) ∉ TL.tl " " := by decide +kernel
  obtain ⟨w, n, _, ⟨_, x, _, rfl⟩ | ⟨_, rfl⟩⟩ := h
  · rw [glue _ _ (List.cons_ne_nil _ _), glue _ _ (List.cons_ne_nil _ _), glue1]
    simp only [TL.tl_append, List.mem_append, not_or]
    exact ⟨⟨(f w (by simp)).2, sp⟩, ⟨(f n (by simp)).2, sp⟩, (f x (by simp)).2⟩
  · rw [glue _ _ (List.cons_ne_nil _ _), glue1]
    simp only [TL.tl_append, List.mem_append, not_or]
    exact ⟨⟨(f w (by simp)).2, sp⟩, (f n (by simp)).2⟩
theorem text_split (l : List JRow) (h : ∀ r ∈ l, r.ok) : Txt.split (textOf l) "\n" = l.map (Txt.join " ") ++ ([""] : List Str) := by
  have e : textOf l = Txt.join "\n" (l.map (Txt.join " ") ++ ([""] : List Str)) := by
    rw [← told_is l h, ← ended, List.map_map]
    rfl
  rw [e]
  refine TL.split_join (y := "\n") (s := 10) (S := []) rfl (by decide +kernel) (by simp) fun p hp => ?_
  rcases List.mem_append.mp hp with z | z
  · obtain ⟨r, hr, rfl⟩ := List.mem_map.mp z
    exact line_free (h r hr)
  · rw [List.mem_singleton.mp z]
    decide +kernel

section
variable {P : Program} {w : World} {K : PySem.W.Frag} {mg : Str → Option Value} {base : Heap}
theorem ok_Cell (T : Top K mg) (TB : Tabs T base) : FnOk P w K mg base CX0 1 T.f_Cell T.fd_Cell ["_law_script", "_law_k"] (spCell K) := by
  refine T.F_Cell.ok scCell (fun vs H Q E h => ?_) (fun cdv A outer s H vs Q E hr h => ?_)
  · obtain ⟨a, ns, k, rfl, hS, q⟩ := h
    rfl
  · obtain ⟨a, ns, k, rfl, hS, q⟩ := h
    refine ⟨_, (pss_cons (ps_if (pt_cmpR op_lt (pv 1) (pe_callB call_len_seq (by rfl) T.m_len PySem.boot_len (pa_cons (pv 0) pa_nil)) (nomark _))
      (pss_one (ps_ret (pe_ix ix_list (pv 0) (pv 1) (fun _ _ => rfl))))
      pss_nil)
      (pss_one (ps_ret pe_int))), ?_⟩
    refine slots (start_Cell _ _) ?_
    refine' B_when (b := decide ((k : Int) < (ns.map V.int).length)) ?h ?k1 ?k2
    (case h => walk_at "et")
    all_goals intro hb H1 e1
    · have hk' : k < ns.length := by
        have := of_decide_eq_true hb
        rw [List.length_map] at this
        omega
      have g : (ns.map V.int)[k]? = some (.int (cellAt ns k)) := by
        rw [List.getElem?_map, List.getElem?_eq_getElem hk']
        unfold cellAt
        rw [List.getD_eq_getElem?_getD, List.getElem?_eq_getElem hk']
        rfl
      exact S_ret (v_op (v_slot rfl) (v_slot rfl) (bi_ixL (e1.sl hS) (atI_nat g))) fun H2 e2 => q H2 (e1.trans e2)
    · refine S_ret v_con fun H2 e2 => ?_
      have hk : ¬ k < ns.length := by
        have := of_decide_eq_false hb
        rw [List.length_map] at this
        omega
      have g : cellAt ns k = 0 := by
        unfold cellAt
        rw [List.getD_eq_getElem?_getD, List.getElem?_eq_none (by omega)]
        rfl
      rw [g] at q
      exact q H2 (e1.trans e2)
-- no Num here
theorem ok_People (T : Top K mg) (TB : Tabs T base) : FnOk P w K mg base CX0 1 T.f_People T.fd_People ["_law_cell", "_law_many"] (spPeople) := by
  refine T.F_People.ok scPeople (fun vs H Q E h => ?_) (fun cdv A outer s H vs Q E hr h => ?_)
  · obtain ⟨c, n, rfl, hn, q⟩ := h
    rfl
  · obtain ⟨c, n, rfl, hn, q⟩ := h
    refine ⟨_, (pss_cons (ps_set (i := 2) scPeople.nd rfl (Or.inr rfl) pe_str)
      (pss_cons (ps_set (i := 3) scPeople.nd rfl (Or.inr rfl) pe_str)
      (pss_cons (ps_set (i := 4) scPeople.nd rfl (Or.inl rfl) (pe_op op_fdivN (pv 0) pe_int))
      (pss_cons (ps_for PassesOwn.never rfl (pi_range1 (by rfl) T.m_range (pa_cons pe_int pa_nil)) (pg_name (i := 5) scPeople.nd rfl (Or.inl rfl))
      (pss_cons (ps_set (i := 3) scPeople.nd rfl (Or.inr rfl) (pe_op op_add_str (pv 3) (pe_ix ix_str (pv 2) (pe_op op_modN (pv 4) pe_int) (fun _ _ => rfl))))
      (pss_one (ps_set (i := 4) scPeople.nd rfl (Or.inl rfl) (pe_op op_fdivN (pv 4) pe_int)))))
      (pss_cons (ps_set (i := 6) scPeople.nd rfl (Or.inl rfl) (pe_op op_modN (pv 0) pe_int))
      (pss_cons (ps_if (PW.pt (pw_and (pt_cmpR op_eq (pv 6) pe_int (nomark _)) (pw_and1 (pt_cmpR op_lt (pv 1) pe_int (nomark _)))))
      (pss_one (ps_ret (pe_lc (own := [("_law_k", 5)]) rfl scPeople.nd (pi_range1 (by rfl) T.m_range (pa_cons (pv 1) pa_nil)) (blkOk_by (own := [("_law_k", 5)]) (N := nmPeople) (sc := defScope sPeople) (by decide +kernel)) (fun _ _ _ _ _ => (pg_name (i := 5) scPeople.nd rfl (Or.inl rfl))) (fun _ _ _ _ _ => pts_nil) (fun _ _ _ _ _ => (pe_slice sl_str (pv 3) po_none (po_some (pe_op op_add (pv 5) pe_int)))))))
      pss_nil)
      (pss_cons (ps_if (PW.pt (pw_and (pt_cmpR op_eq (pv 6) pe_int (nomark _)) (pw_and1 (pt_cmpR op_lt (pv 1) pe_int (nomark _)))))
      (pss_one (ps_ret (pe_lc (own := [("_law_k", 5)]) rfl scPeople.nd (pi_range1 (by rfl) T.m_range (pa_cons (pv 1) pa_nil)) (blkOk_by (own := [("_law_k", 5)]) (N := nmPeople) (sc := defScope sPeople) (by decide +kernel)) (fun _ _ _ _ _ => (pg_name (i := 5) scPeople.nd rfl (Or.inl rfl))) (fun _ _ _ _ _ => pts_nil) (fun _ _ _ _ _ => (pe_slice sl_str (pv 3) (po_some (pe_op op_sub pe_int (pv 5))) po_none)))))
      pss_nil)
      (pss_cons (ps_set (i := 3) scPeople.nd rfl (Or.inr rfl) (pe_slice sl_str (pv 3) po_none (po_some (pe_op op_modN (pe_op op_fdivN (pv 0) pe_int) pe_int))))
      (pss_cons (ps_if (PW.pt (pw_and (pt_cmpR op_lt (pv 6) pe_int (nomark _)) (pw_and1 (pt_cmpR op_lt (pv 1) pe_int (nomark _)))))
      (pss_cons (ps_set (i := 7) scPeople.nd rfl (Or.inr rfl) (pe_slice sl_str (pv 3) po_none (po_some (pe_op op_modN (pe_op op_fdivN (pv 0) pe_int) (pe_op op_add (pe_callB call_len_str (by rfl) T.m_len PySem.boot_len (pa_cons (pv 3) pa_nil)) pe_int)))))
      (pss_cons (ps_set (i := 8) scPeople.nd rfl (Or.inr rfl) (pe_slice sl_str (pv 3) (po_some (pe_callB call_len_str (by rfl) T.m_len PySem.boot_len (pa_cons (pv 7) pa_nil))) po_none))
      (pss_one (ps_ret (pe_lc (own := [("_law_k", 5)]) rfl scPeople.nd (pi_range1 (by rfl) T.m_range (pa_cons (pv 1) pa_nil)) (blkOk_by (own := [("_law_k", 5)]) (N := nmPeople) (sc := defScope sPeople) (by decide +kernel)) (fun _ _ _ _ _ => (pg_name (i := 5) scPeople.nd rfl (Or.inl rfl))) (fun _ _ _ _ _ => pts_nil) (fun _ _ _ _ _ => (pe_op op_add_str (pe_op op_add_str (pv 7) (pe_ix ix_str (pv 2) (pe_op op_modN (pe_op op_add (pe_op op_fdivN (pv 0) pe_int) (pe_op op_mul pe_int (pv 5))) pe_int) (fun _ _ => rfl))) (pv 8))))))))
      pss_nil)
      (pss_cons (ps_set (i := 3) scPeople.nd rfl (Or.inr rfl) (pe_slice sl_str (pv 3) po_none (po_some (pe_op op_sub pe_int (pe_callTy call_int1 (by rfl) T.m_int (by decide +kernel) (pa_cons (pe_cmpR op_gt (pv 1) pe_int (nomark _)) pa_nil))))))
      (pss_one (ps_ret (pe_lc (own := [("_law_k", 5)]) rfl scPeople.nd (pi_range1 (by rfl) T.m_range (pa_cons (pv 1) pa_nil)) (blkOk_by (own := [("_law_k", 5)]) (N := nmPeople) (sc := defScope sPeople) (by decide +kernel)) (fun _ _ _ _ _ => (pg_name (i := 5) scPeople.nd rfl (Or.inl rfl))) (fun _ _ _ _ _ => pts_nil) (fun _ _ _ _ _ => (pe_op op_add_str (pv 3) (pe_callTy call_str_int (by rfl) T.m_str (by decide +kernel) (pa_cons (pv 5) pa_nil))))))))))))))))), ?_⟩
    refine slots (start_People _ _) ?_
    refine B_set v_con fun H1 e1 => ?_
    refine B_set v_con fun H2 e2 => ?_
    refine B_set (v_op (v_slot rfl) v_con (bi_C ⟨by decide, by decide⟩)) fun H3 e3 => ?_
    replace q := q.mono ((e1.trans e2).trans e3)
    clear e1 e2 e3 H1 H2
    -- the head, twelve signs
    refine B_for1 (n := 12) (g_cons v_con g_nil) (by decide) (fun m σ' H' => ∃ z y5 r, σ' = [some (.int c), some (.int (n : Int)), some (.str signs), some (.str z), some (.int r), y5, none, none, none] ∧ z.length = m ∧ Sg z ∧ Gr H3 H') (fun H4 g => ⟨_, _, _, rfl, rfl, fun k hk => absurd hk List.not_mem_nil, g⟩) ?hs ?hd
    case hs =>
      rintro m σ' H' hm ⟨z, y5, r, rfl, hz, asc, g⟩
      refine B_set (v_op (v_slot rfl) (v_op (v_slot rfl) (v_op (v_slot rfl) v_con (bi_C (show (36 : Int) ≠ 0 by decide))) (bi_sign (n := 36) (by decide +kernel) (by decide) (by decide))) (bi_cat (show z.length + 1 ≤ 100000 by omega))) fun H4 e4 => ?_
      refine S_set (v_op (v_slot rfl) v_con (bi_C ⟨by decide, by decide⟩)) fun H5 e5 => ?_
      exact ⟨_, _, _, rfl, by rw [cat_len, hz]; rfl, asc.cat (.one (sign_mod _)), (g.trans e4).trans e5⟩
    rintro σ' H4 ⟨z, y5, r, rfl, hz, asc, e4⟩
    have hz12 : z.length = 12 := hz
    refine B_set (v_op (v_slot rfl) v_con (bi_C (show (6 : Int) ≠ 0 by decide))) fun H5 e5 => ?_
    replace q := q.mono (e4.trans e5)
    have nat : ((n : Int)).toNat = n := by omega
    have bn : 0 ≤ (n : Int) ∧ (n : Int) ≤ 40000 := by omega
    generalize c.fmod 6 = way
    -- the first n signs, the last n signs
    refine' B_when (s_and (b := decide (way = 0)) (Ts.is (s_test (v_op (v_slot rfl) v_con (bi_eq rfl))) ?ea) (fun _ => s_test (v_op (v_slot rfl) v_con bi_0))) ?y1 ?n1
    case ea => exact decide_eq_decide.mpr ⟨V.int.inj, congrArg V.int⟩
    case y1 =>
      intro hb6 H6 e6
      have n13 : (n : Int) < 13 := of_decide_eq_true (Bool.and_eq_true_iff.mp hb6).2
      refine S_retL (l_cmp1 (fun _ => true) (fun m => .str (cutS z none (some ((m : Int) + 1)))) (g_cons (v_slot rfl) g_nil) bn (fun _ => rfl) (fun _ _ _ _ => s_yes) (fun m H7 _ _ _ => v_slS (v_slot rfl) p_no (p_int (v_op (v_slot rfl) v_con bi_0)) (by omega))) fun p H7 hp e7 h7 => ?_
      rw [nat] at h7
      refine q _ _ (e6.trans e7) (names_out (s := fun m => cutS z none (some ((m : Int) + 1))) (fun m hm => ?_) h7)
      have l := cut_to z (m + 1)
      rw [show (((m + 1 : Nat)) : Int) = (m : Int) + 1 from rfl, hz12] at l
      exact nameB_of (by omega) (by omega) (asc.cut _ _)
    intro _ H6 e6
    replace q := q.mono e6
    refine' B_when (s_and (b := decide (way = 1)) (Ts.is (s_test (v_op (v_slot rfl) v_con (bi_eq rfl))) ?eb) (fun _ => s_test (v_op (v_slot rfl) v_con bi_0))) ?y2 ?n2
    case eb => exact decide_eq_decide.mpr ⟨V.int.inj, congrArg V.int⟩
    case y2 =>
      intro hb7 H7 e7
      refine S_retL (l_cmp1 (fun _ => true) (fun m => .str (cutS z (some (11 - (m : Int))) none)) (g_cons (v_slot rfl) g_nil) bn (fun _ => rfl) (fun _ _ _ _ => s_yes) (fun m H8 _ _ _ => v_slS (v_slot rfl) (p_int (v_op v_con (v_slot rfl) bi_0)) p_no (by omega))) fun p H8 hp e8 h8 => ?_
      rw [nat] at h8
      refine q _ _ (e7.trans e8) (names_out (s := fun m => cutS z (some (11 - (m : Int))) none) (fun m hm => ?_) h8)
      have l := cut_from z (11 - m)
      have n13 : (n : Int) < 13 := by
        have := (Bool.and_eq_true_iff.mp hb7).2
        exact of_decide_eq_true this
      rw [show (((11 - m : Nat)) : Int) = 11 - (m : Int) by omega, hz12] at l
      exact nameB_of (by omega) (by omega) (asc.cut _ _)
    intro _ H7 e7
    replace q := q.mono e7
    refine B_set (v_slS (v_slot rfl) p_no (p_int (v_op (v_op (v_slot rfl) v_con (bi_C ⟨by decide, by decide⟩)) v_con (bi_C (show (12 : Int) ≠ 0 by decide)))) (by omega)) fun H8 e8 => ?_
    replace q := q.mono e8
    have b12 := fmod_in (c.fdiv 6) (m := 12) (by decide)
    have hz2 : (cutS z none (some ((c.fdiv 6).fmod 12))).length ≤ 11 := by
      have l := cut_to z ((c.fdiv 6).fmod 12).toNat
      rw [Int.toNat_of_nonneg b12.1] at l
      omega
    have asc2 := asc.cut none (some ((c.fdiv 6).fmod 12))
    generalize cutS z none (some ((c.fdiv 6).fmod 12)) = z2 at hz2 asc2 ⊢
    -- a sign drawn between
    refine' B_when (s_and (s_test (v_op (v_slot rfl) v_con bi_0)) (fun _ => s_test (v_op (v_slot rfl) v_con bi_0))) ?y3 ?n3
    case y3 =>
      intro _ H9 e9
      refine B_set (v_slS (v_slot rfl) p_no (p_int (v_op (v_op (v_slot rfl) v_con (bi_C ⟨by decide, by decide⟩)) (v_op (v_lenS (v_slot rfl) (by omega)) v_con bi_0) (bi_C (show (z2.length : Int) + 1 ≠ 0 by omega)))) (by omega)) fun H10 e10 => ?_
      have bL := fmod_in (c.fdiv 5) (m := (z2.length : Int) + 1) (by omega)
      have lL : (cutS z2 none (some ((c.fdiv 5).fmod ((z2.length : Int) + 1)))).length ≤ z2.length := cut_len _ _ _
      have aL := asc2.cut none (some ((c.fdiv 5).fmod ((z2.length : Int) + 1)))
      generalize cutS z2 none (some ((c.fdiv 5).fmod ((z2.length : Int) + 1))) = zl at lL aL ⊢
      refine B_set (v_slS (v_slot rfl) (p_int (v_lenS (v_slot rfl) (by omega))) p_no (by omega)) fun H11 e11 => ?_
      have lR := cut_from z2 zl.length
      have aR := asc2.cut (some (zl.length : Int)) none
      generalize cutS z2 (some (zl.length : Int)) none = zr at lR aR ⊢
      have one : ∀ k : Nat, (⟨#[k]⟩ : Str).length = 1 := fun _ => rfl
      refine S_retL (l_cmp1 (fun _ => true) (fun m => .str (zl ++ ⟨#[signs.cps.toList.getD (((c.fdiv 7) + 7 * (m : Int)).fmod 36).toNat 0]⟩ ++ zr)) (g_cons (v_slot rfl) g_nil) bn (fun _ => rfl) (fun _ _ _ _ => s_yes) (fun m H12 _ _ _ => v_op (v_op (v_slot rfl) (v_op (v_slot rfl) (v_op (v_op (v_op (v_slot rfl) v_con (bi_C ⟨by decide, by decide⟩)) (v_op v_con (v_slot rfl) (bi_C (.inl ⟨by decide, by decide⟩))) bi_0) v_con (bi_C (show (36 : Int) ≠ 0 by decide))) (bi_sign (n := 36) (by decide +kernel) (by decide) (by decide))) (bi_cat (by rw [one]; omega))) (v_slot rfl) (bi_cat (by rw [cat_len, one]; omega)))) fun p H12 hp e12 h12 => ?_
      rw [nat] at h12
      refine q _ _ (((e9.trans e10).trans e11).trans e12) (names_out (s := fun m => zl ++ ⟨#[signs.cps.toList.getD (((c.fdiv 7) + 7 * (m : Int)).fmod 36).toNat 0]⟩ ++ zr) (fun m _ => nameB_of (by rw [cat_len, cat_len, one]; omega) (by rw [cat_len, cat_len, one]; omega) ((aL.cat (.one (sign_mod _))).cat aR)) h12)
    intro _ H9 e9
    replace q := q.mono e9
    -- numbers behind
    refine B_set (v_slS (v_slot rfl) p_no (p_int (v_op v_con (v_intB (v_op (v_slot rfl) v_con bi_0)) bi_0)) (by omega)) fun H10 e10 => ?_
    have hz3 : (cutS z2 none (some (10 - (if decide ((99 : Int) < (n : Int)) = true then (1 : Int) else 0)))).length ≤ (if n < 100 then 10 else 9) := by
      by_cases hn99 : (99 : Int) < (n : Int)
      · rw [decide_eq_true hn99, if_pos rfl, if_neg (by omega)]
        have l := cut_to z2 9
        have e9' : ((9 : Nat) : Int) = 10 - 1 := rfl
        rw [e9'] at l
        omega
      · rw [decide_eq_false hn99, if_neg Bool.false_ne_true, if_pos (by omega)]
        have l := cut_to z2 10
        have e9' : ((10 : Nat) : Int) = 10 - 0 := rfl
        rw [e9'] at l
        omega
    have hz3' : (cutS z2 none (some (10 - (if decide ((99 : Int) < (n : Int)) = true then (1 : Int) else 0)))).length ≤ 10 := by
      refine Nat.le_trans hz3 ?_
      split <;> omega
    have asc3 := asc2.cut none (some (10 - (if decide ((99 : Int) < (n : Int)) = true then (1 : Int) else 0)))
    generalize cutS z2 none (some (10 - (if decide ((99 : Int) < (n : Int)) = true then (1 : Int) else 0))) = z3 at hz3 hz3' asc3 ⊢
    refine S_retL (l_cmp1 (fun _ => true) (fun m => .str (z3 ++ toString (m : Int))) (g_cons (v_slot rfl) g_nil) bn (fun _ => rfl) (fun _ _ _ _ => s_yes) (fun m H11 _ hm _ => v_op (v_slot rfl) (v_str (v_slot rfl) (num_small (by omega))) (bi_cat (by have := num_len m (by omega); omega)))) fun p H11 hp e11 h11 => ?_
    rw [nat] at h11
    refine q _ _ (e10.trans e11) (names_out (s := fun m => z3 ++ toString (m : Int)) (fun m hm => ?_) h11)
    obtain ⟨t1, t2, t3⟩ := num_text m (by omega)
    have t4 := num_len m (by omega)
    refine nameB_of (by rw [cat_len]; omega) ?_ (asc3.cat t3)
    rw [cat_len]
    by_cases n100 : n < 100
    · rw [if_pos n100] at hz3
      rw [if_pos (by omega)] at t2
      omega
    · rw [if_neg n100] at hz3
      omega

theorem ok_Wish (T : Top K mg) (TB : Tabs T base) : FnOk P w K mg base CX0 1 T.f_Wish T.fd_Wish ["_law_cell"] (spWish) := by
  refine T.F_Wish.ok scWish (fun vs H Q E h => ?_) (fun cdv A outer s H vs Q E hr h => ?_)
  · obtain ⟨c, rfl, q⟩ := h
    rfl
  · obtain ⟨c, rfl, q⟩ := h
    refine ⟨_, (pss_cons (ps_if (pt_cmpR op_eq (pe_op op_modN (pv 0) pe_int) pe_int (nomark _))
      (pss_one (ps_ret pe_str))
      pss_nil)
      (pss_one (ps_ret pe_str))), ?_⟩
    refine slots (start_Wish _) ?_
    refine' B_when (b := decide (c.fmod 3 = 0)) (Ts.is (s_test (v_op (v_op (v_slot rfl) v_con (bi_C (show (3 : Int) ≠ 0 by decide))) v_con (bi_eq rfl))) ?e) ?y ?n
    case e => exact decide_eq_decide.mpr ⟨V.int.inj, congrArg V.int⟩
    all_goals intro hb H1 e1
    · refine S_ret v_con fun H2 e2 => ?_
      have e : wishOf c = wr := if_pos (of_decide_eq_true hb)
      rw [e] at q
      exact q H2 (e1.trans e2)
    · refine S_ret v_con fun H2 e2 => ?_
      have e : wishOf c = rd := if_neg (of_decide_eq_false hb)
      rw [e] at q
      exact q H2 (e1.trans e2)
theorem ok_Alike (T : Top K mg) (TB : Tabs T base) : FnOk P w K mg base CX0 1 T.f_Alike T.fd_Alike ["_law_found", "_law_due"] (spAlike K) := by
  refine T.F_Alike.ok scAlike (fun vs H Q E h => ?_) (fun cdv A outer s H vs Q E hr h => ?_)
  · obtain ⟨p, u, xs, ys, l, rfl, hp, hu, tx, ty, hn, hg, q⟩ := h
    rfl
  · obtain ⟨p, u, xs, ys, l, rfl, hp, hu, tx, ty, hn, hg, q⟩ := h
    refine ⟨_, (pss_cons (ps_if (PW.pt (pw_or (pt_not (pt_val (pe_callB call_isi (by rfl) T.m_isinstance (by decide +kernel) (pa_cons (pv 0) (pa_cons (pe_bltn (v := .ty "list") (by rfl) T.m_list (by decide +kernel) rfl) pa_nil))))) (pw_or1 (pt_cmpR op_ne (pe_callB call_len_seq (by rfl) T.m_len PySem.boot_len (pa_cons (pv 0) pa_nil)) (pe_callB call_len_seq (by rfl) T.m_len PySem.boot_len (pa_cons (pv 1) pa_nil)) (nomark _)))))
      (pss_one (ps_ret pe_bl))
      pss_nil)
      (pss_cons (ps_for PassesOwn.never rfl (pi_range1 (by rfl) T.m_range (pa_cons (pe_callB call_len_seq (by rfl) T.m_len PySem.boot_len (pa_cons (pv 1) pa_nil)) pa_nil)) (pg_name (i := 2) scAlike.nd rfl (Or.inl rfl))
      (pss_cons (ps_if (PW.pt (pw_or (pt_not (pt_val (pe_callB call_isi (by rfl) T.m_isinstance (by decide +kernel) (pa_cons (pe_ix ix_list (pv 0) (pv 2) (fun _ _ => rfl)) (pa_cons (pe_bltn (v := .ty "tuple") (by rfl) T.m_tuple (by decide +kernel) rfl) pa_nil))))) (pw_or1 (pt_cmpR op_ne (pe_callB call_len_seq (by rfl) T.m_len PySem.boot_len (pa_cons (pe_ix ix_list (pv 0) (pv 2) (fun _ _ => rfl)) pa_nil)) (pe_callB call_len_seq (by rfl) T.m_len PySem.boot_len (pa_cons (pe_ix ix_list (pv 1) (pv 2) (fun _ _ => rfl)) pa_nil)) (nomark _)))))
      (pss_one (ps_ret pe_bl))
      pss_nil)
      (pss_one (ps_if (pt_cmpR (op_neD hr.units) (pe_lc (own := [("_law_word", 3)]) rfl scAlike.nd (pi_tup (pe_ix ix_list (pv 0) (pv 2) (fun _ _ => rfl))) (blkOk_by (own := [("_law_word", 3)]) (N := nmAlike) (sc := defScope sAlike) (by decide +kernel)) (fun _ _ _ _ _ => (pg_name (i := 3) scAlike.nd rfl (Or.inl rfl))) (fun _ _ _ _ _ => (pts_one (pt_not (pt_val (pe_callB (r := rIsi K) call_isi (by rfl) T.m_isinstance (by decide +kernel) (pa_cons (pv 3) (pa_cons (pe_bltn (v := .ty "str") (by rfl) T.m_str (by decide +kernel) rfl) pa_nil))))))) (fun _ _ _ _ _ => (pv 3))) (pe_lst pa_nil) (nomark _))
      (pss_one (ps_ret pe_bl))
      pss_nil))))
      (pss_one (ps_ret (pe_cmpR (op_eqD hr.units) (pv 0) (pv 1) (nomark _)))))), ?_⟩
    refine slots (start_Alike _ _) ?_
    refine' B_when (b := false) (Ts.is (s_or (s_not (s_test (v_isl (v_slot rfl) hp))) (fun _ => s_test (v_op (v_len (v_slot rfl) (SqL.of hp)) (v_len (v_slot rfl) (SqL.of hu)) (bi_ne rfl)))) ?e) (fun hb => nomatch hb) ?n
    case e => simp [tx.length, ty.length]
    intro _ H1 e1
    replace tx := tx.mono e1
    replace ty := ty.mono e1
    replace hp := e1.lst hp
    replace hu := e1.lst hu
    have lx := tx.length
    have ly := ty.length
    refine B_for1 (n := (ys.length : Int)) (g_cons (v_len (v_slot rfl) (SqL.of hu)) g_nil) (by omega) (fun m σ' H' => ∃ y2 y3, σ' = [some (.ref p), some (.ref u), y2, y3] ∧ Gr H1 H') (fun H2 g => ⟨_, _, rfl, g⟩) ?hs ?hd
    case hs =>
      rintro m σ' H' hm ⟨y2, y3, rfl, g⟩
      have hm' : m < l.length := by omega
      obtain ⟨pa, va, ha⟩ := tx.get m (List.getElem?_eq_getElem hm')
      obtain ⟨pb, vb, hb⟩ := ty.get m (List.getElem?_eq_getElem hm')
      have fx : ∀ {H2 : Hp} {σ2 : L2.St}, Gr H1 H2 → σ2[0]? = some (some (.ref p)) → σ2[2]? = some (some (.int (m : Int))) → Vl (tOp (rIxL K) (tVar 0) (tVar 2)) σ2 H2 (.ref pa) := fun g2 s0 s2 => v_op (v_slot s0) (v_slot s2) (bi_ixL (SqL.of (g2.lst hp)) (atI_nat va))
      have fy : ∀ {H2 : Hp} {σ2 : L2.St}, Gr H1 H2 → σ2[1]? = some (some (.ref u)) → σ2[2]? = some (some (.int (m : Int))) → Vl (tOp (rIxL K) (tVar 1) (tVar 2)) σ2 H2 (.ref pb) := fun g2 s1 s2 => v_op (v_slot s1) (v_slot s2) (bi_ixL (SqL.of (g2.lst hu)) (atI_nat vb))
      refine' B_when (b := false) (Ts.is (s_or (s_not (s_test (v_ist (fx g rfl rfl) (g.tup ha)))) (fun _ => s_test (v_op (v_lenT (fx g rfl rfl) (SqT.of (g.tup ha))) (v_lenT (fy g rfl rfl) (SqT.of (g.tup hb))) (bi_ne rfl)))) ?e3) (fun hb => nomatch hb) ?n3
      case e3 => simp
      intro _ H2 e2
      have len : (JRow.vs l[m]).length ≤ 40000 := by
        have := (hg _ (List.getElem_mem hm')).2.1
        unfold JRow.vs
        rw [List.length_map]
        omega
      refine' S_when (b := false) (Ts.is (s_test (v_opR (S := fun w H3 => ∃ p3, w = .ref p3 ∧ H3 p3 = some (.lst [])) (l_cmpT (fun _ => false) (fun _ => .non) (fx (g.trans e2) rfl rfl) (SqT.of ((g.trans e2).tup ha)) len (fun _ => rfl) (fun m2 x2 H3 e3 hx => ?tt) (fun _ _ _ _ _ hf => nomatch hf)).toR (fun g4 ⟨p4, a4, b4⟩ => ⟨p4, a4, g4.lst b4⟩) (fun _ _ _ _ => (l_lst g_nil (by decide)).toR) (fun x3 y3 H3 _ hx hy => ?oo))) ?e4) (fun hb => nomatch hb) ?n4
      case tt =>
        obtain ⟨s2, rfl⟩ : ∃ s2, x2 = V.str s2 := by
          unfold JRow.vs at hx
          rw [List.getElem?_map] at hx
          cases e5 : l[m][m2]? with
          | none => rw [e5] at hx; cases hx
          | some s2 => rw [e5] at hx; exact ⟨s2, (Option.some.inj hx).symm⟩
        exact Ts.is (s_not (s_test (v_issS (v_slot rfl)))) rfl
      case oo =>
        obtain ⟨pc, rfl, hc⟩ := hx
        obtain ⟨pd, rfl, hd⟩ := hy
        have ec : out (JRow.vs l[m]).length (fun _ => false) (fun _ => V.non) = [] := by
          simp [out]
        rw [ec] at hc
        exact bi_neD (.lst (SqL.of hc) .nil) (.lst (SqL.of hd) .nil) (by decide +kernel) (by decide +kernel)
      case e4 => decide +kernel
      intro _ H4 e4
      exact ⟨_, _, rfl, (g.trans e2).trans e4⟩
    rintro σ' H2 ⟨y2, y3, rfl, g⟩
    refine' S_ret (Vl.is (v_op (v_slot rfl) (v_slot rfl) (bi_eqD (.lst (SqL.of (g.lst hp)) (dps_rows (tx.mono g))) (.lst (SqL.of (g.lst hu)) (dps_rows (ty.mono g))) (shaped_rows l hg) (shaped_rows l hg))) ?er) fun H3 e3 => q H3 ((e1.trans g).trans e3)
    case er => rw [SeqAt.eqv_refl _ (SeqAt.canLay_of_shaped (shaped_rows l hg))]

theorem ok_IsName (T : Top K mg) (TB : Tabs T base) : FnOk P w K mg base CX0 1 T.f_IsName T.fd_IsName ["thing"] (spKind K T.ta_IsName nameB) := by
  refine fun_okC T.F_IsName T.cd_IsName scIsName (fun vs H Q E h => ?_) (fun A outer s H vs Q E hr h => ?_)
  · obtain ⟨v, rfl, hT, hv⟩ := h
    rfl
  · obtain ⟨v, rfl, hT, hv⟩ := h
    refine ⟨_, (pss_cons (ps_if (pt_not (pt_val (pe_callB call_isi (by rfl) T.m_isinstance (by decide +kernel) (pa_cons (pv 0) (pa_cons (pe_bltn (v := .ty "str") (by rfl) T.m_str (by decide +kernel) rfl) pa_nil)))))
      (pss_one (ps_ret pe_bl))
      pss_nil)
      (pss_cons (ps_if (pt_not (pt_chain op_le op_le pe_int (pe_callB call_len_str (by rfl) T.m_len PySem.boot_len (pa_cons (pv 0) pa_nil)) (pe_glob (v := .int 12) rfl T.c_NAME_LENGTH ⟨_, rfl⟩)))
      (pss_one (ps_ret pe_bl))
      pss_nil)
      (pss_one (ps_ret (RG.pe_allG hr (by rfl) T.m_all TB.IsName rfl ⟨by rfl, by rfl, by decide +kernel, by rfl, by rfl, RG.nofree (by decide +kernel)⟩ (pv 0) (RG.elt_in (by rfl) (by rfl) (by rfl) T.c_NAME_SIGNS) (fun _ => rfl)))))), ?_⟩
    refine slots (start_IsName _) ?_
    rcases hv with ⟨z, rfl, hz, q⟩ | ⟨hn, q⟩
    · refine B_when (s_not (s_B (v_issS (v_slot rfl)))) (fun hb => absurd hb (by decide)) fun _ H1 e1 => ?_
      replace q := q.mono e1
      replace hT := e1.tab hT
      refine' B_when ?h ?k1 ?k2
      (case h => refine' s_not ?a; (case a => refine' s_test ?b; (case b => exact v_chain v_con (v_lenS (v_slot rfl) hz) bi_0 (fun _ => v_con) (fun _ => bi_0))))
      all_goals intro hb H2 e2
      · refine S_ret v_con fun H3 e3 => ?_
        have e : nameB z = false := by
          unfold nameB
          rw [Bool.not_eq_true'] at hb
          rw [hb]
          rfl
        rw [e] at q
        exact q H3 (e2.trans e3)
      · have e : nameB z = z.cps.toList.all fun k => decide (k ∈ signs.cps.toList) := by
          unfold nameB
          rw [Bool.not_eq_false'] at hb
          rw [hb]
          rfl
        rw [e] at q
        refine ⟨_, rfl, z, rfl, e2.tab hT, fun H3 tb => ?_⟩
        exact q H3 (e2.trans (.ofTab (e2.tab hT) tb))
    · refine B_when (s_not (s_B (v_nostr (v_slot rfl) hn))) (fun _ H1 e1 => ?_) (fun hb => absurd hb (by decide))
      exact S_ret v_con fun H2 e2 => q H2 (e1.trans e2)
theorem ok_IsWish (T : Top K mg) (TB : Tabs T base) : FnOk P w K mg base CX0 1 T.f_IsWish T.fd_IsWish ["thing"] (spKind K T.ta_IsName wishB) := by
  refine T.F_IsWish.ok scIsWish (fun vs H Q E h => ?_) (fun cdv A outer s H vs Q E hr h => ?_)
  · obtain ⟨v, rfl, hT, hv⟩ := h
    rfl
  · obtain ⟨v, rfl, hT, hv⟩ := h
    refine ⟨_, (pss_one (ps_ret (pe_and (pe_callB call_isi (by rfl) T.m_isinstance (by decide +kernel) (pa_cons (pv 0) (pa_cons (pe_bltn (v := .ty "str") (by rfl) T.m_str (by decide +kernel) rfl) pa_nil))) (pe_one (pe_cmpR op_in_seq (pv 0) (pe_tup (pa_cons (pe_glob (v := .str (Str.ofString "read")) rfl T.c_READ ⟨_, rfl⟩) (pa_cons (pe_glob (v := .str (Str.ofString "write")) rfl T.c_WRITE ⟨_, rfl⟩) pa_nil))) (by rfl)))))), ?_⟩
    refine slots (start_IsWish _) ?_
    rcases hv with ⟨z, rfl, hz, q⟩ | ⟨hn, q⟩
    · refine' S_ret ?h ?k
      (case h => refine' v_and (v_issS (v_slot rfl)) (fun _ => ?b); (case b => exact v_opU (v_slot rfl) (u_tup (g_cons v_con (g_cons v_con g_nil)) (by decide)) (fun p H1 hp _ => bi_inT (SqT.of hp) rfl rfl)))
      intro H1 e1
      have e : (true && (if false = true then !inV (.str z) [V.str (Str.ofString "read"), V.str (Str.ofString "write")] else inV (.str z) [V.str (Str.ofString "read"), V.str (Str.ofString "write")])) = wishB z := by
        rw [if_neg Bool.false_ne_true, Bool.true_and]
        rfl
      rw [e]
      exact q H1 e1
    · refine' S_ret ?h2 ?k2
      (case h2 => exact v_and (c := false) (v_nostr (v_slot rfl) hn) (fun hb => absurd hb (by decide)))
      intro H1 e1
      exact q H1 e1

theorem ok_IsWord (T : Top K mg) (TB : Tabs T base) : FnOk P w K mg base CX0 1 T.f_IsWord T.fd_IsWord ["thing", "words"] (spIsWord K) := by
  refine T.F_IsWord.ok scIsWord (fun vs H Q E h => ?_) (fun cdv A outer s H vs Q E hr h => ?_)
  · obtain ⟨v, p, l, rfl, hv, hp, q⟩ := h
    rfl
  · obtain ⟨v, p, l, rfl, hv, hp, q⟩ := h
    refine ⟨_, (pss_one (ps_ret (pe_and (pe_callB call_isi (by rfl) T.m_isinstance (by decide +kernel) (pa_cons (pv 0) (pa_cons (pe_bltn (v := .ty "str") (by rfl) T.m_str (by decide +kernel) rfl) pa_nil))) (pe_one (pe_cmpR op_in_seq (pv 0) (pv 1) (by rfl)))))), ?_⟩
    refine slots (start_IsWord _ _) ?_
    rcases hv with ⟨z, rfl, hz⟩ | ⟨hn, no⟩
    · refine S_ret (v_and (v_issS (v_slot rfl)) (fun _ => v_op (v_slot rfl) (v_slot rfl) (bi_inT hp rfl (flat_words l)))) fun H1 e1 => ?_
      have e : (true && (if false = true then !inV (.str z) (l.map V.str) else inV (.str z) (l.map V.str))) = wordV l (.str z) := by
        rw [if_neg Bool.false_ne_true, Bool.true_and, in_words]
        rfl
      rw [e]
      exact q H1 e1
    · refine S_ret (v_and (c := false) (v_nostr (v_slot rfl) hn) (fun hb => absurd hb (by decide))) fun H1 e1 => ?_
      rw [(no_of no).2.2] at q
      exact q H1 e1
theorem ok_IsRow (T : Top K mg) (TB : Tabs T base) : FnOk P w K mg base CX0 2 T.f_IsRow T.fd_IsRow ["thing"] (spIsRow K T.ta_IsName) := by
  have GIsWord := ok_IsWord (P := P) (w := w) (base := base) T TB
  have GIsName := ok_IsName (P := P) (w := w) (base := base) T TB
  have GIsWish := ok_IsWish (P := P) (w := w) (base := base) T TB
  refine T.F_IsRow.ok scIsRow (fun vs H Q E h => ?_) (fun cdv A outer s H vs Q E hr h => ?_)
  · obtain ⟨v, rfl, hT, hv⟩ := h
    rfl
  · obtain ⟨v, rfl, hT, hv⟩ := h
    refine ⟨_, (pss_cons (ps_if (pt_not (pt_val (pe_callB call_isi (by rfl) T.m_isinstance (by decide +kernel) (pa_cons (pv 0) (pa_cons (pe_bltn (v := .ty "tuple") (by rfl) T.m_tuple (by decide +kernel) rfl) pa_nil)))))
      (pss_one (ps_ret pe_bl))
      pss_nil)
      (pss_cons (ps_if (pt_cmpR op_eq (pe_callB call_len_seq (by rfl) T.m_len PySem.boot_len (pa_cons (pv 0) pa_nil)) pe_int (nomark _))
      (pss_cons (ps_asg (pv 0) (pg_tup rfl (pgs_cons (pg_name (i := 1) scIsRow.nd rfl (Or.inl rfl)) (pgs_cons (pg_name (i := 2) scIsRow.nd rfl (Or.inl rfl)) (pgs_cons (pg_name (i := 3) scIsRow.nd rfl (Or.inl rfl)) pgs_nil)))))
      (pss_one (ps_ret (pe_and (pe_call GIsWord hr (by rfl) T.g_IsWord T.F_IsWord.kp T.B_IsWord .nil pass0 (pa_cons (pv 1) (pa_cons (pe_tup (pa_cons (pe_glob (v := .str (Str.ofString "came")) rfl T.c_CAME ⟨_, rfl⟩) (pa_cons (pe_glob (v := .str (Str.ofString "begins")) rfl T.c_BEGINS ⟨_, rfl⟩) pa_nil))) pa_nil))) (pe_and (pe_call GIsName hr (by rfl) T.g_IsName T.F_IsName.kp T.B_IsName .nil pass0 (pa_cons (pv 2) pa_nil)) (pe_one (pe_call GIsWish hr (by rfl) T.g_IsWish T.F_IsWish.kp T.B_IsWish .nil pass0 (pa_cons (pv 3) pa_nil))))))))
      pss_nil)
      (pss_cons (ps_if (pt_cmpR op_eq (pe_callB call_len_seq (by rfl) T.m_len PySem.boot_len (pa_cons (pv 0) pa_nil)) pe_int (nomark _))
      (pss_cons (ps_asg (pv 0) (pg_tup rfl (pgs_cons (pg_name (i := 1) scIsRow.nd rfl (Or.inl rfl)) (pgs_cons (pg_name (i := 2) scIsRow.nd rfl (Or.inl rfl)) pgs_nil))))
      (pss_one (ps_ret (pe_and (pe_call GIsWord hr (by rfl) T.g_IsWord T.F_IsWord.kp T.B_IsWord .nil pass0 (pa_cons (pv 1) (pa_cons (pe_tup (pa_cons (pe_glob (v := .str (Str.ofString "left")) rfl T.c_LEFT ⟨_, rfl⟩) (pa_cons (pe_glob (v := .str (Str.ofString "asked")) rfl T.c_ASKED ⟨_, rfl⟩) (pa_cons (pe_glob (v := .str (Str.ofString "eased")) rfl T.c_EASED ⟨_, rfl⟩) pa_nil)))) pa_nil))) (pe_one (pe_call GIsName hr (by rfl) T.g_IsName T.F_IsName.kp T.B_IsName .nil pass0 (pa_cons (pv 2) pa_nil)))))))
      pss_nil)
      (pss_one (ps_ret pe_bl))))), ?_⟩
    refine slots (start_IsRow _) ?_
    rcases hv with ⟨p, xs, rfl, hp, th, q⟩ | ⟨⟨n, ty, kt⟩, q⟩
    rotate_left
    · refine B_when (b := true) (Ts.is (s_not (s_B (v_isi (b := false) (v_slot rfl) v_con (.ty _) (fun _ g => g.tyX ty) kt))) rfl) (fun _ H1 e1 => ?_) (fun hb => nomatch hb)
      exact S_ret v_con fun H2 e2 => q H2 (e1.trans e2)
    refine B_when (b := false) (Ts.is (s_not (s_B (v_ist (v_slot rfl) hp))) rfl) (fun hb => nomatch hb) (fun _ H1 e1 => ?_)
    replace q := q.mono e1
    replace hT := e1.tab hT
    replace hp := e1.tup hp
    replace th : ∀ x ∈ xs, Thing K x H1 := fun x hx => (th x hx).mono e1
    have se : ∀ a b : Int, decide (V.int a = V.int b) = decide (a = b) := fun a b => decide_eq_decide.mpr ⟨V.int.inj, congrArg V.int⟩
    have wd : ∀ {H2 : Hp} {σ : L2.St} {v : V} {E1 : XK} {t2 : TE} (l : List Str), σ[1]? = some (some v) → Thing K v H2 → Tu t2 σ H2 (l.map V.str) → Vl (tCall (spIsWord K) [] E1 (tCons (tVar 1) (tCons t2 tNil))) σ H2 (.bl (wordV l v)) := fun l hs th t => v_callU (v_slot hs) t fun p H1 g e => sv_isword (th.mono g) (SqT.of e)
    refine B_when (b := decide ((xs.length : Int) = 3)) (Ts.is (s_test (v_op (v_lenT (v_slot rfl) (SqT.of hp)) v_con (bi_eq rfl))) (se _ _)) (fun hb H2 e2 => ?_) (fun hb H2 e2 => ?_)
    · have h3 := of_decide_eq_true hb
      match xs, hp, th, q, h3 with
      | [a, b, c], hp, th, q, _ =>
        refine ⟨_, rfl, p, _, rfl, SqT.of (e2.tup hp), rfl, a, _, rfl, b, _, rfl, c, _, rfl, rfl, ?_⟩
        walk_at "n"
        have hT2 := e2.tab hT
        have ta := (th a (by simp)).mono e2
        have tb := (th b (by simp)).mono e2
        have tc := (th c (by simp)).mono e2
        exact S_ret (v_and (wd ["came", "begins"] rfl ta (u_tup (g_cons v_con (g_cons v_con g_nil)) (by decide))) (fun _ => v_and (v_call (g_cons (v_slot rfl) g_nil) (sv_name hT2 tb)) (fun _ => v_call (g_cons (v_slot rfl) g_nil) (sv_wishv hT2 tc)))) fun H3 e3 => q H3 (e2.trans e3)
      | [], _, _, _, h3 => simp at h3
      | [_], _, _, _, h3 => simp at h3
      | [_, _], _, _, _, h3 => simp at h3
      | _ :: _ :: _ :: _ :: _, _, _, _, h3 => exfalso; simp only [List.length_cons] at h3; omega
    · have h3 := of_decide_eq_false hb
      replace q := q.mono e2
      replace hT := e2.tab hT
      replace hp := e2.tup hp
      replace th : ∀ x ∈ xs, Thing K x H2 := fun x hx => (th x hx).mono e2
      refine B_when (b := decide ((xs.length : Int) = 2)) (Ts.is (s_test (v_op (v_lenT (v_slot rfl) (SqT.of hp)) v_con (bi_eq rfl))) (se _ _)) (fun hb2 H3 e3 => ?_) (fun hb2 H3 e3 => ?_)
      · have h2 := of_decide_eq_true hb2
        match xs, hp, th, q, h2 with
        | [a, b], hp, th, q, _ =>
          refine ⟨_, rfl, p, _, rfl, SqT.of (e3.tup hp), rfl, a, _, rfl, b, _, rfl, rfl, ?_⟩
          walk_at "n"
          have hT2 := e3.tab hT
          have ta := (th a (by simp)).mono e3
          have tb := (th b (by simp)).mono e3
          exact S_ret (v_and (wd ["left", "asked", "eased"] rfl ta (u_tup (g_cons v_con (g_cons v_con (g_cons v_con g_nil))) (by decide))) (fun _ => v_call (g_cons (v_slot rfl) g_nil) (sv_name hT2 tb))) fun H4 e4 => q H4 (e3.trans e4)
        | [], _, _, _, h2 => simp at h2
        | [_], _, _, _, h2 => simp at h2
        | _ :: _ :: _ :: _, _, _, _, h2 => exfalso; simp only [List.length_cons] at h2; omega
      · have h2 := of_decide_eq_false hb2
        refine S_ret v_con fun H4 e4 => ?_
        have e : rowV xs = false := by
          match xs, h3, h2 with
          | [], _, _ => rfl
          | [_], _, _ => rfl
          | [_, _], _, h2 => exact absurd rfl h2
          | [_, _, _], h3, _ => exact absurd rfl h3
          | _ :: _ :: _ :: _ :: _, _, _ => rfl
        rw [e] at q
        exact q H4 (e3.trans e4)

theorem ok_RowOf (T : Top K mg) (TB : Tabs T base) : FnOk P w K mg base (L2N.CX P w) 3 T.f_RowOf T.fd_RowOf ["line"] (spRowOf K T.ta_IsName) := by
  have GIsRow := ok_IsRow (P := P) (w := w) (base := base) T TB
  refine RX.okN T.F_RowOf scRowOf (fun vs H Q E h => ?_) (fun cdv A outer s H vs Q E hr h => ?_)
  · obtain ⟨z, rfl, hT, hz, q1, q2⟩ := h
    rfl
  · obtain ⟨z, rfl, hT, hz, q1, q2⟩ := h
    refine ⟨_, (pss_cons (ps_set (i := 1) scRowOf.nd rfl (Or.inl rfl) (pe_callTy call_tuple_of (by rfl) T.m_tuple (by decide +kernel) (pa_cons (pe_bm PySem.F.plainAttrs_str PySem.F.slot_str_split PySem.F.type_str_split mt_split (pv 0) (pa_cons pe_str pa_nil)) pa_nil)))
      (pss_cons (ps_if (pt_not (pt_val (pe_call GIsRow hr (by rfl) T.g_IsRow T.F_IsRow.kp T.B_IsRow .nil pass0 (pa_cons (pv 1) pa_nil))))
      (pss_one (L2N.ps_raise rfl (L2N.takes_of rfl rfl rfl rfl) (L2N.pmk_own PySem.F.excBase_ValueError T.xx_BadText.1 T.gc_BadText T.xx_BadText.2.1 (raises_own T.xx_BadText.2.2.1 T.xx_BadText.2.2.2) (by exact rfl))))
      pss_nil)
      (pss_one (ps_ret (pv 1))))), ?_⟩
    refine slots (start_RowOf _) ?_
    refine B_setU (u_ofL (l_split (v_slot rfl) v_con (by decide +kernel) (by omega))) fun p H1 hp e1 h1 => ?_
    walk_at "n"
    have hT1 := e1.tab hT
    refine B_when (b := !lineOk z) (s_not (s_B (v_call (g_cons (v_slot rfl) g_nil) (sv_isrow hT1 h1 (things_str (b := 10000) (by decide) fun s hs => Nat.le_trans (PyProof.Rows.part_short hs) hz))))) (fun hb H2 e2 => ?_) fun hb H2 e2 => ?_
    · exact q2 (by rw [Bool.not_eq_true'] at hb; exact hb) H2 (e1.trans e2)
    · exact S_ret (v_slot rfl) fun H3 e3 => q1 (by rw [Bool.not_eq_false'] at hb; exact hb) _ H3 ((e1.trans e2).trans e3) ⟨p, rfl, (e2.trans e3).tup h1⟩
theorem ok_Told (T : Top K mg) (TB : Tabs T base) : FnOk P w K mg base CX0 1 T.f_Told T.fd_Told ["rows"] (spTold K) := by
  refine T.F_Told.ok scTold (fun vs H Q E h => ?_) (fun cdv A outer s H vs Q E hr h => ?_)
  · obtain ⟨p, xs, l, rfl, hp, tl, hl, ok, q⟩ := h
    rfl
  · obtain ⟨p, xs, l, rfl, hp, tl, hl, ok, q⟩ := h
    refine ⟨_, (pss_one (ps_ret (pe_bm PySem.F.plainAttrs_str PySem.F.slot_str_join PySem.F.type_str_join mt_join pe_str (pa_cons (pe_lc (own := [("row", 1)]) rfl scTold.nd (pi_list (pv 0)) (blkOk_by (own := [("row", 1)]) (N := nmTold) (sc := defScope sTold) (by decide +kernel)) (fun _ _ _ _ _ => (pg_name (i := 1) scTold.nd rfl (Or.inl rfl))) (fun _ _ _ _ _ => pts_nil) (fun _ _ _ _ _ => (pe_op op_add_str (show PE _ _ (tBM K "str" (rJoin K) _ _) from pe_bm PySem.F.plainAttrs_str PySem.F.slot_str_join PySem.F.type_str_join (r := rJoin K) mt_join pe_str (pa_cons (pv 1) pa_nil)) (pe_glob (v := .str (Str.ofString "\n")) rfl T.c_LINE_END ⟨_, rfl⟩)))) pa_nil)))), ?_⟩
    refine slots (start_Told _) ?_
    have lx := tl.length
    have lw : ∀ (r : JRow), r.ok → (Txt.join " " r).length ≤ 26 ∧ (r.map (·.length)).sum + r.length * (" " : Str).length ≤ 16777216 := fun r hr => by
      have lr := addRow_len (t := "") hr
      obtain ⟨w, n, hn, h⟩ := hr
      obtain ⟨_, n2, _⟩ := nameB_is hn
      have e1 : (" " : Str).length = 1 := rfl
      rcases h with ⟨hw, x, hx, rfl⟩ | ⟨hw, rfl⟩
      · have aw := (word_asc (w := w) (by rcases hw with rfl | rfl <;> decide)).2
        have ax := (word_asc (w := x) (by rcases hx with rfl | rfl <;> decide)).2
        rw [glue _ _ (List.cons_ne_nil _ _), glue _ _ (List.cons_ne_nil _ _), glue1]
        simp only [cat_len, e1, List.map_cons, List.map_nil, List.sum_cons, List.sum_nil, List.length_cons, List.length_nil]
        omega
      · have aw := (word_asc (w := w) (by rcases hw with rfl | rfl | rfl <;> decide)).2
        rw [glue _ _ (List.cons_ne_nil _ _), glue1]
        simp only [cat_len, e1, List.map_cons, List.map_nil, List.sum_cons, List.sum_nil, List.length_cons, List.length_nil]
        omega
    have eo : out xs.length (fun _ => true) (fun m => V.str (Txt.join " " (l.getD m []) ++ "\n")) = (l.map fun r => Txt.join " " r ++ "\n").map V.str := by
      rw [lx]
      have := out_filter l (fun _ => true) (fun r : JRow => V.str (Txt.join " " r ++ "\n")) (fun _ => true) (fun m => V.str (Txt.join " " (l.getD m []) ++ "\n")) fun m x hx => by rw [List.getD_eq_getElem?_getD, hx]; exact ⟨rfl, rfl⟩
      rw [this, List.map_map, List.filter_eq_self.mpr (fun _ _ => rfl)]
      rfl
    have en : ("\n" : Str).length = 1 := rfl
    have hb : ∀ s ∈ (l.map fun r => Txt.join " " r ++ "\n"), s.length ≤ 27 := fun s hs => by
      obtain ⟨r, hr, rfl⟩ := List.mem_map.mp hs
      rw [cat_len, en]
      have := (lw r (ok r hr)).1
      omega
    refine S_ret (Vl.is (v_joinN v_con (eo ▸ l_cmpL (fun _ => true) (fun m => V.str (Txt.join " " (l.getD m []) ++ "\n")) (v_slot rfl) (SqL.of hp) (by omega) (fun _ => rfl) (fun m x H1 e1 hx => s_yes) (fun m x H1 e1 hx _ => ?el)) ?bd) (congrArg V.str (told_is l ok))) fun H1 e1 => q H1 e1
    case el =>
      have hm : m < l.length := by
        have := (List.getElem?_eq_some_iff.mp hx).1
        omega
      obtain ⟨pt, hpt, ht⟩ := tl.get m (List.getElem?_eq_getElem hm)
      rw [hx] at hpt
      obtain rfl := Option.some.inj hpt
      have eg : l.getD m [] = l[m] := by rw [List.getD_eq_getElem?_getD, List.getElem?_eq_getElem hm]; rfl
      rw [eg]
      have b := lw _ (ok _ (List.getElem_mem hm))
      exact v_op (v_joinT v_con (v_slot rfl) (e1.tup ht) b.2) v_con (bi_cat (by rw [en]; omega))
    case bd =>
      have := sum_len _ 27 hb
      rw [List.length_map] at this
      rw [show (("" : Str).length) = 0 from rfl, Nat.mul_zero, Nat.add_zero]
      omega
theorem ok_ReadT (T : Top K mg) (TB : Tabs T base) : FnOk P w K mg base (L2N.CX P w) 4 T.f_ReadT T.fd_ReadT ["text"] (spRead K T.ta_IsName) := by
  have GRowOf := ok_RowOf (P := P) (w := w) (base := base) T TB
  refine RX.okN T.F_ReadT scReadT (fun vs H Q E h => ?_) (fun cdv A outer s H vs Q E hr h => ?_)
  · obtain ⟨l, rfl, hT, hl, ok, q⟩ := h
    rfl
  · obtain ⟨l, rfl, hT, hl, ok, q⟩ := h
    refine ⟨_, (pss_cons (ps_if (pt_not (pt_val (pe_callB call_isi (by rfl) T.m_isinstance (by decide +kernel) (pa_cons (pv 0) (pa_cons (pe_bltn (v := .ty "str") (by rfl) T.m_str (by decide +kernel) rfl) pa_nil)))))
      (pss_one (L2N.ps_raise rfl (L2N.takes_of rfl rfl rfl rfl) (L2N.pmk_own PySem.F.excBase_ValueError T.xx_BadText.1 T.gc_BadText T.xx_BadText.2.1 (raises_own T.xx_BadText.2.2.1 T.xx_BadText.2.2.2) (by exact rfl))))
      pss_nil)
      (pss_cons (ps_set (i := 1) scReadT.nd rfl (Or.inl rfl) (pe_bm PySem.F.plainAttrs_str PySem.F.slot_str_split PySem.F.type_str_split mt_split (pv 0) (pa_cons (pe_glob (v := .str (Str.ofString "\n")) rfl T.c_LINE_END ⟨_, rfl⟩) pa_nil)))
      (pss_cons (ps_if (pt_cmpR op_ne (pe_bm0 PySem.F.plainAttrs_list PySem.F.slot_list_pop PySem.F.type_list_pop mt_pop (pv 1)) pe_str (nomark _))
      (pss_one (L2N.ps_raise rfl (L2N.takes_of rfl rfl rfl rfl) (L2N.pmk_own PySem.F.excBase_ValueError T.xx_BadText.1 T.gc_BadText T.xx_BadText.2.1 (raises_own T.xx_BadText.2.2.1 T.xx_BadText.2.2.2) (by exact rfl))))
      pss_nil)
      (pss_one (ps_ret (pe_lc (own := [("line", 2)]) rfl scReadT.nd (pi_list (pv 1)) (blkOk_by (own := [("line", 2)]) (N := nmReadT) (sc := defScope sReadT) (by decide +kernel)) (fun _ _ _ _ _ => (pg_name (i := 2) scReadT.nd rfl (Or.inl rfl))) (fun _ _ _ _ _ => pts_nil) (fun _ _ _ _ _ => (pe_call GRowOf hr (by rfl) T.g_RowOf T.F_RowOf.kp T.B_RowOf .nil RX.passN (pa_cons (pv 2) pa_nil))))))))), ?_⟩
    refine slots (start_ReadT _) ?_
    have lt : (textOf l).length ≤ 27 * 401 := by
      have := textOf_len 401 l ok
      rw [List.take_of_length_le hl] at this
      exact this
    refine B_when (b := false) (Ts.is (s_not (s_B (v_issS (v_slot rfl)))) rfl) (fun hb => nomatch hb) fun _ H1 e1 => ?_
    refine B_setL (l_split (v_slot rfl) v_con (by decide +kernel) (by omega)) fun p H2 hp e2 h2 => ?_
    walk_at "n"
    rw [show Txt.split (textOf l) (Str.ofString "\n") = l.map (Txt.join " ") ++ ([""] : List Str) from text_split l ok] at h2
    have e12 := e1.trans e2
    have ll : ((l.map (Txt.join " ") ++ ([""] : List Str)).map V.str).length = l.length + 1 := by rw [List.length_map, List.length_append, List.length_map]; rfl
    refine B_whenPop (a := "") (v_slot rfl) h2 (by rw [ll, Nat.add_sub_cancel, List.map_append, List.getElem?_append_right (by rw [List.length_map, List.length_map]; exact Nat.le_refl _), List.length_map, List.length_map, Nat.sub_self]; rfl) (fun n => absurd rfl n) fun _ H3 e3 => ?_
    rw [List.map_append, show ([""] : List Str).map V.str = [V.str ""] from rfl, List.dropLast_concat]
    have np := e1.free hp
    have g3 := (e12.trans e3).chg np (o := .lst ((l.map (Txt.join " ")).map V.str))
    have h3 : (upd H3 p (.lst ((l.map (Txt.join " ")).map V.str))) p = some (.lst ((l.map (Txt.join " ")).map V.str)) := upd_same
    generalize upd H3 p (.lst ((l.map (Txt.join " ")).map V.str)) = H4 at g3 h3 ⊢
    refine S_retR (r_cmpV (g := JRow.vs) (fun m => l.getD m []) (v_slot rfl) (SqL.of h3) (by rw [List.length_map, List.length_map]; omega) (fun _ => rfl) fun m x H5 e5 hx => ?_) fun v H5 e5 ⟨la, ya, ev, hla, h5, t5⟩ => q v H5 (g3.trans e5) ⟨la, ya, ev, g3.free hla, h5, ?_⟩
    · rw [List.getElem?_map, List.getElem?_map] at hx
      cases er : l[m]? with
      | none => rw [er] at hx; cases hx
      | some r =>
        rw [er] at hx
        obtain rfl := Option.some.inj hx
        have okr := ok r (List.mem_of_getElem? er)
        have eg : l.getD m [] = r := by rw [List.getD_eq_getElem?_getD, er]; rfl
        rw [eg]
        have lz : (Txt.join " " r).length ≤ 10000 := by
          have := addRow_len (t := "") okr
          have e2 := told_go [r] "" (fun x hx => by rw [List.mem_singleton.mp hx]; exact okr)
          rw [List.map_cons, List.map_nil, glue1, nil_cat] at e2
          rw [show ([r] : List JRow).foldl addRow "" = addRow "" r from rfl] at e2
          rw [e2, cat_len] at this
          show _ ≤ 10000
          have e0 : ("" : Str).length = 0 := rfl
          omega
        have lo : lineOk (Txt.join " " r) = true := by
          unfold lineOk
          rw [words_back okr]
          exact rowV_ok.mpr okr
        refine r_call (g_cons (v_slot rfl) g_nil) fun H6 Q6 E6 g6 k6 => ⟨_, rfl, (g3.trans (e5.trans g6)).tab hT, lz, fun _ => ?_, fun hb => ?_⟩
        · rw [words_back okr]
          exact k6
        · rw [lo] at hb
          cases hb
    · rw [List.length_map, List.length_map, show (List.range l.length).map (fun m => l.getD m []) = l from by
        refine List.ext_getElem? fun i => ?_
        rw [List.getElem?_map]
        by_cases h : i < l.length
        · rw [List.getElem?_range h, List.getElem?_eq_getElem h, Option.map_some, List.getD_eq_getElem?_getD, List.getElem?_eq_getElem h]; rfl
        · rw [List.getElem?_eq_none (by rw [List.length_range]; omega), List.getElem?_eq_none (by omega)]; rfl] at t5
      exact t5

theorem ok_RowsBy (T : Top K mg) (TB : Tabs T base) : FnOk P w K mg base CX0 2 T.f_RowsBy T.fd_RowsBy ["_law_script"] (spRowsBy K) := by
  have GCell := ok_Cell (P := P) (w := w) (base := base) T TB
  have GPeople := ok_People (P := P) (w := w) (base := base) T TB
  have GWish := ok_Wish (P := P) (w := w) (base := base) T TB
  refine T.F_RowsBy.ok scRowsBy (fun vs H Q E h => ?_) (fun cdv A outer s H vs Q E hr h => ?_)
  · obtain ⟨a, ns, rfl, hS, q⟩ := h
    rfl
  · obtain ⟨a, ns, rfl, hS, q⟩ := h
    refine ⟨_, (pss_cons (ps_set (i := 1) scRowsBy.nd rfl (Or.inl rfl) (pe_op op_modN (pe_call GCell hr (by rfl) T.g_Cell T.F_Cell.kp T.B_Cell .nil pass0 (pa_cons (pv 0) (pa_cons pe_int pa_nil))) pe_int))
      (pss_cons (ps_if (pt_cmpR op_eq (pe_op op_modN (pe_op op_fdivN (pe_call GCell hr (by rfl) T.g_Cell T.F_Cell.kp T.B_Cell .nil pass0 (pa_cons (pv 0) (pa_cons pe_int pa_nil))) pe_int) pe_int) pe_int (nomark _))
      (pss_one (ps_set (i := 1) scRowsBy.nd rfl (Or.inl rfl) (pe_op op_modN (pe_op op_fdivN (pe_call GCell hr (by rfl) T.g_Cell T.F_Cell.kp T.B_Cell .nil pass0 (pa_cons (pv 0) (pa_cons pe_int pa_nil))) pe_int) pe_int)))
      pss_nil)
      (pss_cons (ps_if (pt_cmpR op_eq (pe_op op_modN (pe_op op_fdivN (pe_call GCell hr (by rfl) T.g_Cell T.F_Cell.kp T.B_Cell .nil pass0 (pa_cons (pv 0) (pa_cons pe_int pa_nil))) pe_int) pe_int) pe_int (nomark _))
      (pss_one (ps_set (i := 1) scRowsBy.nd rfl (Or.inl rfl) pe_int))
      pss_nil)
      (pss_cons (ps_set (i := 2) scRowsBy.nd rfl (Or.inl rfl) (pe_call GPeople hr (by rfl) T.g_People T.F_People.kp T.B_People .nil pass0 (pa_cons (pe_call GCell hr (by rfl) T.g_Cell T.F_Cell.kp T.B_Cell .nil pass0 (pa_cons (pv 0) (pa_cons pe_int pa_nil))) (pa_cons pe_int pa_nil))))
      (pss_cons (ps_set (i := 3) scRowsBy.nd rfl (Or.inl rfl) (pe_lst pa_nil))
      (pss_cons (ps_for PassesOwn.never rfl (pi_range1 (by rfl) T.m_range (pa_cons (pv 1) pa_nil)) (pg_name (i := 4) scRowsBy.nd rfl (Or.inl rfl))
      (pss_cons (ps_set (i := 5) scRowsBy.nd rfl (Or.inl rfl) (pe_op op_add (pe_call GCell hr (by rfl) T.g_Cell T.F_Cell.kp T.B_Cell .nil pass0 (pa_cons (pv 0) (pa_cons (pe_op op_add pe_int (pe_op op_modN (pv 4) pe_int)) pa_nil))) (pe_op op_fdivN (pv 4) pe_int)))
      (pss_cons (ps_set (i := 6) scRowsBy.nd rfl (Or.inl rfl) (pe_ix ix_list (pv 2) (pe_op op_modN (pe_op op_fdivN (pv 5) pe_int) pe_int) (fun _ _ => rfl)))
      (pss_cons (ps_set (i := 7) scRowsBy.nd rfl (Or.inl rfl) (pe_ix ix_list (pe_lst (pa_cons pe_str (pa_cons pe_str (pa_cons pe_str (pa_cons pe_str (pa_cons pe_str pa_nil)))))) (pe_op op_modN (pv 5) pe_int) (fun _ _ => rfl)))
      (pss_one (ps_if (pt_cmpR op_lt (pe_op op_modN (pv 5) pe_int) pe_int (nomark _))
      (pss_one (ps_expr (pe_bm PySem.F.plainAttrs_list PySem.F.slot_list_append PySem.F.type_list_append mt_append (pv 3) (pa_cons (pe_tup (pa_cons (pv 7) (pa_cons (pv 6) (pa_cons (pe_call GWish hr (by rfl) T.g_Wish T.F_Wish.kp T.B_Wish .nil pass0 (pa_cons (pe_op op_fdivN (pv 5) pe_int) pa_nil)) pa_nil)))) pa_nil))))
      (pss_one (ps_expr (pe_bm PySem.F.plainAttrs_list PySem.F.slot_list_append PySem.F.type_list_append mt_append (pv 3) (pa_cons (pe_tup (pa_cons (pv 7) (pa_cons (pv 6) pa_nil))) pa_nil))))))))))
      (pss_one (ps_ret (pv 3))))))))), ?_⟩
    refine slots (start_RowsBy _) ?_
    have cl : ∀ {H1 : Hp} {σ : L2.St} {te : TE} {i : Int} {E1 : XK} (k : Nat), i = (k : Int) → Gr H H1 → σ[0]? = some (some (.ref a)) → Vl te σ H1 (.int i) → Vl (tCall (spCell K) [] E1 (tCons (tVar 0) (tCons te tNil))) σ H1 (.int (cellAt ns k)) := fun k e g hs hv => v_call (g_cons (v_slot hs) (g_cons hv g_nil)) (sv_cell k e (g.sl hS))
    refine B_set (v_op (cl 0 rfl (.refl _) rfl v_con) v_con (bi_C (show (9 : Int) ≠ 0 by decide))) fun H1 e1 => ?_
    walk_at "n"
    have b1 := fmod_in (cellAt ns 0) (m := 9) (by decide)
    obtain ⟨n1, hn1, hn1'⟩ : ∃ n : Int, n = (cellAt ns 0).fmod 9 ∧ 0 ≤ n ∧ n ≤ 400 := ⟨_, rfl, by omega⟩
    rw [← hn1]
    clear hn1 b1
    refine B_whenInt (s_test (v_op (v_op (v_op (cl 0 rfl e1 rfl v_con) v_con (bi_C ⟨by decide, by decide⟩)) v_con (bi_C (show (4 : Int) ≠ 0 by decide))) v_con (bi_eq rfl))) rfl (v_op (v_op (cl 0 rfl e1 rfl v_con) v_con (bi_C ⟨by decide, by decide⟩)) v_con (bi_C (show (91 : Int) ≠ 0 by decide))) fun H2 e2 => ?_
    walk_at "n"
    have b2 := fmod_in ((cellAt ns 0).fdiv 36) (m := 91) (by decide)
    obtain ⟨n2, hn2, hn2'⟩ : ∃ n : Int, n = (if decide (V.int (((cellAt ns 0).fdiv 9).fmod 4) = V.int 1) = true then ((cellAt ns 0).fdiv 36).fmod 91 else n1) ∧ 0 ≤ n ∧ n ≤ 400 := ⟨_, rfl, by split <;> omega⟩
    rw [← hn2]
    clear hn2 b2 hn1' n1
    have g2 := e1.trans e2
    refine B_whenInt (s_test (v_op (v_op (v_op (cl 0 rfl g2 rfl v_con) v_con (bi_C ⟨by decide, by decide⟩)) v_con (bi_C (show (32 : Int) ≠ 0 by decide))) v_con (bi_eq rfl))) rfl v_con fun H3 e3 => ?_
    walk_at "n"
    obtain ⟨n3, hn3, hn3'⟩ : ∃ n : Int, n = (if decide (V.int (((cellAt ns 0).fdiv 9).fmod 32) = V.int 5) = true then (400 : Int) else n2) ∧ 0 ≤ n ∧ n ≤ 400 := ⟨_, rfl, by split <;> omega⟩
    rw [← hn3]
    clear hn3 hn2' n2
    have g3 := g2.trans e3
    refine B_setR (r_call (g_cons (cl 1 rfl g3 rfl v_con) (g_cons v_con g_nil)) (sr_people 12 rfl (by decide))) fun v H4 e4 hv => ?_
    walk_at "n"
    obtain ⟨pp, ss, rfl, hpp, lss, hss⟩ := hv
    have g4 := g3.trans e4
    refine B_setL (l_lst g_nil (by decide)) fun pr H5 hpr e5 h5 => ?_
    walk_at "n"
    have g5 := g4.trans e5
    have hpp5 := e5.lst hpp
    refine B_for1 (n := n3) (g_cons (v_slot rfl) g_nil) (by omega) (fun m σ' H' => ∃ vs l y4 y5 y6 y7, σ' = [some (.ref a), some (.int n3), some (.ref pp), some (.ref pr), y4, y5, y6, y7] ∧ Gr H H' ∧ H' pp = some (.lst (ss.map V.str)) ∧ H' pr = some (.lst vs) ∧ TupsAt H' JRow.vs vs l ∧ l.length = m ∧ (∀ r ∈ l, r.ok) ∧ H pr = none)
      (fun H6 g => ⟨[], [], _, _, _, _, rfl, g5.trans g, g.lst hpp5, g.lst h5, .nil, rfl, fun _ h => absurd h List.not_mem_nil, g4.free hpr⟩) ?hs ?hd
    case hd =>
      rintro σ' H6 ⟨vs, l, y4, y5, y6, y7, rfl, g, h1, h2, tl, hl, ok, _⟩
      exact S_ret (v_slot rfl) fun H7 e7 => q _ _ (g.trans e7) ⟨pr, vs, l, rfl, e7.lst h2, tl.mono e7, by omega, ok⟩
    case hs =>
      rintro m σ' H6 hm ⟨vs, l, y4, y5, y6, y7, rfl, g, h1, h2, tl, hl, ok, np⟩
      have lv := tl.length
      walk_at "n"
      have b30 := fmod_in (m : Int) (m := 30) (by decide)
      refine B_set (v_op (cl (2 + (m : Int).fmod 30).toNat (by omega) g rfl (v_op v_con (v_op (v_slot rfl) v_con (bi_C (show (30 : Int) ≠ 0 by decide))) bi_0)) (v_op (v_slot rfl) v_con (bi_C ⟨by decide, by decide⟩)) bi_0) fun H7 e7 => ?_
      walk_at "n"
      generalize cellAt ns (2 + (m : Int).fmod 30).toNat + (m : Int).fdiv 30 = c
      have b12 := fmod_in (c.fdiv 5) (m := 12) (by decide)
      have b5 := fmod_in c (m := 5) (by decide)
      obtain ⟨nm, hnm, nmok⟩ : ∃ nm, ss[((c.fdiv 5).fmod 12).toNat]? = some nm ∧ nameB nm = true := by
        have hi : ((c.fdiv 5).fmod 12).toNat < ss.length := by omega
        exact ⟨_, List.getElem?_eq_getElem hi, hss _ (List.getElem_mem hi)⟩
      have at12 : atI (ss.map V.str) ((c.fdiv 5).fmod 12) = some (V.str nm) := by
        have := atI_nat (xs := ss.map V.str) (j := ((c.fdiv 5).fmod 12).toNat) (v := V.str nm) (by rw [List.getElem?_map, hnm]; rfl)
        rw [Int.toNat_of_nonneg b12.1] at this
        exact this
      refine B_set (v_op (v_slot rfl) (v_op (v_op (v_slot rfl) v_con (bi_C ⟨by decide, by decide⟩)) v_con (bi_C (show (12 : Int) ≠ 0 by decide))) (bi_ixL (SqL.of (e7.lst h1)) at12)) fun H8 e8 => ?_
      walk_at "n"
      obtain ⟨wd, hwd, wd1, wd2⟩ : ∃ wd : Str, atI [V.str "came", V.str "begins", V.str "left", V.str "asked", V.str "eased"] (c.fmod 5) = some (V.str wd) ∧ (c.fmod 5 < 2 → wd = "came" ∨ wd = "begins") ∧ (¬ c.fmod 5 < 2 → wd = "left" ∨ wd = "asked" ∨ wd = "eased") := by
        rcases (by omega : c.fmod 5 = 0 ∨ c.fmod 5 = 1 ∨ c.fmod 5 = 2 ∨ c.fmod 5 = 3 ∨ c.fmod 5 = 4) with z | z | z | z | z <;> rw [z]
        · exact ⟨_, rfl, fun _ => .inl rfl, fun h => absurd (by decide) h⟩
        · exact ⟨_, rfl, fun _ => .inr rfl, fun h => absurd (by decide) h⟩
        · exact ⟨_, rfl, fun h => absurd h (by decide), fun _ => .inl rfl⟩
        · exact ⟨_, rfl, fun h => absurd h (by decide), fun _ => .inr (.inl rfl)⟩
        · exact ⟨_, rfl, fun h => absurd h (by decide), fun _ => .inr (.inr rfl)⟩
      refine B_set (v_opL (l_lst (g_cons v_con (g_cons v_con (g_cons v_con (g_cons v_con (g_cons v_con g_nil))))) (by decide)) (fun _ _ => v_op (v_slot rfl) v_con (bi_C (show (5 : Int) ≠ 0 by decide))) (fun p9 H9 h9 _ => bi_ixL (SqL.of h9) hwd)) fun H9 e9 => ?_
      walk_at "n"
      have g9 := (e7.trans e8).trans e9
      have hpr9 := g9.lst h2
      have fin : ∀ {H10 : Hp} {pt : Addr} {r : JRow}, Gr H9 H10 → H10 pt = some (.tup r.vs) → r.ok → ∃ vs' l', (∃ z4 z5 z6 z7, ([some (.ref a), some (.int n3), some (.ref pp), some (.ref pr), some (.int (m : Int)), some (.int c), some (.str nm), some (.str wd)] : L2.St) = [some (.ref a), some (.int n3), some (.ref pp), some (.ref pr), z4, z5, z6, z7]) ∧ Gr H (upd H10 pr (.lst (vs ++ [.ref pt]))) ∧ (upd H10 pr (.lst (vs ++ [.ref pt]))) pp = some (.lst (ss.map V.str)) ∧ (upd H10 pr (.lst (vs ++ [.ref pt]))) pr = some (.lst vs') ∧ TupsAt (upd H10 pr (.lst (vs ++ [.ref pt]))) JRow.vs vs' l' ∧ l'.length = m + 1 ∧ (∀ r ∈ l', r.ok) ∧ H pr = none := by
        intro H10 pt r e10 ht okr
        have g10 := g9.trans e10
        have ne : pp ≠ pr := fun z => by
          have h0 := g4.free hpr
          have : H4 pp = some (.lst (ss.map V.str)) := hpp
          rw [z, hpr] at this
          cases this
        have tl' : TupsAt (upd H10 pr (.lst (vs ++ [.ref pt]))) JRow.vs vs l := (tl.mono g10).chg fun ts => by rw [e10.lst hpr9]; exact fun z => nomatch z
        have nt : pt ≠ pr := fun z => by rw [z, e10.lst hpr9] at ht; cases ht
        refine ⟨vs ++ [.ref pt], l ++ [r], ⟨_, _, _, _, rfl⟩, (g.trans g10).chg np, (upd_ne ne).trans (g10.lst h1), upd_same, tl'.snoc ((upd_ne nt).trans ht), by rw [List.length_append, hl]; rfl, fun r' hr' => ?_, np⟩
        rcases List.mem_append.mp hr' with z | z
        · exact ok r' z
        · rw [List.mem_singleton.mp z]
          exact okr
      refine' S_if (s_test (v_op (v_op (v_slot rfl) v_con (bi_C (show (5 : Int) ≠ 0 by decide))) v_con bi_0)) ?yw ?nw
      all_goals intro hb H10 e10
      · refine S_appU (e10.lst hpr9) (v_slot rfl) (u_tup (g_cons (v_slot rfl) (g_cons (v_slot rfl) (g_cons (v_call (g_cons (v_op (v_slot rfl) v_con (bi_C ⟨by decide, by decide⟩)) g_nil) sv_wish) g_nil))) (show 3 ≤ 100000 by decide)) (by omega) fun pt H11 hpt e11 h11 => ?_
        obtain ⟨vs', l', ⟨z4, z5, z6, z7, ez⟩, r1, r2, r3, r4, r5, r6, r7⟩ := fin (r := [wd, nm, wishOf (c.fdiv 60)]) (e10.trans e11) h11 ⟨wd, nm, nmok, .inl ⟨wd1 (of_decide_eq_true hb), _, wishOf_ok _, rfl⟩⟩
        exact ⟨vs', l', z4, z5, z6, z7, ez, r1, r2, r3, r4, r5, r6, r7⟩
      · refine S_appU (e10.lst hpr9) (v_slot rfl) (u_tup (g_cons (v_slot rfl) (g_cons (v_slot rfl) g_nil)) (show 2 ≤ 100000 by decide)) (by omega) fun pt H11 hpt e11 h11 => ?_
        obtain ⟨vs', l', ⟨z4, z5, z6, z7, ez⟩, r1, r2, r3, r4, r5, r6, r7⟩ := fin (r := [wd, nm]) (e10.trans e11) h11 ⟨wd, nm, nmok, .inr ⟨wd2 (of_decide_eq_false hb), rfl⟩⟩
        exact ⟨vs', l', z4, z5, z6, z7, ez, r1, r2, r3, r4, r5, r6, r7⟩

theorem ok_Law (T : Top K mg) (TB : Tabs T base) : FnOk P w K mg base CX0 5 T.f_Law T.fd_Law ["_law_script"] (spLaw K T.ta_IsName) := by
  have GRowsBy := ok_RowsBy (P := P) (w := w) (base := base) T TB
  have GTold := ok_Told (P := P) (w := w) (base := base) T TB
  have GReadT := ok_ReadT (P := P) (w := w) (base := base) T TB
  have GAlike := ok_Alike (P := P) (w := w) (base := base) T TB
  refine T.F_Law.ok scLaw (fun vs H Q E h => ?_) (fun cdv A outer s H vs Q E hr h => ?_)
  · obtain ⟨a, ns, rfl, hS, hT, q⟩ := h
    rfl
  · obtain ⟨a, ns, rfl, hS, hT, q⟩ := h
    refine ⟨_, (pss_cons (ps_set (i := 1) scLaw.nd rfl (Or.inl rfl) (pe_call GRowsBy (hr.mono (by decide)) (by rfl) T.g_RowsBy T.F_RowsBy.kp T.B_RowsBy .nil pass0 (pa_cons (pv 0) pa_nil)))
      (pss_cons (ps_set (i := 2) scLaw.nd rfl (Or.inl rfl) (pe_callTy call_list_of (by rfl) T.m_list (by decide +kernel) (pa_cons (pv 1) pa_nil)))
      (pss_cons (ps_set (i := 3) scLaw.nd rfl (Or.inl rfl) pe_str)
      (pss_cons (ps_for PassesOwn.never rfl (pi_list (pv 1)) (pg_name (i := 4) scLaw.nd rfl (Or.inl rfl))
      (pss_cons (ps_set (i := 3) scLaw.nd rfl (Or.inl rfl) (pe_op op_add_str (pe_op op_add_str (pe_op op_add_str (pv 3) (pe_ix ix_tup (pv 4) pe_int (fun _ _ => rfl))) pe_str) (pe_ix ix_tup (pv 4) pe_int (fun _ _ => rfl))))
      (pss_cons (ps_if (pt_cmpR op_eq (pe_callB call_len_seq (by rfl) T.m_len PySem.boot_len (pa_cons (pv 4) pa_nil)) pe_int (nomark _))
      (pss_one (ps_set (i := 3) scLaw.nd rfl (Or.inl rfl) (pe_op op_add_str (pe_op op_add_str (pv 3) pe_str) (pe_ix ix_tup (pv 4) pe_int (fun _ _ => rfl)))))
      pss_nil)
      (pss_one (ps_set (i := 3) scLaw.nd rfl (Or.inl rfl) (pe_op op_add_str (pv 3) pe_str))))))
      (pss_cons (ps_set (i := 5) scLaw.nd rfl (Or.inl rfl) (pe_call GTold (hr.mono (by decide)) (by rfl) T.g_Told T.F_Told.kp T.B_Told .nil pass0 (pa_cons (pv 2) pa_nil)))
      (pss_cons (ps_if (PW.pt (pw_or (pt_not (pt_val (pe_callB call_isi (by rfl) T.m_isinstance (by decide +kernel) (pa_cons (pv 5) (pa_cons (pe_bltn (v := .ty "str") (by rfl) T.m_str (by decide +kernel) rfl) pa_nil))))) (pw_or (pt_cmpR op_ne (pv 5) (pv 3) (nomark _)) (pw_or1 (pt_cmpR (op_neD hr.units) (pv 2) (pv 1) (nomark _))))))
      (pss_one (ps_ret pe_bl))
      pss_nil)
      (pss_cons (ps_set (i := 6) scLaw.nd rfl (Or.inl rfl) (pe_call GReadT hr (by rfl) T.g_ReadT T.F_ReadT.kp T.B_ReadT .nil RX.passN (pa_cons (pv 3) pa_nil)))
      (pss_cons (ps_expr (pe_bm PySem.F.plainAttrs_list PySem.F.slot_list_append PySem.F.type_list_append mt_append (pv 2) (pa_cons (pe_tup (pa_cons pe_str (pa_cons pe_str pa_nil))) pa_nil)))
      (pss_cons (ps_if (PW.pt (pw_or (pt_cmpR op_ne (pe_call GTold (hr.mono (by decide)) (by rfl) T.g_Told T.F_Told.kp T.B_Told .nil pass0 (pa_cons (pv 2) pa_nil)) (pe_op op_add_str (pv 3) pe_str) (nomark _)) (pw_or1 (pt_not (pt_val (pe_call GAlike (hr.mono (by decide)) (by rfl) T.g_Alike T.F_Alike.kp T.B_Alike .nil pass0 (pa_cons (pv 6) (pa_cons (pv 1) pa_nil))))))))
      (pss_one (ps_ret pe_bl))
      pss_nil)
      (pss_cons (ps_expr (pe_bm PySem.F.plainAttrs_list PySem.F.slot_list_append PySem.F.type_list_append mt_append (pv 6) (pa_cons (pe_tup (pa_cons pe_str (pa_cons pe_str pa_nil))) pa_nil)))
      (pss_one (ps_ret (pe_and (pe_call GAlike (hr.mono (by decide)) (by rfl) T.g_Alike T.F_Alike.kp T.B_Alike .nil pass0 (pa_cons (pe_call GReadT hr (by rfl) T.g_ReadT T.F_ReadT.kp T.B_ReadT .nil RX.passN (pa_cons (pv 3) pa_nil)) (pa_cons (pv 1) pa_nil))) (pe_one (pe_cmpR op_eq (pe_call GTold (hr.mono (by decide)) (by rfl) T.g_Told T.F_Told.kp T.B_Told .nil pass0 (pa_cons (pv 1) pa_nil)) (pv 3) (nomark _)))))))))))))))), ?_⟩
    refine slots (start_Law _) ?_
    refine B_setR (R := JRows 400) (r_call (g_cons (v_slot rfl) g_nil) fun H1 Q E g k => ⟨a, ns, rfl, g.sl hS, k⟩) fun v H1 e1 hv => ?_
    walk_at "n"
    obtain ⟨pr, vs, l, rfl, hpr, tl, hl4, ok⟩ := hv
    have good : ∀ r ∈ l, r.good := fun r hr => (ok r hr).good
    have lv := tl.length
    refine B_setL (l_list (v_slot rfl) (SqL.of hpr)) fun ph H2 hph e2 h2 => ?_
    walk_at "n"
    refine B_set v_con fun H3 e3 => ?_
    walk_at "n"
    have hpr3 := e3.lst (e2.lst hpr)
    have hph3 := e3.lst h2
    have tl3 := tl.mono (e2.trans e3)
    refine B_forL (v_slot rfl) (SqL.of hpr3) (fun m σ' H' => ∃ y4 y5 y6, σ' = [some (.ref a), some (.ref pr), some (.ref ph), some (.str (textOf (l.take m))), y4, y5, y6] ∧ Gr H3 H') (fun H4 g => ⟨_, _, _, rfl, g⟩) (fun m σ' H' _ ⟨_, _, _, _, g⟩ => SqL.of (g.lst hpr3)) ?hs ?hd
    case hs =>
      rintro m x σ' H' hx ⟨y4, y5, y6, rfl, g⟩
      have hm : m < l.length := by
        have := (List.getElem?_eq_some_iff.mp hx).1
        omega
      obtain ⟨pt, hpt, ht⟩ := (tl3.mono g).get m (List.getElem?_eq_getElem hm)
      rw [hx] at hpt
      obtain rfl := Option.some.inj hpt
      have er : textOf (l.take (m + 1)) = addRow (textOf (l.take m)) l[m] := by
        rw [List.take_succ, List.getElem?_eq_getElem hm, Option.toList_some, textOf_snoc]
      have ln := textOf_len m l ok
      have okr := ok _ (List.getElem_mem hm)
      generalize l[m] = r at ht er okr
      generalize textOf (l.take m) = t at er ln
      have e1' : (" " : Str).length = 1 := rfl
      have e2' : ("\n" : Str).length = 1 := rfl
      obtain ⟨w0, n0, hn0, hr⟩ := okr
      obtain ⟨_, ln0, _⟩ := nameB_is hn0
      show tSeq _ _ _ _ _
      rcases hr with ⟨hw, x0, hx0, rfl⟩ | ⟨hw, rfl⟩
      · have lw := (word_asc (w := w0) (by rcases hw with rfl | rfl <;> decide)).2
        have lx := (word_asc (w := x0) (by rcases hx0 with rfl | rfl <;> decide)).2
        refine B_set (v_op (v_op (v_op (v_slot rfl) (v_op (v_slot rfl) v_con (bi_ixT (SqT.of ht) rfl)) (bi_cat (by omega))) v_con (bi_cat (by simp only [cat_len, e1']; omega))) (v_op (v_slot rfl) v_con (bi_ixT (SqT.of ht) rfl)) (bi_cat (by simp only [cat_len, e1']; omega))) fun H4 e4 => ?_
        walk_at "n"
        refine' B_when (b := true) (Ts.is (s_test (v_op (v_lenT (v_slot rfl) (SqT.of (e4.tup ht))) v_con (bi_eq rfl))) ?ec) (fun _ H5 e5 => ?_) (fun hb => nomatch hb)
        case ec => rfl
        refine S_set (v_op (v_op (v_slot rfl) v_con (bi_cat (by simp only [cat_len, e1']; omega))) (v_op (v_slot rfl) v_con (bi_ixT (SqT.of ((e4.trans e5).tup ht)) rfl)) (bi_cat (by simp only [cat_len, e1']; omega))) fun H6 e6 => ?_
        walk_at "n"
        refine S_set (v_op (v_slot rfl) v_con (bi_cat (by simp only [cat_len, e1', e2']; omega))) fun H7 e7 => ?_
        exact ⟨_, _, _, by rw [er]; rfl, (((g.trans e4).trans e5).trans e6).trans e7⟩
      · have lw := (word_asc (w := w0) (by rcases hw with rfl | rfl | rfl <;> decide)).2
        refine B_set (v_op (v_op (v_op (v_slot rfl) (v_op (v_slot rfl) v_con (bi_ixT (SqT.of ht) rfl)) (bi_cat (by omega))) v_con (bi_cat (by simp only [cat_len, e1']; omega))) (v_op (v_slot rfl) v_con (bi_ixT (SqT.of ht) rfl)) (bi_cat (by simp only [cat_len, e1']; omega))) fun H4 e4 => ?_
        walk_at "n"
        refine' B_when (b := false) (Ts.is (s_test (v_op (v_lenT (v_slot rfl) (SqT.of (e4.tup ht))) v_con (bi_eq rfl))) ?ec2) (fun hb => nomatch hb) (fun _ H5 e5 => ?_)
        case ec2 => rfl
        refine S_set (v_op (v_slot rfl) v_con (bi_cat (by simp only [cat_len, e1', e2']; omega))) fun H7 e7 => ?_
        exact ⟨_, _, _, by rw [er]; rfl, ((g.trans e4).trans e5).trans e7⟩
    rintro σ' H4 ⟨y4, y5, y6, rfl, e4⟩
    rw [List.take_of_length_le (show l.length ≤ vs.length by omega)]
    have lt : (textOf l).length ≤ 27 * 400 := by
      have := textOf_len 400 l ok
      rw [List.take_of_length_le hl4] at this
      exact this
    have hpr4 := e4.lst hpr3
    have hph4 := e4.lst hph3
    have tl4 := tl3.mono e4
    have hT4 := (((e1.trans e2).trans e3).trans e4).tab hT
    have np : ph ≠ pr := fun z => by rw [z, hpr] at hph; cases hph
    refine B_set (v_call (g_cons (v_slot rfl) g_nil) (sv_told hph4 tl4 (by omega) ok)) fun H5 e5 => ?_
    walk_at "n"
    refine' B_when (b := false) (Ts.is (s_or (s_not (s_B (v_issS (v_slot rfl)))) (fun _ => s_or (s_test (v_op (v_slot rfl) (v_slot rfl) (bi_ne rfl))) (fun _ => s_test (v_op (v_slot rfl) (v_slot rfl) (bi_neD (.lst (SqL.of (e5.lst hph4)) (dps_rows (tl4.mono e5))) (.lst (SqL.of (e5.lst hpr4)) (dps_rows (tl4.mono e5))) (shaped_rows l good) (shaped_rows l good)))))) ?ef) (fun hb => nomatch hb) (fun _ H6 e6 => ?_)
    case ef =>
      rw [SeqAt.eqv_refl _ (SeqAt.canLay_of_shaped (shaped_rows l good))]
      simp
    have g6 := e5.trans e6
    refine B_setR (r_call (g_cons (v_slot rfl) g_nil) (sr_read (g6.tab hT4) (by omega) ok)) fun v H7 e7 hv => ?_
    walk_at "n"
    obtain ⟨p1, xs1, rfl, np1, h1, t1⟩ := hv
    have g7 := g6.trans e7
    have hph7 := g7.lst hph4
    have hpr7 := g7.lst hpr4
    have n1h : p1 ≠ ph := fun z => by rw [z, g6.lst hph4] at np1; cases np1
    have n1r : p1 ≠ pr := fun z => by rw [z, g6.lst hpr4] at np1; cases np1
    refine B_appU hph7 (v_slot rfl) (u_tup (g_cons v_con (g_cons v_con g_nil)) (show 2 ≤ 100000 by decide)) (by omega) fun pt H8 hpt e8 h8 => ?_
    -- handed has one row more
    have hph8 := e8.lst hph7
    have sk : ∀ {xs : List V} {l' : List JRow}, TupsAt H8 JRow.vs xs l' → TupsAt (upd H8 ph (.lst (vs ++ [.ref pt]))) JRow.vs xs l' := fun t => t.chg fun ts => by rw [hph8]; exact fun z => nomatch z
    have tl9 := sk (tl4.mono (g7.trans e8))
    have t19 := sk (t1.mono e8)
    have hpt9 : (upd H8 ph (.lst (vs ++ [.ref pt]))) pt = some (.tup (JRow.vs ["left", "a1"])) := (upd_ne fun z => by rw [z, hph8] at h8; cases h8).trans h8
    have th9 := tl9.snoc (r := (["left", "a1"] : JRow)) hpt9
    have hpr9 : (upd H8 ph (.lst (vs ++ [.ref pt]))) pr = some (.lst vs) := (upd_ne np.symm).trans (e8.lst hpr7)
    have h19 : (upd H8 ph (.lst (vs ++ [.ref pt]))) p1 = some (.lst xs1) := (upd_ne n1h).trans (e8.lst h1)
    have hph9 : (upd H8 ph (.lst (vs ++ [.ref pt]))) ph = some (.lst (vs ++ [.ref pt])) := upd_same
    have hT9 : GxR.TabG (upd H8 ph (.lst (vs ++ [.ref pt]))) T.ta_IsName := tab_chg ((g7.trans e8).tab hT4) hph8
    generalize upd H8 ph (.lst (vs ++ [.ref pt])) = H9 at hph9 h19 hpr9 th9 tl9 t19 hT9 ⊢
    clear hpt9 sk hph8 h8 hph7 hpr7 h1 t1
    have okL : ∀ r ∈ l ++ ([["left", "a1"]] : List JRow), r.ok := fun r hr => by
      rcases List.mem_append.mp hr with z | z
      · exact ok r z
      · rw [List.mem_singleton.mp z]
        exact ⟨"left", "a1", by decide +kernel, .inr ⟨.inl rfl, rfl⟩⟩
    have llen : (l ++ ([["left", "a1"]] : List JRow)).length ≤ 401 := by
      rw [List.length_append]
      show l.length + 1 ≤ 401
      omega
    have e8' : ("left a1\n" : Str).length = 8 := by decide +kernel
    refine' B_when (b := false) (Ts.is (s_or (s_test (v_op (v_call (g_cons (v_slot rfl) g_nil) (sv_told hph9 th9 llen okL)) (v_op (v_slot rfl) v_con (bi_cat (by omega))) (bi_ne rfl))) (fun _ => s_not (s_test (v_call (g_cons (v_slot rfl) (g_cons (v_slot rfl) g_nil)) (sv_alike h19 hpr9 t19 tl9 (by omega) good))))) ?eg) (fun hb => nomatch hb) (fun _ H10 e10 => ?_)
    case eg =>
      rw [textOf_left]
      simp
    have l1 := t19.length
    refine B_appU (e10.lst h19) (v_slot rfl) (u_tup (g_cons v_con (g_cons v_con g_nil)) (show 2 ≤ 100000 by decide)) (by omega) fun pu H11 hpu e11 h11 => ?_
    have h111 := e11.lst (e10.lst h19)
    have tl12 : TupsAt (upd H11 p1 (.lst (xs1 ++ [.ref pu]))) JRow.vs vs l := (tl9.mono (e10.trans e11)).chg fun ts => by rw [h111]; exact fun z => nomatch z
    have hpr12 : (upd H11 p1 (.lst (xs1 ++ [.ref pu]))) pr = some (.lst vs) := (upd_ne n1r.symm).trans ((e10.trans e11).lst hpr9)
    have hT12 : GxR.TabG (upd H11 p1 (.lst (xs1 ++ [.ref pu]))) T.ta_IsName := tab_chg ((e10.trans e11).tab hT9) h111
    generalize upd H11 p1 (.lst (xs1 ++ [.ref pu])) = H12 at tl12 hpr12 hT12 ⊢
    refine' S_ret (Vl.is (v_and (b := true) (fun H13 Q13 e13 k13 => ?ea) (fun _ => v_op (v_call (g_cons (v_slot rfl) g_nil) (sv_told hpr12 tl12 (by omega) ok)) (v_slot rfl) (bi_eq rfl))) ?er) fun H13 e13 => q H13
    case ea =>
      refine r_call (g_cons (v_slot rfl) g_nil) (sr_read (e13.tab hT12) (by omega) ok) H13 _ (.refl _) fun v H14 e14 hv => ?_
      obtain ⟨p2, xs2, rfl, np2, h2', t2'⟩ := hv
      have g14 := e13.trans e14
      exact v_call (z := .bl true) (g_cons v_con (g_cons (v_slot rfl) g_nil)) (sv_alike h2' (g14.lst hpr12) t2' (tl12.mono g14) (by omega) good) H14 _ (.refl _) fun H15 e15 => k13 H15 (e14.trans e15)
    case er => simp

end
theorem law_pre {K : PySem.W.Frag} {mg : Str → Option Value} (T : Top K mg) (H : Hp) (a : Addr) (ns : List Int) (hl : ns.length ≤ 63) (hS : SqL K H a (ns.map V.int)) (ht : ∀ p ∈ [(T.co_IsName, T.ta_IsName)], GxR.TabG H p.2) : spLaw K T.ta_IsName [.ref a] H (fun v _ => v = .bl true) fun _ _ _ => False :=
  ⟨a, ns, rfl, hS, ht _ List.mem_cons_self, fun _ => rfl⟩
def dIsName : He.DefD := ⟨("is_name", none), "is_name", "is_name", defArgs sIsName, defBody sIsName, defScope sIsName, [], []⟩
def dIsWish : He.DefD := ⟨("is_wish", none), "is_wish", "is_wish", defArgs sIsWish, defBody sIsWish, defScope sIsWish, [], []⟩
def dIsWord : He.DefD := ⟨("is_word", none), "is_word", "is_word", defArgs sIsWord, defBody sIsWord, defScope sIsWord, [], []⟩
def dIsRow : He.DefD := ⟨("is_row", none), "is_row", "is_row", defArgs sIsRow, defBody sIsRow, defScope sIsRow, [], []⟩
def dTold : He.DefD := ⟨("told", none), "told", "told", defArgs sTold, defBody sTold, defScope sTold, [], []⟩
def dRowOf : He.DefD := ⟨("row_of", none), "row_of", "row_of", defArgs sRowOf, defBody sRowOf, defScope sRowOf, [], []⟩
def dReadT : He.DefD := ⟨("read", none), "read", "read", defArgs sReadT, defBody sReadT, defScope sReadT, [], []⟩
def dCell : He.DefD := ⟨("_law_cell_at", none), "_law_cell_at", "_law_cell_at", defArgs sCell, defBody sCell, defScope sCell, [], []⟩
def dPeople : He.DefD := ⟨("_law_people", none), "_law_people", "_law_people", defArgs sPeople, defBody sPeople, defScope sPeople, [], []⟩
def dWish : He.DefD := ⟨("_law_wish_by", none), "_law_wish_by", "_law_wish_by", defArgs sWish, defBody sWish, defScope sWish, [], []⟩
def dAlike : He.DefD := ⟨("_law_rows_alike", none), "_law_rows_alike", "_law_rows_alike", defArgs sAlike, defBody sAlike, defScope sAlike, [], []⟩
def dRowsBy : He.DefD := ⟨("_law_rows_by", none), "_law_rows_by", "_law_rows_by", defArgs sRowsBy, defBody sRowsBy, defScope sRowsBy, [], []⟩
def dLaw : He.DefD := ⟨("law", none), "law", "law", defArgs sLaw, defBody sLaw, defScope sLaw, [], []⟩
def fns : List He.DefD := [dIsName, dIsWish, dIsWord, dIsRow, dTold, dRowOf, dReadT, dCell, dPeople, dWish, dAlike, dRowsBy, dLaw]
def fas : List He.Fa := ([.glo "is_name", .glo "is_wish", .glo "is_word", .glo "is_row", .glo "told", .glo "row_of", .glo "read", .glo "_law_cell_at", .glo "_law_people", .glo "_law_wish_by", .glo "_law_rows_alike", .glo "_law_rows_by", .glo "law", .glo "BadText", .exc "BadText", .free "all", .free "int", .free "isinstance", .free "len", .free "list", .free "range", .free "str", .free "tuple", .str "ASKED" "asked", .str "BEGINS" "begins", .str "CAME" "came", .str "EASED" "eased", .str "LEFT" "left"] : List He.Fa) ++ ([.str "LINE_END" "\n", .int "NAME_LENGTH" 12, .str "NAME_SIGNS" "abcdefghijklmnopqrstuvwxyz0123456789", .str "READ" "read", .str "WRITE" "write"] : List He.Fa)
def tfs : List He.Defn := [("is_name", none)]
abbrev Rw : PySem.W.OpenRow := PySem.W.OpenLaw.row PySem.Challenge.rw_readwriteroom_k11_told_and_read
abbrev hk : PySem.W.Hook := He.hookX 6 fas fns [] tfs (fun _ => true)
def ob (s : PySem.W.SharedT) : He.AlX := He.obsX 6 fas fns [] tfs (fun _ => true) (HandSHeadRun.getT s)
theorem ob_is (s : PySem.W.SharedT) : ob s = hk.obs s.abs := He.obsX_eq (HandSHeadRun.getT_eq s)
def loose : List PySem.Str := ["RoomError", "BadText", "READ", "WRITE", "NAME_SIGNS", "NAME_LENGTH", "is_name", "is_wish", "CAME", "LEFT", "ASKED", "EASED", "BEGINS", "is_word", "is_row", "LINE_END", "told", "row_of", "read", "_law_cell_at", "_law_people", "_law_wish_by", "_law_rows_alike", "_law_rows_by"]
set_option maxHeartbeats 0 in
theorem run (w : World) : HandSHeadRun.RunEq Rw (PySem.W.view Rw.prog [29]) hk ob 30000 loose w := by
  intro os
  kernel_rfl
theorem fun_of {K : PySem.W.Frag} {x z : Str} {st : Stmt} {f : Addr} {fd : FuncData} (F : L2.FunD K x z (defArgs st) (defBody st) (defScope st) [] [] f fd) : Fun K x z st f fd := by
  obtain ⟨oc, od, dV, kV, doc, pm, an, cdv, ct, osl, e, lk, hcd, hD, _⟩ := F.ex
  rcases hD with ⟨_, rfl⟩ | ⟨n, _⟩
  · exact ⟨⟨oc, od, kV, doc, pm, an, cdv, ct, osl, e, lk, hcd⟩, F.kp⟩
  · exact absurd rfl n
theorem code_is {K : PySem.W.Frag} {x z : Str} {st : Stmt} {p : He.Defn} {fd : FuncData} (F : Fun K x z st (He.fAd K p) fd) : fd.code = .ref (He.codeOf K p) := by
  obtain ⟨oc, od, kV, doc, pm, an, cdv, ct, osl, rfl, lk, hcd⟩ := F.ex
  obtain ⟨c, rfl⟩ := He.codeIn_ref hcd
  rw [He.codeOf_eq lk rfl]
theorem tab_is {base : Heap} {mg : Str → Option Value} {p : Addr × Addr} (h : LamX.TabB base mg p.1 p.2) : GxR.TabB base mg p.1 p.2 := ⟨h.code, h.bm, h.gP⟩
theorem facts {P : Program} {w : World} {K : PySem.W.Frag} {h : Heap} {mg : Str → Option Value} {fa : Addr} (X : K.In h) (G : h.Ns mainGlobals mg) (hfa : mg "law" = some (.ref fa)) (c : He.SaysX fas fns [] tfs (fun _ => true) w h K) :
    ∃ (T : Top K mg), T.f_Law = fa ∧ (∀ (s : Shared) (v : Value), BindsTo s T.fd_Law ⟨[v], []⟩ [("_law_script", v)]) ∧ (T.co_IsName, T.ta_IsName) = He.cT K ("is_name", none) := by
  obtain ⟨fd_IsName, D0⟩ := c.t.d.def_ 0 (d := dIsName) rfl
  have F_IsName : Fun K "is_name" "is_name" sIsName (He.fAd K ("is_name", none)) fd_IsName := fun_of D0
  have b_IsName := F_IsName.binds (ps := ["thing"]) fun _ _ _ _ _ _ us hl => match us, hl with | [_], _ => rfl
  obtain ⟨fd_IsWish, D1⟩ := c.t.d.def_ 1 (d := dIsWish) rfl
  have F_IsWish : Fun K "is_wish" "is_wish" sIsWish (He.fAd K ("is_wish", none)) fd_IsWish := fun_of D1
  have b_IsWish := F_IsWish.binds (ps := ["thing"]) fun _ _ _ _ _ _ us hl => match us, hl with | [_], _ => rfl
  obtain ⟨fd_IsWord, D2⟩ := c.t.d.def_ 2 (d := dIsWord) rfl
  have F_IsWord : Fun K "is_word" "is_word" sIsWord (He.fAd K ("is_word", none)) fd_IsWord := fun_of D2
  have b_IsWord := F_IsWord.binds (ps := ["thing", "words"]) fun _ _ _ _ _ _ us hl => match us, hl with | [_, _], _ => rfl
  obtain ⟨fd_IsRow, D3⟩ := c.t.d.def_ 3 (d := dIsRow) rfl
  have F_IsRow : Fun K "is_row" "is_row" sIsRow (He.fAd K ("is_row", none)) fd_IsRow := fun_of D3
  have b_IsRow := F_IsRow.binds (ps := ["thing"]) fun _ _ _ _ _ _ us hl => match us, hl with | [_], _ => rfl
  obtain ⟨fd_Told, D4⟩ := c.t.d.def_ 4 (d := dTold) rfl
  have F_Told : Fun K "told" "told" sTold (He.fAd K ("told", none)) fd_Told := fun_of D4
  have b_Told := F_Told.binds (ps := ["rows"]) fun _ _ _ _ _ _ us hl => match us, hl with | [_], _ => rfl
  obtain ⟨fd_RowOf, D5⟩ := c.t.d.def_ 5 (d := dRowOf) rfl
  have F_RowOf : Fun K "row_of" "row_of" sRowOf (He.fAd K ("row_of", none)) fd_RowOf := fun_of D5
  have b_RowOf := F_RowOf.binds (ps := ["line"]) fun _ _ _ _ _ _ us hl => match us, hl with | [_], _ => rfl
  obtain ⟨fd_ReadT, D6⟩ := c.t.d.def_ 6 (d := dReadT) rfl
  have F_ReadT : Fun K "read" "read" sReadT (He.fAd K ("read", none)) fd_ReadT := fun_of D6
  have b_ReadT := F_ReadT.binds (ps := ["text"]) fun _ _ _ _ _ _ us hl => match us, hl with | [_], _ => rfl
  obtain ⟨fd_Cell, D7⟩ := c.t.d.def_ 7 (d := dCell) rfl
  have F_Cell : Fun K "_law_cell_at" "_law_cell_at" sCell (He.fAd K ("_law_cell_at", none)) fd_Cell := fun_of D7
  have b_Cell := F_Cell.binds (ps := ["_law_script", "_law_k"]) fun _ _ _ _ _ _ us hl => match us, hl with | [_, _], _ => rfl
  obtain ⟨fd_People, D8⟩ := c.t.d.def_ 8 (d := dPeople) rfl
  have F_People : Fun K "_law_people" "_law_people" sPeople (He.fAd K ("_law_people", none)) fd_People := fun_of D8
  have b_People := F_People.binds (ps := ["_law_cell", "_law_many"]) fun _ _ _ _ _ _ us hl => match us, hl with | [_, _], _ => rfl
  obtain ⟨fd_Wish, D9⟩ := c.t.d.def_ 9 (d := dWish) rfl
  have F_Wish : Fun K "_law_wish_by" "_law_wish_by" sWish (He.fAd K ("_law_wish_by", none)) fd_Wish := fun_of D9
  have b_Wish := F_Wish.binds (ps := ["_law_cell"]) fun _ _ _ _ _ _ us hl => match us, hl with | [_], _ => rfl
  obtain ⟨fd_Alike, D10⟩ := c.t.d.def_ 10 (d := dAlike) rfl
  have F_Alike : Fun K "_law_rows_alike" "_law_rows_alike" sAlike (He.fAd K ("_law_rows_alike", none)) fd_Alike := fun_of D10
  have b_Alike := F_Alike.binds (ps := ["_law_found", "_law_due"]) fun _ _ _ _ _ _ us hl => match us, hl with | [_, _], _ => rfl
  obtain ⟨fd_RowsBy, D11⟩ := c.t.d.def_ 11 (d := dRowsBy) rfl
  have F_RowsBy : Fun K "_law_rows_by" "_law_rows_by" sRowsBy (He.fAd K ("_law_rows_by", none)) fd_RowsBy := fun_of D11
  have b_RowsBy := F_RowsBy.binds (ps := ["_law_script"]) fun _ _ _ _ _ _ us hl => match us, hl with | [_], _ => rfl
  obtain ⟨fd_Law, D12⟩ := c.t.d.def_ 12 (d := dLaw) rfl
  have F_Law : Fun K "law" "law" sLaw (He.fAd K ("law", none)) fd_Law := fun_of D12
  have b_Law := F_Law.binds (ps := ["_law_script"]) fun _ _ _ _ _ _ us hl => match us, hl with | [_], _ => rfl
  obtain ⟨t_ASKED, y_ASKED⟩ := He.str_ok X G (c.t.d.fact 23 (f := .str "ASKED" "asked") rfl)
  obtain ⟨t_BEGINS, y_BEGINS⟩ := He.str_ok X G (c.t.d.fact 24 (f := .str "BEGINS" "begins") rfl)
  obtain ⟨t_CAME, y_CAME⟩ := He.str_ok X G (c.t.d.fact 25 (f := .str "CAME" "came") rfl)
  obtain ⟨t_EASED, y_EASED⟩ := He.str_ok X G (c.t.d.fact 26 (f := .str "EASED" "eased") rfl)
  obtain ⟨t_LEFT, y_LEFT⟩ := He.str_ok X G (c.t.d.fact 27 (f := .str "LEFT" "left") rfl)
  obtain ⟨t_LINE_END, y_LINE_END⟩ := He.str_ok X G (c.t.d.fact 28 (f := .str "LINE_END" "\n") rfl)
  obtain ⟨t_NAME_LENGTH, y_NAME_LENGTH⟩ := He.int_ok X G (c.t.d.fact 29 (f := .int "NAME_LENGTH" 12) rfl)
  obtain ⟨t_NAME_SIGNS, y_NAME_SIGNS⟩ := He.str_ok X G (c.t.d.fact 30 (f := .str "NAME_SIGNS" "abcdefghijklmnopqrstuvwxyz0123456789") rfl)
  obtain ⟨t_READ, y_READ⟩ := He.str_ok X G (c.t.d.fact 31 (f := .str "READ" "read") rfl)
  obtain ⟨t_WRITE, y_WRITE⟩ := He.str_ok X G (c.t.d.fact 32 (f := .str "WRITE" "write") rfl)
  have e := hfa.symm.trans (He.glo_ok X G (c.t.d.fact 12 (f := .glo "law") rfl))
  have b := FunD.bindsA (ps := ["_law_script"]) D12 fun _ _ _ _ _ _ us hl => match us, hl with | [_], _ => rfl
  exact ⟨⟨_, fd_IsName, F_IsName, b_IsName, He.glo_ok X G (c.t.d.fact 0 (f := .glo "is_name") rfl), _, (He.cT K ("is_name", none)).2, code_is F_IsName, _, fd_IsWish, F_IsWish, b_IsWish, He.glo_ok X G (c.t.d.fact 1 (f := .glo "is_wish") rfl), _, fd_IsWord, F_IsWord, b_IsWord, He.glo_ok X G (c.t.d.fact 2 (f := .glo "is_word") rfl), _, fd_IsRow, F_IsRow, b_IsRow, He.glo_ok X G (c.t.d.fact 3 (f := .glo "is_row") rfl), _, fd_Told, F_Told, b_Told, He.glo_ok X G (c.t.d.fact 4 (f := .glo "told") rfl), _, fd_RowOf, F_RowOf, b_RowOf, He.glo_ok X G (c.t.d.fact 5 (f := .glo "row_of") rfl), _, fd_ReadT, F_ReadT, b_ReadT, He.glo_ok X G (c.t.d.fact 6 (f := .glo "read") rfl), _, fd_Cell, F_Cell, b_Cell, He.glo_ok X G (c.t.d.fact 7 (f := .glo "_law_cell_at") rfl), _, fd_People, F_People, b_People, He.glo_ok X G (c.t.d.fact 8 (f := .glo "_law_people") rfl), _, fd_Wish, F_Wish, b_Wish, He.glo_ok X G (c.t.d.fact 9 (f := .glo "_law_wish_by") rfl), _, fd_Alike, F_Alike, b_Alike, He.glo_ok X G (c.t.d.fact 10 (f := .glo "_law_rows_alike") rfl), _, fd_RowsBy, F_RowsBy, b_RowsBy, He.glo_ok X G (c.t.d.fact 11 (f := .glo "_law_rows_by") rfl), _, fd_Law, F_Law, b_Law, He.glo_ok X G (c.t.d.fact 12 (f := .glo "law") rfl), He.glo_ok X G (c.t.d.fact 13 (f := .glo "BadText") rfl), He.exc_ok (c.t.d.fact 14 (f := .exc "BadText") rfl), He.free_ok X G (c.t.d.fact 15 (f := .free "all") rfl), He.free_ok X G (c.t.d.fact 16 (f := .free "int") rfl), He.free_ok X G (c.t.d.fact 17 (f := .free "isinstance") rfl), He.free_ok X G (c.t.d.fact 18 (f := .free "len") rfl), He.free_ok X G (c.t.d.fact 19 (f := .free "list") rfl), He.free_ok X G (c.t.d.fact 20 (f := .free "range") rfl), He.free_ok X G (c.t.d.fact 21 (f := .free "str") rfl), He.free_ok X G (c.t.d.fact 22 (f := .free "tuple") rfl), t_ASKED, y_ASKED, t_BEGINS, y_BEGINS, t_CAME, y_CAME, t_EASED, y_EASED, t_LEFT, y_LEFT, t_LINE_END, y_LINE_END, t_NAME_LENGTH, y_NAME_LENGTH, t_NAME_SIGNS, y_NAME_SIGNS, t_READ, y_READ, t_WRITE, y_WRITE⟩, (Value.ref.inj (Option.some.inj e)).symm, fun s v => b s [v] rfl, rfl⟩
end RR
open PySem PySem.W PySem.Calls PyProof.Rows in
set_option maxHeartbeats 0 in
theorem PySem.Challenge.cw_readwriteroom_k11_told_and_read_holds : PySem.Challenge.rw_readwriteroom_k11_told_and_read.Holds := by
  w_on; o_law
  refine HandSHeadRun.head_any (r := RR.Rw) (q := view (RR.Rw).prog [29]) (H := RR.hk) (ob := RR.ob) (M := 30000) (loose := RR.loose) (d := HandSHeadRun.topDef (RR.Rw).prog 29) (kwd := []) RR.ob_is
    (by kernel_rfl) (fun s => by kernel_rfl) RR.run (by kernel_rfl) (by kernel_rfl) (by kernel_rfl) (by rfl) (by first | assumption | decide +kernel) (by decide +kernel) ⟨rfl, rfl, rfl, rfl, rfl, by decide +kernel⟩ ?hw ?hc
  case hw => w_witness2
  case hc =>
    refine LamX.walk_ofTsE (l := PySem.Challenge.rw_readwriteroom_k11_told_and_read) (n := 63) (k := 5) (x := "_law_script") (CX := fun _ => L2.CX0) rfl (by decide) (by kernel_rfl) ⟨rfl, by decide, by decide⟩ ?F (fun _ _ _ _ _ z => z)
    intro w mg fa h Y G hmg0
    obtain ⟨K, KX, c⟩ := Y
    have hmg : mg ("law" : PySem.Str) = some (.ref fa) := by
      have e : (HandSHeadRun.topDef (RR.Rw).prog 29).name = ("law" : PySem.Str) := by kernel_rfl
      rw [← e]
      exact hmg0
    obtain ⟨T, rfl, hb, eIsName⟩ := RR.facts (P := (PySem.Challenge.rw_readwriteroom_k11_told_and_read).prog) (w := w) KX G hmg c
    have mem : ∀ p ∈ ([(T.co_IsName, T.ta_IsName)] : List (Addr × Addr)), ∃ z ∈ RR.tfs, p = He.cT K z := by
      intro p hp
      simp only [List.mem_cons, List.not_mem_nil, or_false] at hp
      exact ⟨("is_name", none), by simp [RR.tfs], by rw [hp]; exact eIsName⟩
    refine ⟨K, KX, T.fd_Law, [(T.co_IsName, T.ta_IsName)], RR.spLaw K T.ta_IsName, fun p hp => ?_, fun p hp => ?_, fun p hp => ?_, hb, fun H a ns hl _ hT hS => ?_, fun base _ _ TB => ?_⟩
    · obtain ⟨z, hz, rfl⟩ := mem p hp
      exact c.empty z hz
    · obtain ⟨z, hz, rfl⟩ := mem p hp
      exact c.out z hz
    · obtain ⟨z, hz, rfl⟩ := mem p hp
      exact codeHd_of_K KX (c.hd z hz)
    · exact RR.law_pre T H a ns hl hS (fun p hp => ⟨#[], hT p hp, trivial⟩)
    · exact RR.ok_Law T ⟨RR.tab_is (TB (T.co_IsName, T.ta_IsName) (by simp))⟩

