import PyProof.Rows.All
import Wide.All
import OpenK.AllK
import Wide.FinOn
import KE.KStateDown
import HandS.ForMost
import HandS.IsInst
import HandS.AnyAll
import HandS.Steps
import HandS.Walk
import HandS.Evl
import HandS.Head0
import HandS.Head1
import HandS.Head2
import HandS.HeadEnd
import HandS.HeadHook1
import HandS.HeadHook2
import HandS.HeadHook4
import HandS.HeadWalk
import PySem.Challenge.RW_readwriteroom_k02_next_place
set_option Elab.async false
set_option linter.all false
set_option maxHeartbeats 8000000
set_option maxRecDepth 100000
/-! ### all(test for x in text), the test over the sign and the module's names -/
namespace RG
open PySem PySem.Spec PyProof.Rows L2
/-- the test of one sign: it may read the sign's name and the module's names -/
def Elt (P : Program) (w : World) (mg : Str → Option Value) (scope : Scope) (x : Str) (elt : Expr) (pb : Nat → Bool) : Prop :=
  ∀ (ev : Env) (A : Around) (E : Value → Shared → Prop) (k : Nat) (t : Tok) (s : Shared) (m : Str → Option Value), ev.scope = scope → ev.globals = mainGlobals → s.heap.Ns mainGlobals mg → s.heap.Ns ev.locals m → m x = some (.str ⟨#[k]⟩ t) →
    wpAny (model P w) A (eval elt ev) (fun y s' => y = .bool (pb k) ∧ Keeps s s') E s
/-- x in NAME, NAME a text of the module -/
theorem elt_in {P : Program} {w : World} {mg : Str → Option Value} {scope : Scope} {x N z : Str} {tk : Tok} {p1 p2 p3 : Pos} (kd : scope.kind = .function) (lx : scope.names.lookup x = some .local) (lN : scope.names.lookup N = some .globalImplicit) (hN : mg N = some (.str z tk))
    (d1 : (x == ("__debug__" : Str)) = false := by decide) (d2 : (N == ("__debug__" : Str)) = false := by decide) : Elt P w mg scope x (.Compare (.Name x p1) [.In] [.Name N p2] p3) (fun k => decide (k ∈ z.cps.toList)) := by
  intro ev A E k t s m hs hg hG hL hx
  subst hs
  refine wpAny_Compare1 (wpAny_Name (wpAny_loadName_local kd lx hL hx ?_) d1) (by rfl)
  have hG' : s.heap.Ns ev.globals mg := by
    rw [hg]
    exact hG
  refine Calls.Name_function_global kd lN (Calls.loadGlobal_global hG' hN (PyProof.Rows.in_str ⟨?_, s.heap, s.toks, rfl, fun _ _ e => e⟩)) d2
  rw [PySem.StrLaws.found_one z k]
theorem nofree {l : List (Str × NameKind)} {R : Str × NameKind → Prop} (h : (l.all fun y => decide (y.2 ≠ .free)) = true) : ∀ y ∈ l, y.2 = .free → R y := fun y hy e => absurd e (of_decide_eq_true (List.all_eq_true.mp h y hy))
section
variable {X : Cx} {pins : List (Addr × Obj)} {σ : L2.St} {H : Hp} {s : Shared} {c P : Addr} {scope : Scope} {x : Str} {elt : Expr} {pb : Nat → Bool}
/-- the code object of the generator is found in the table, or made and entered -/
theorem code_of {M : Model} {A : Around} {E : Value → Shared → Prop} {r : Shared} {ev : Env} {gp : Pos} {qn : Str} {ps : Array Value} {Q : Value → Shared → Prop} (hc : ev.code = .ref c) (hd : PySem.W.CodeHd r.heap c P) (hP : r.heap.get? P = some (PySem.W.tabObj ps)) (ok : TriplesOk ps.toList)
    (h : ∀ cd h' tk more, Heap.ExtBut P r.heap h' → r.heap.objs.size ≤ h'.objs.size → h'.get? P = some (PySem.W.tabObj (ps ++ more)) → TriplesOk (ps ++ more).toList → Q cd { r with heap := h', toks := tk }) : wpAny M A (genexprCode ev gp qn scope) Q E r := by
  cases hf : codeAmong gp ps.toList with
  | some cd =>
    have e : ps ++ #[] = ps := by simp
    refine wpAny_genexprCode_hit hc (hd.code hP ok) hf ?_
    exact h cd r.heap r.toks #[] (.refl _ _) (Nat.le_refl _) (by rw [e]; exact hP) (by rw [e]; exact ok)
  | none =>
    refine wpAny_genexprCodeX hc (hd.code hP ok) (hd.tab hP) hf ?_
    intro c1 h1 t1 ext ge lt co _ ta _
    obtain ⟨_, _, _, _, _, _, _, _, _, _, _, _, _, _, _, _, _, _, _, tr, _⟩ := co
    exact h _ h1 t1 _ ext (Nat.le_trans ge (Nat.le_of_lt lt)) ta.2 tr
theorem in_range {h : Heap} {b : Addr} {u : Obj} (e : h.get? b = some u) : b ∈ List.range h.objs.size := List.mem_range.mpr (Heap.lt_size e)
theorem pe_allG {iter : Expr} {px p pos gp : Pos} {te : TE} {k : Nat} (hr : Room k X.A) (gA : Gl X "all") (mA : X.mg "all" = none) (TB : GxR.TabB X.base X.mg c P) (hc : X.env.code = .ref c) (S : GxR.GenS X.env scope x) (hi : PE X iter te) (hel : Elt X.prog X.w X.mg scope x elt pb)
    (hs : ∀ v, genFold iter X.env v = pure v)
    (he : starEach [.GeneratorExp elt [⟨.Name x px, iter, [], 0⟩] scope gp] X.env = [(false, eval (.GeneratorExp elt [⟨.Name x px, iter, [], 0⟩] scope gp) X.env)] := by rfl) :
    PE X (.Call (.Name "all" p) [.GeneratorExp elt [⟨.Name x px, iter, [], 0⟩] scope gp] [] pos) (GxR.tAllS P pb te) := by
  constructor
  intro pins s σ H Q I h
  have bA : bootBuiltins "all" = some (.builtin "all") := PyProof.Rows.boot_all
  refine wpAny_Call_Name_kw (ld_blt I gA mA bA (PyProof.Rows.callWith_builtin1 ?_ he (by rfl)))
  rw [he]
  refine Calls.spliced_cons ?_
  refine wpAny_GeneratorExp_walksQ hr.hd S.co (closure_ok S.free) S.cell S.dot S.loc S.kind (by have := hr.dp; omega) (thn (hi.run pins s σ H _ I h) ?_) hs
  rintro xv sa ⟨v, Ha, Ia, rv, a, rfl, ⟨ps, tP, ok⟩, q⟩
  obtain ⟨ta, rfl⟩ := rv
  refine wpAny_pyIter_str ?_
  intro io St W st0
  -- the heap with the text's iterator
  have gP : sa.heap.get? P = some (PySem.W.tabObj ps) := Ia.hok P _ tP
  have up : ∀ b u, sa.heap.get? b = some u → (sa.heap.push io).get? b = some u := fun b u e => Heap.get?_push_of_some _ e
  have nl : (sa.heap.push io).NoLimit := Ia.nolimit.push io
  have szp : (sa.heap.push io).objs.size = sa.heap.objs.size + 1 := Heap.size_push ..
  refine ⟨nl, code_of hc (TB.code.keeps fun b u e => up b u (Ia.bk b u e)) (up _ _ gP) ok ?_⟩
  intro cd h3 tk more ext ge gP3 ok3
  have ge2 : sa.heap.objs.size + 1 ≤ h3.objs.size := by
    rw [← szp]
    exact ge
  have kp : ∀ b u, b ≠ P → sa.heap.get? b = some u → h3.get? b = some u := fun b u n e => ext b u n (up b u e)
  have PltA : P < sa.heap.objs.size := Heap.lt_size gP
  have nsG : h3.Ns mainGlobals X.mg := ((Ia.mod.glob.keeps Ia.bk).push io).extBut ext TB.gP
  have csP : cStatics ≠ P := by
    intro e
    obtain ⟨_, ⟨o', _, _, ho, hdd, _⟩, _⟩ := Ia.nolimit
    rw [e, gP] at ho
    cases ho
    cases hdd
  have csA : cStatics < sa.heap.objs.size := let ⟨_, hns, _⟩ := Ia.nolimit; hns.lt
  have itP : sa.heap.objs.size ≠ P := fun e => absurd PltA (by rw [e]; exact Nat.lt_irrefl _)
  obtain ⟨bm, ob, b1, b2, b3, b4, b5, b6, b7, b8⟩ := TB.bm
  refine wpAny_builtinsFor (m := X.mg) (by rw [Ia.ok.glob]; exact nsG) b1 b2 (kp _ _ b4 (Ia.bk _ _ b5)) b6 b7 b8 ?_
  refine ⟨sa.heap.objs.size, [sa.heap.objs.size], [sa.heap.objs.size], a.cps.size, SignAt a, St, fun _ => true, fun j y => ∃ k, a.cps[j]? = some k ∧ y = .bool (pb k), rfl, W, ?_, ?_, nl.extBut ext csP, ?_, ?_, ?_⟩
  · refine (W X.A hr.hd).frame _ _ _ st0 fun b hb u e => ext b u ?_ e
    rw [List.mem_singleton.mp hb]
    exact itP
  · intro b hb
    rw [List.mem_singleton.mp hb]
    exact ge2
  · intro hm
    exact Nat.ne_of_lt csA (List.mem_singleton.mp hm)
  · intro hh kh
    constructor
    · intros
      simp only [List.forIn_nil]
      exact wpAny_pure ⟨rfl, GxR.keeps_refl _⟩
    · rintro A' E' j v s2 m2 hA ⟨k, u, hk, rfl⟩ _ hn hm keep
      have G2 : s2.heap.Ns mainGlobals X.mg := by
        obtain ⟨og, es, ep, hog, r⟩ := nsG
        refine ⟨og, es, ep, keep _ (in_range hog) ?_ _ (kh _ _ hog), r⟩
        intro hm2
        have e2 := List.mem_singleton.mp hm2
        obtain ⟨o9, _, _, h9, _⟩ := Ia.mod.glob.keeps Ia.bk
        have := Heap.lt_size h9
        rw [e2] at this
        exact Nat.lt_irrefl _ this
      refine wpAny_mono (hel _ A' E' k u s2 m2 rfl Ia.ok.glob G2 hn hm) ?_ fun _ _ z => z
      rintro y s3 ⟨e, kk⟩
      exact ⟨⟨k, hk, e⟩, kk⟩
  · intro g h5 t5 gs bare _ _ k5 W5 hat
    rw [GxR.passing_true] at W5
    simp only [List.length_range] at W5
    refine Calls.spliced_nil (call_all_walkS (W5.in4_1.self 0 _ _ _ hat ⟨g, _, _, _, _, _, _, GxR.trF pb a.cps.toList, rfl, W5.in4_1, hat, ?_, ?_⟩))
    · rintro j y sj Qj Ej ⟨i, hij, k, hk, rfl⟩ hq
      obtain ⟨hj, ej⟩ := List.getElem?_eq_some_iff.mp hij
      rw [List.getElem_range] at ej
      subst ej
      rw [GxR.trF_some (b := k) (by rw [Array.getElem?_toList]; exact hk)] at hq
      exact wpAny_truthy_bool hq
    · intro s' mv
      have away : ∀ b u, sa.heap.get? b = some u → b ∉ [h3.objs.size, sa.heap.objs.size] := by
        intro b u e hm
        have l := Heap.lt_size e
        rcases List.mem_cons.mp hm with z | z
        · rw [z] at l
          exact absurd (Nat.lt_of_lt_of_le l (Nat.le_of_succ_le ge2)) (Nat.lt_irrefl _)
        · rw [List.mem_singleton.mp z] at l
          exact Nat.lt_irrefl _ l
      have J := GxR.inv_tab (more := more) (h' := s'.heap) (g' := s'.gens) (d' := s'.drawn) (t' := s'.toks) Ia tP (fun b u n e => mv.heap b u (away b u e) (k5 b u (kp b u n e))) (mv.heap P _ (away P _ gP) (k5 P _ gP3)) (AllBare.movedS (Ia.bare.push bare) mv)
      rw [GxR.sh_eta sa s' mv.os] at J
      refine ⟨.bl _, _, J, rfl, ?_⟩
      rw [GxR.all_signs a pb]
      exact q _ ⟨⟨_, upd_same, ok3⟩, fun b n => upd_ne n⟩
end
end RG

namespace RR
open PySem L2

/-! ### heaps: what is known stays; the tables of code objects may grow -/
def Gr (H H' : Hp) : Prop := ∀ a o, H a = some o → H' a = some o ∨ ∃ ps qs, o = HO.tbl ps ∧ H' a = some (.tbl qs) ∧ (TriplesOk ps.toList → TriplesOk qs.toList)
namespace Gr
theorem refl (H : Hp) : Gr H H := fun _ _ h => .inl h
theorem trans {H H1 H2 : Hp} (x : Gr H H1) (y : Gr H1 H2) : Gr H H2 := by
  intro a o h
  rcases x a o h with h1 | ⟨ps, qs, rfl, h1, t1⟩
  · exact y a o h1
  · rcases y a _ h1 with h2 | ⟨ps', qs', e, h2, t2⟩
    · exact .inr ⟨ps, qs, rfl, h2, t1⟩
    · cases e
      exact .inr ⟨ps, qs', rfl, h2, fun t => t2 (t1 t)⟩
theorem new {H : Hp} {p : Addr} {o : HO} (hp : H p = none) : Gr H (upd H p o) := fun a u h => .inl ((upd_ne (ne_of_none h hp)).trans h)
theorem chg {H H' : Hp} {p : Addr} {o : HO} (x : Gr H H') (hp : H p = none) : Gr H (upd H' p o) := by
  intro a u h
  have n : a ≠ p := ne_of_none h hp
  rcases x a u h with h1 | ⟨ps, qs, e, h1, t1⟩
  · exact .inl ((upd_ne n).trans h1)
  · exact .inr ⟨ps, qs, e, (upd_ne n).trans h1, t1⟩
theorem at_ {H H' : Hp} {a : Addr} {o : HO} (x : Gr H H') (h : H a = some o) (n : ∀ ps, o ≠ .tbl ps) : H' a = some o := by
  rcases x a o h with h1 | ⟨ps, _, e, _⟩
  · exact h1
  · exact absurd e (n ps)
theorem lst {H H' : Hp} {a : Addr} {xs : List V} (x : Gr H H') (h : H a = some (.lst xs)) : H' a = some (.lst xs) := x.at_ h fun _ e => by cases e
theorem tup {H H' : Hp} {a : Addr} {xs : List V} (x : Gr H H') (h : H a = some (.tup xs)) : H' a = some (.tup xs) := x.at_ h fun _ e => by cases e
theorem ins {H H' : Hp} {a C d : Addr} {fs : List (Str × V)} (x : Gr H H') (h : H a = some (.ins C d fs)) : H' a = some (.ins C d fs) := x.at_ h fun _ e => by cases e
theorem free {H H' : Hp} {p : Addr} (x : Gr H H') (h : H' p = none) : H p = none := by
  cases q : H p with
  | none => rfl
  | some o =>
    rcases x p o q with h1 | ⟨_, _, _, h1, _⟩ <;> (rw [h] at h1; cases h1)
theorem rd {H H' : Hp} {a : Addr} {u : HO} (x : Gr H H') (h : Rd H a u) (n : ∀ ps, u ≠ .tbl ps) : Rd H' a u := by
  rcases h with h | ⟨o, h⟩
  · exact .inl (x.at_ h n)
  · exact .inr ⟨o, x.at_ h fun _ e => by cases e⟩
theorem sl {K : PySem.W.Frag} {H H' : Hp} {a : Addr} {xs : List V} (x : Gr H H') (h : SqL K H a xs) : SqL K H' a xs := by
  rcases h with h | h
  · exact .inl (x.rd h fun _ e => by cases e)
  · exact .inr h
theorem st {K : PySem.W.Frag} {H H' : Hp} {a : Addr} {xs : List V} (x : Gr H H') (h : SqT K H a xs) : SqT K H' a xs := by
  rcases h with h | h
  · exact .inl (x.rd h fun _ e => by cases e)
  · exact .inr h
theorem tab {H H' : Hp} {P : Addr} (x : Gr H H') (h : GxR.TabG H P) : GxR.TabG H' P := by
  obtain ⟨ps, h, t⟩ := h
  rcases x P _ h with h1 | ⟨ps', qs, e, h1, t1⟩
  · exact ⟨ps, h1, t⟩
  · cases e
    exact ⟨qs, h1, t1 t⟩
theorem ofTab {H H' : Hp} {P : Addr} (h : GxR.TabG H P) (g : GxR.Tabbed P H H') : Gr H H' := by
  obtain ⟨⟨qs, h1, t1⟩, oth⟩ := g
  intro a o ha
  by_cases e : a = P
  · subst e
    obtain ⟨ps, h0, t0⟩ := h
    rw [h0] at ha
    cases ha
    exact .inr ⟨ps, qs, rfl, h1, fun _ => t1⟩
  · exact .inl ((oth a e).trans ha)
end Gr
mutual
theorem Gr.dp {K : PySem.W.Frag} {H H' : Hp} (x : Gr H H') : ∀ {v : V} {d : PyData}, Dp K H v d → Dp K H' v d
  | _, _, .non => .non
  | _, _, .bl b => .bl b
  | _, _, .int i => .int i
  | _, _, .str z => .str z
  | _, _, .lst s h => .lst (x.sl s) (Gr.dps x h)
  | _, _, .tup s h => .tup (x.st s) (Gr.dps x h)
theorem Gr.dps {K : PySem.W.Frag} {H H' : Hp} (x : Gr H H') : ∀ {vs : List V} {ds : List PyData}, DpAll K H vs ds → DpAll K H' vs ds
  | _, _, .nil => .nil
  | _, _, .cons h t => .cons (Gr.dp x h) (Gr.dps x t)
end

/-! ### what a reading gives, whatever grew meanwhile -/
def Vl (te : TE) (σ : L2.St) (H : Hp) (v : V) : Prop := ∀ (H1 : Hp) (Q : VK), Gr H H1 → (∀ H2, Gr H1 H2 → Q v H2) → te σ H1 Q
def Ls (te : TE) (σ : L2.St) (H : Hp) (xs : List V) : Prop := ∀ (H1 : Hp) (Q : VK), Gr H H1 → (∀ p H2, H1 p = none → Gr H1 H2 → H2 p = some (.lst xs) → Q (.ref p) H2) → te σ H1 Q
def Tu (te : TE) (σ : L2.St) (H : Hp) (xs : List V) : Prop := ∀ (H1 : Hp) (Q : VK), Gr H H1 → (∀ p H2, H1 p = none → Gr H1 H2 → H2 p = some (.tup xs) → Q (.ref p) H2) → te σ H1 Q
def Ts (tt : TT) (σ : L2.St) (H : Hp) (b : Bool) : Prop := ∀ (H1 : Hp) (Q : Bool → Hp → Prop), Gr H H1 → (∀ H2, Gr H1 H2 → Q b H2) → tt σ H1 Q
def Ag (ta : TA) (σ : L2.St) (H : Hp) (vs : List V) : Prop := ∀ (H1 : Hp) (Q : List V → Hp → Prop), Gr H H1 → (∀ H2, Gr H1 H2 → Q vs H2) → ta σ H1 Q
/-- any value of which R holds (data, say) -/
def Vr (te : TE) (σ : L2.St) (H : Hp) (R : V → Hp → Prop) : Prop := ∀ (H1 : Hp) (Q : VK), Gr H H1 → (∀ v H2, Gr H1 H2 → R v H2 → Q v H2) → te σ H1 Q
def Ar (ta : TA) (σ : L2.St) (H : Hp) (R : List V → Hp → Prop) : Prop := ∀ (H1 : Hp) (Q : List V → Hp → Prop), Gr H H1 → (∀ vs H2, Gr H1 H2 → R vs H2 → Q vs H2) → ta σ H1 Q
def Bi (r : R2) (x y : V) (H : Hp) (z : V) : Prop := ∀ (H1 : Hp) (Q : VK), Gr H H1 → (∀ H2, Gr H1 H2 → Q z H2) → r x y H1 Q
def SpV (sp : Sp) (vs : List V) (H : Hp) (z : V) : Prop := ∀ (H1 : Hp) (Q : VK) (E : XK), Gr H H1 → (∀ H2, Gr H1 H2 → Q z H2) → sp vs H1 Q E
def SpL (sp : Sp) (vs : List V) (H : Hp) (xs : List V) : Prop := ∀ (H1 : Hp) (Q : VK) (E : XK), Gr H H1 → (∀ p H2, H1 p = none → Gr H1 H2 → H2 p = some (.lst xs) → Q (.ref p) H2) → sp vs H1 Q E
def SpR (sp : Sp) (vs : List V) (H : Hp) (R : V → Hp → Prop) : Prop := ∀ (H1 : Hp) (Q : VK) (E : XK), Gr H H1 → (∀ v H2, Gr H1 H2 → R v H2 → Q v H2) → sp vs H1 Q E
/-- a promise's ways out: a value, a new list, anything of which R holds -/
def RV (v : V) (H : Hp) (Q : VK) : Prop := ∀ H2, Gr H H2 → Q v H2
def RL (xs : List V) (H : Hp) (Q : VK) : Prop := ∀ p H2, H p = none → Gr H H2 → H2 p = some (.lst xs) → Q (.ref p) H2
def RR_ (R : V → Hp → Prop) (H : Hp) (Q : VK) : Prop := ∀ v H2, Gr H H2 → R v H2 → Q v H2
theorem RV.mono {v : V} {H H' : Hp} {Q : VK} (k : RV v H Q) (e : Gr H H') : RV v H' Q := fun H2 e2 => k H2 (e.trans e2)
theorem RL.mono {xs : List V} {H H' : Hp} {Q : VK} (k : RL xs H Q) (e : Gr H H') : RL xs H' Q := fun p H2 hp e2 h => k p H2 (e.free hp) (e.trans e2) h
theorem RR_.mono {R : V → Hp → Prop} {H H' : Hp} {Q : VK} (k : RR_ R H Q) (e : Gr H H') : RR_ R H' Q := fun v H2 e2 h => k v H2 (e.trans e2) h
theorem small {n : Nat} (h : n ≤ 100000) : n ≤ sizeLine := Nat.le_trans h (by decide)
theorem small' {n : Nat} (h : n < 100000) : n < sizeLine := Nat.lt_of_lt_of_le h (by decide)

section
variable {K : PySem.W.Frag} {σ : L2.St} {H H' : Hp} {t1 t2 t3 : TE} {c1 c2 : TT} {x y z v : V} {r : R2} {b c : Bool}
theorem Vl.mono (h : Vl t1 σ H v) (e : Gr H H') : Vl t1 σ H' v := fun H1 Q g q => h H1 Q (e.trans g) q
theorem Ls.mono {xs : List V} (h : Ls t1 σ H xs) (e : Gr H H') : Ls t1 σ H' xs := fun H1 Q g q => h H1 Q (e.trans g) q
theorem Ts.mono (h : Ts c1 σ H b) (e : Gr H H') : Ts c1 σ H' b := fun H1 Q g q => h H1 Q (e.trans g) q
theorem Vl.toR (h : Vl t1 σ H v) : Vr t1 σ H (fun u _ => u = v) := fun H1 Q g q => h H1 Q g fun H2 g2 => q v H2 g2 rfl
theorem Ls.toR {xs : List V} (h : Ls t1 σ H xs) : Vr t1 σ H (fun u H2 => ∃ p, u = .ref p ∧ H2 p = some (.lst xs)) := fun H1 Q g q => h H1 Q g fun p H2 _ g2 e => q _ H2 g2 ⟨p, rfl, e⟩
theorem Vl.is (h : Vl t1 σ H x) (e : x = y) : Vl t1 σ H y := e ▸ h
theorem Ts.is (h : Ts c1 σ H b) (e : b = c) : Ts c1 σ H c := e ▸ h
theorem Ls.is {xs ys : List V} (h : Ls t1 σ H xs) (e : xs = ys) : Ls t1 σ H ys := e ▸ h
theorem v_slot {i : Nat} (h : σ[i]? = some (some v)) : Vl (tVar i) σ H v := fun H1 _ _ q => ⟨v, h, q H1 (.refl _)⟩
theorem v_con : Vl (tC v) σ H v := fun H1 _ _ q => q H1 (.refl _)
theorem v_op (a : Vl t1 σ H x) (d : Vl t2 σ H y) (o : Bi r x y H z) : Vl (tOp r t1 t2) σ H z := fun H1 Q g q =>
  a H1 _ g fun H2 g2 => d H2 _ (g.trans g2) fun H3 g3 => o H3 _ ((g.trans g2).trans g3) fun H4 g4 => q H4 ((g2.trans g3).trans g4)
/-- the first operand, the second: of any kind -/
theorem v_opR {R S : V → Hp → Prop} (a : Vr t1 σ H R) (mR : ∀ {v H1 H2}, Gr H1 H2 → R v H1 → R v H2) (d : ∀ x H1, Gr H H1 → R x H1 → Vr t2 σ H1 S) (o : ∀ x y H1, Gr H H1 → R x H1 → S y H1 → Bi r x y H1 z) : Vl (tOp r t1 t2) σ H z := fun H1 Q g q =>
  a H1 _ g fun x H2 g2 hx => d x H2 (g.trans g2) hx H2 _ (.refl _) fun y H3 g3 hy => o x y H3 ((g.trans g2).trans g3) (mR g3 hx) hy H3 _ (.refl _) fun H4 g4 => q H4 ((g2.trans g3).trans g4)
theorem r_op {R S : V → Hp → Prop} (a : Vl t1 σ H x) (d : Vr t2 σ H R) (o : ∀ y H1, Gr H H1 → R y H1 → ∃ z, (∀ H2, Gr H1 H2 → S z H2) ∧ Bi r x y H1 z) : Vr (tOp r t1 t2) σ H S := fun H1 Q g q =>
  a H1 _ g fun H2 g2 => d H2 _ (g.trans g2) fun y H3 g3 hy => by
    obtain ⟨z, hz, b⟩ := o y H3 ((g.trans g2).trans g3) hy
    exact b H3 _ (.refl _) fun H4 g4 => q z H4 ((g2.trans g3).trans g4) (hz H4 g4)
theorem r_opV {R S : V → Hp → Prop} (a : Vr t1 σ H R) (d : ∀ H1, Gr H H1 → Vl t2 σ H1 y) (o : ∀ x H1, Gr H H1 → R x H1 → ∃ z, (∀ H2, Gr H1 H2 → S z H2) ∧ Bi r x y H1 z) : Vr (tOp r t1 t2) σ H S := fun H1 Q g q =>
  a H1 _ g fun x H2 g2 hx => d H2 (g.trans g2) H2 _ (.refl _) fun H3 g3 => by
    obtain ⟨z, hz, b⟩ := o x H2 (g.trans g2) hx
    exact b H3 _ g3 fun H4 g4 => q z H4 ((g2.trans g3).trans g4) (hz H4 (g3.trans g4))
theorem v_opL {xs : List V} (a : Ls t1 σ H xs) (d : ∀ H1, Gr H H1 → Vl t2 σ H1 y) (o : ∀ p H1, H1 p = some (.lst xs) → Gr H H1 → Bi r (.ref p) y H1 z) : Vl (tOp r t1 t2) σ H z := fun H1 Q g q =>
  a H1 _ g fun p H2 _ g2 hp => d H2 (g.trans g2) H2 _ (.refl _) fun H3 g3 => o p H3 (g3.lst hp) ((g.trans g2).trans g3) H3 _ (.refl _) fun H4 g4 => q H4 ((g2.trans g3).trans g4)
theorem v_opN {xs : List V} (a : Vl t1 σ H x) (d : Ls t2 σ H xs) (o : ∀ p H1, H1 p = some (.lst xs) → Gr H H1 → Bi r x (.ref p) H1 z) : Vl (tOp r t1 t2) σ H z := fun H1 Q g q =>
  a H1 _ g fun H2 g2 => d H2 _ (g.trans g2) fun p H3 _ g3 hp => o p H3 hp ((g.trans g2).trans g3) H3 _ (.refl _) fun H4 g4 => q H4 ((g2.trans g3).trans g4)
theorem v_opU {xs : List V} (a : Vl t1 σ H x) (d : Tu t2 σ H xs) (o : ∀ p H1, H1 p = some (.tup xs) → Gr H H1 → Bi r x (.ref p) H1 z) : Vl (tOp r t1 t2) σ H z := fun H1 Q g q =>
  a H1 _ g fun H2 g2 => d H2 _ (g.trans g2) fun p H3 _ g3 hp => o p H3 hp ((g.trans g2).trans g3) H3 _ (.refl _) fun H4 g4 => q H4 ((g2.trans g3).trans g4)
theorem v_un {f : V → Hp → VK → Prop} (a : Vl t1 σ H x) (o : ∀ H1 (Q : VK), Gr H H1 → Q z H1 → f x H1 Q) : Vl (tUn f t1) σ H z := fun H1 Q g q =>
  a H1 _ g fun H2 g2 => o H2 _ (g.trans g2) (q H2 g2)
theorem bi_0 {f : Int → Int → V} {i j : Int} : Bi (rI0 f) (.int i) (.int j) H (f i j) := fun H1 _ _ q => ⟨i, j, rfl, rfl, q H1 (.refl _)⟩
theorem bi_C {C : Int → Int → Prop} {f : Int → Int → V} {i j : Int} (h : C i j) : Bi (rI C f) (.int i) (.int j) H (f i j) := fun H1 _ _ q => ⟨i, j, rfl, rfl, h, q H1 (.refl _)⟩
theorem bi_eq (h : scal x y = true) : Bi rEq x y H (.bl (decide (x = y))) := fun H1 _ _ q => ⟨h, q H1 (.refl _)⟩
theorem bi_ne (h : scal x y = true) : Bi rNe x y H (.bl (!decide (x = y))) := fun H1 _ _ q => ⟨h, q H1 (.refl _)⟩
theorem bi_ixL {p : Addr} {xs : List V} {i : Int} (s : SqL K H p xs) (h : atI xs i = some v) : Bi (rIxL K) (.ref p) (.int i) H v := fun H1 _ g q => ⟨p, xs, i, v, rfl, rfl, g.sl s, h, q H1 (.refl _)⟩
theorem bi_ixT {p : Addr} {xs : List V} {i : Int} (s : SqT K H p xs) (h : atI xs i = some v) : Bi (rIxT K) (.ref p) (.int i) H v := fun H1 _ g q => ⟨p, xs, i, v, rfl, rfl, g.st s, h, q H1 (.refl _)⟩
theorem bi_ixS {w : Str} {i : Int} {k : Nat} (s : w.length ≤ 100000) (h : atI w.cps.toList i = some k) : Bi rIxS (.str w) (.int i) H (.str ⟨#[k]⟩) := fun H1 _ _ q => ⟨w, i, k, rfl, rfl, small s, h, q H1 (.refl _)⟩
theorem bi_cat {u w : Str} (h : u.length + w.length ≤ 100000) : Bi (fun x y H Q => ∃ i j, x = .str i ∧ y = .str j ∧ i.length + j.length ≤ sizeLine ∧ Q (.str (i ++ j)) H) (.str u) (.str w) H (.str (u ++ w)) := fun H1 _ _ q => ⟨u, w, rfl, rfl, small h, q H1 (.refl _)⟩
theorem bi_isN : Bi (fun x y H Q => y = .non ∧ Q (.bl (decide (x = .non))) H) x .non H (.bl (decide (x = .non))) := fun H1 _ _ q => ⟨rfl, q H1 (.refl _)⟩
theorem bi_notN : Bi (fun x y H Q => y = .non ∧ Q (.bl (!decide (x = .non))) H) x .non H (.bl (!decide (x = .non))) := fun H1 _ _ q => ⟨rfl, q H1 (.refl _)⟩
theorem bi_inT {neg : Bool} {p : Addr} {xs : List V} (s : SqT K H p xs) (hx : flatV x = true) (ha : xs.all flatV = true) : Bi (rIn K neg) x (.ref p) H (.bl (if neg then !inV x xs else inV x xs)) := fun H1 _ g q => ⟨p, xs, rfl, .inr (g.st s), hx, ha, q H1 (.refl _)⟩
theorem bi_inL {neg : Bool} {p : Addr} {xs : List V} (s : SqL K H p xs) (hx : flatV x = true) (ha : xs.all flatV = true) : Bi (rIn K neg) x (.ref p) H (.bl (if neg then !inV x xs else inV x xs)) := fun H1 _ g q => ⟨p, xs, rfl, .inl (g.sl s), hx, ha, q H1 (.refl _)⟩
theorem bi_eqD {d e : PyData} (hx : Dp K H x d) (hy : Dp K H y e) (sd : SeqAt.shaped d = true) (se : SeqAt.shaped e = true) : Bi (rEqD K) x y H (.bl (PyData.eqv d e)) := fun H1 _ g q => ⟨d, e, g.dp hx, g.dp hy, sd, se, q H1 (.refl _)⟩
theorem bi_neD {d e : PyData} (hx : Dp K H x d) (hy : Dp K H y e) (sd : SeqAt.shaped d = true) (se : SeqAt.shaped e = true) : Bi (rNeD K) x y H (.bl (!PyData.eqv d e)) := fun H1 _ g q => ⟨d, e, g.dp hx, g.dp hy, sd, se, q H1 (.refl _)⟩

/-! #### tests -/
theorem s_test (h : Vl t1 σ H (.bl b)) : Ts (tTest t1) σ H b := fun H1 _ g q => h H1 _ g fun H2 g2 => ⟨b, rfl, q H2 g2⟩
theorem s_B (h : Vl t1 σ H (.bl b)) : Ts (tB t1) σ H b := fun H1 _ g q => h H1 _ g fun H2 g2 => ⟨b, rfl, q H2 g2⟩
theorem s_truB (h : Vl t1 σ H (.bl b)) : Ts (fun σ H Q => t1 σ H fun x H' => ∃ k, TruV K x H' k ∧ Q k H') σ H b := fun H1 _ g q => h H1 _ g fun H2 g2 => ⟨b, rfl, q H2 g2⟩
theorem s_truL {a : Addr} {xs : List V} (h : Vl t1 σ H (.ref a)) (s : SqL K H a xs) : Ts (fun σ H Q => t1 σ H fun x H' => ∃ k, TruV K x H' k ∧ Q k H') σ H (!xs.isEmpty) := fun H1 _ g q => h H1 _ g fun H2 g2 => ⟨_, .inl ⟨xs, (g.trans g2).sl s, rfl⟩, q H2 g2⟩
theorem s_not (h : Ts c1 σ H b) : Ts (tNot c1) σ H (!b) := fun H1 _ g q => h H1 _ g fun H2 g2 => q H2 g2
theorem s_and (h : Ts c1 σ H b) (k : b = true → Ts c2 σ H c) : Ts (tAnd c1 c2) σ H (b && c) := fun H1 Q g q => h H1 _ g fun H2 g2 => by
  cases b
  · exact iteF (q H2 g2)
  · exact iteT (k rfl H2 _ (g.trans g2) fun H3 g3 => q H3 (g2.trans g3))
theorem s_or (h : Ts c1 σ H b) (k : b = false → Ts c2 σ H c) : Ts (tOr c1 c2) σ H (b || c) := fun H1 Q g q => h H1 _ g fun H2 g2 => by
  cases b
  · exact iteF (k rfl H2 _ (g.trans g2) fun H3 g3 => q H3 (g2.trans g3))
  · exact iteT (q H2 g2)
theorem v_chain {r' : R2} (a : Vl t1 σ H x) (d : Vl t2 σ H y) (o : Bi r x y H (.bl b)) (k : b = true → Vl t3 σ H z) (o2 : b = true → Bi r' y z H (.bl c)) : Vl (tChain r r' t1 t2 t3) σ H (.bl (b && c)) := fun H1 Q g q =>
  a H1 _ g fun H2 g2 => d H2 _ (g.trans g2) fun H3 g3 => o H3 _ ((g.trans g2).trans g3) fun H4 g4 => ⟨b, rfl, by
    cases b
    · exact iteF (q H4 ((g2.trans g3).trans g4))
    · exact iteT (k rfl H4 _ (((g.trans g2).trans g3).trans g4) fun H5 g5 => o2 rfl H5 _ ((((g.trans g2).trans g3).trans g4).trans g5) fun H6 g6 => q H6 ((((g2.trans g3).trans g4).trans g5).trans g6))⟩
theorem v_and (h : Vl t1 σ H (.bl b)) (k : b = true → Vl t2 σ H (.bl c)) : Vl (tAndV t1 t2) σ H (.bl (b && c)) := fun H1 Q g q => h H1 _ g fun H2 g2 => ⟨b, rfl, by
  cases b
  · exact iteF (q H2 g2)
  · exact iteT (k rfl H2 _ (g.trans g2) fun H3 g3 => q H3 (g2.trans g3))⟩
theorem v_or (h : Vl t1 σ H (.bl b)) (k : b = false → Vl t2 σ H (.bl c)) : Vl (tOrV t1 t2) σ H (.bl (b || c)) := fun H1 Q g q => h H1 _ g fun H2 g2 => ⟨b, rfl, by
  cases b
  · exact iteF (k rfl H2 _ (g.trans g2) fun H3 g3 => q H3 (g2.trans g3))
  · exact iteT (q H2 g2)⟩
theorem v_not (h : Vl t1 σ H (.bl b)) : Vl (tNotV t1) σ H (.bl (!b)) := fun H1 _ g q => h H1 _ g fun H2 g2 => ⟨b, rfl, q H2 g2⟩
theorem v_if (h : Ts c1 σ H b) (k1 : b = true → Vl t1 σ H v) (k2 : b = false → Vl t2 σ H v) : Vl (tIf c1 t1 t2) σ H v := fun H1 Q g q => h H1 _ g fun H2 g2 => by
  cases b
  · exact iteF (k2 rfl H2 _ (g.trans g2) fun H3 g3 => q H3 (g2.trans g3))
  · exact iteT (k1 rfl H2 _ (g.trans g2) fun H3 g3 => q H3 (g2.trans g3))

/-! #### arguments, calls, new objects -/
variable {a1 : TA} {vs xs : List V}
theorem g_nil : Ag tNil σ H [] := fun H1 _ _ q => q H1 (.refl _)
theorem g_cons (h : Vl t1 σ H x) (k : Ag a1 σ H vs) : Ag (tCons t1 a1) σ H (x :: vs) := fun H1 _ g q => h H1 _ g fun H2 g2 => k H2 _ (g.trans g2) fun H3 g3 => q H3 (g2.trans g3)
theorem l_lst (h : Ag a1 σ H vs) (n : vs.length ≤ 100000) : Ls (tLst a1) σ H vs := fun H1 _ g q => h H1 _ g fun H2 g2 => ⟨small n, fun p hp => q p _ (g2.free hp) (g2.trans (.new hp)) upd_same⟩
theorem u_tup (h : Ag a1 σ H vs) (n : vs.length ≤ 100000) : Tu (tTup a1) σ H vs := fun H1 _ g q => h H1 _ g fun H2 g2 => ⟨small n, fun p hp => q p _ (g2.free hp) (g2.trans (.new hp)) upd_same⟩
theorem v_call {sp : Sp} {ds : List V} {E : XK} (h : Ag a1 σ H vs) (k : SpV sp (vs ++ ds) H z) : Vl (tCall sp ds E a1) σ H z := fun H1 _ g q => h H1 _ g fun H2 g2 => k H2 _ _ (g.trans g2) fun H3 g3 => q H3 (g2.trans g3)
theorem l_call {sp : Sp} {ds : List V} {E : XK} (h : Ag a1 σ H vs) (k : SpL sp (vs ++ ds) H xs) : Ls (tCall sp ds E a1) σ H xs := fun H1 _ g q => h H1 _ g fun H2 g2 => k H2 _ _ (g.trans g2) fun p H3 hp g3 e => q p H3 (g2.free hp) (g2.trans g3) e
theorem r_call {sp : Sp} {ds : List V} {E : XK} {R : V → Hp → Prop} (h : Ag a1 σ H vs) (k : SpR sp (vs ++ ds) H R) : Vr (tCall sp ds E a1) σ H R := fun H1 _ g q => h H1 _ g fun H2 g2 => k H2 _ _ (g.trans g2) fun v H3 g3 e => q v H3 (g2.trans g3) e
/-- a built-in's call, by its reading -/
theorem v_blt {f : List V → Hp → VK → Prop} (h : Ag a1 σ H vs) (k : ∀ H1 (Q : VK), Gr H H1 → (∀ H2, Gr H1 H2 → Q z H2) → f vs H1 Q) : Vl (tCB f a1) σ H z := fun H1 _ g q => h H1 _ g fun H2 g2 => k H2 _ (g.trans g2) fun H3 g3 => q H3 (g2.trans g3)
theorem l_blt {f : List V → Hp → VK → Prop} (h : Ag a1 σ H vs) (k : ∀ H1 (Q : VK), Gr H H1 → (∀ p H2, H1 p = none → Gr H1 H2 → H2 p = some (.lst xs) → Q (.ref p) H2) → f vs H1 Q) : Ls (tCB f a1) σ H xs := fun H1 _ g q => h H1 _ g fun H2 g2 => k H2 _ (g.trans g2) fun p H3 hp g3 e => q p H3 (g2.free hp) (g2.trans g3) e
abbrev fLen (K : PySem.W.Frag) : List V → Hp → VK → Prop := fun xs H Q => ∃ p ys, xs = [.ref p] ∧ (SqL K H p ys ∨ SqT K H p ys) ∧ Q (.int ys.length) H
theorem v_len {p : Addr} {xs : List V} (h : Vl t1 σ H (.ref p)) (s : SqL K H p xs) : Vl (tCB (fLen K) (tCons t1 tNil)) σ H (.int xs.length) := v_blt (g_cons h g_nil) fun H1 _ g q => ⟨p, xs, rfl, .inl (g.sl s), q H1 (.refl _)⟩
theorem v_lenS {w : Str} (h : Vl t1 σ H (.str w)) (s : w.length ≤ 100000) : Vl (tCB (fun xs H Q => ∃ z, xs = [.str z] ∧ z.length ≤ sizeLine ∧ Q (.int z.length) H) (tCons t1 tNil)) σ H (.int w.length) := v_blt (g_cons h g_nil) fun H1 _ _ q => ⟨w, rfl, small s, q H1 (.refl _)⟩
theorem v_isi {w : V} {u t : Value} (h : Vl t1 σ H x) (h2 : Vl t2 σ H w) (k : ClsV w u) (ty : ∀ H1, Gr H H1 → TyX K H1 x t) (e : PySem.W.kitOne K t u = some b) : Vl (tCB (rIsi K) (tCons t1 (tCons t2 tNil))) σ H (.bl b) := v_blt (g_cons h (g_cons h2 g_nil)) fun H1 _ g q => ⟨x, w, t, u, b, rfl, k, ty H1 g, e, q H1 (.refl _)⟩
theorem v_isbB (h : Vl t1 σ H (.bl b)) : Vl (tCB (rIsi K) (tCons t1 (tCons (tC (.ty "bool")) tNil))) σ H (.bl true) := v_isi h v_con (.ty _) (fun _ _ => .base (.bl b)) (kit_ty (by decide +kernel))
theorem v_isiI {i : Int} (h : Vl t1 σ H (.int i)) : Vl (tCB (rIsi K) (tCons t1 (tCons (tC (.ty "int")) tNil))) σ H (.bl true) := v_isi h v_con (.ty _) (fun _ _ => .base (.int i)) (kit_ty (by decide +kernel))
theorem v_isbI {i : Int} (h : Vl t1 σ H (.int i)) : Vl (tCB (rIsi K) (tCons t1 (tCons (tC (.ty "bool")) tNil))) σ H (.bl false) := v_isi h v_con (.ty _) (fun _ _ => .base (.int i)) (kit_ty (by decide +kernel))
theorem v_isiN (h : Vl t1 σ H .non) : Vl (tCB (rIsi K) (tCons t1 (tCons (tC (.ty "int")) tNil))) σ H (.bl false) := v_isi h v_con (.ty _) (fun _ _ => .base .non) (kit_ty (by decide +kernel))
theorem v_issS {w : Str} (h : Vl t1 σ H (.str w)) : Vl (tCB (rIsi K) (tCons t1 (tCons (tC (.ty "str")) tNil))) σ H (.bl true) := v_isi h v_con (.ty _) (fun _ _ => .base (.str w)) (kit_ty (by decide +kernel))
theorem v_max {i j : Int} (h : Vl t1 σ H (.int i)) (h2 : Vl t2 σ H (.int j)) : Vl (tCB (fun xs H Q => ∃ i j, xs = [.int i, .int j] ∧ Q (.int (if j > i then j else i)) H) (tCons t1 (tCons t2 tNil))) σ H (.int (if j > i then j else i)) := v_blt (g_cons h (g_cons h2 g_nil)) fun H1 _ _ q => ⟨i, j, rfl, q H1 (.refl _)⟩
theorem v_min {i j : Int} (h : Vl t1 σ H (.int i)) (h2 : Vl t2 σ H (.int j)) : Vl (tCB (fun xs H Q => ∃ i j, xs = [.int i, .int j] ∧ Q (.int (if j < i then j else i)) H) (tCons t1 (tCons t2 tNil))) σ H (.int (if j < i then j else i)) := v_blt (g_cons h (g_cons h2 g_nil)) fun H1 _ _ q => ⟨i, j, rfl, q H1 (.refl _)⟩
theorem v_str {i : Int} (h : Vl t1 σ H (.int i)) (n : i.natAbs.log2 < 1920) : Vl (tCB (fun xs H Q => ∃ i, xs = [.int i] ∧ i.natAbs.log2 < 1920 ∧ Q (.str (toString i)) H) (tCons t1 tNil)) σ H (.str (toString i)) := v_blt (g_cons h g_nil) fun H1 _ _ q => ⟨i, rfl, n, q H1 (.refl _)⟩
theorem v_intB (h : Vl t1 σ H (.bl b)) : Vl (tCB (fun xs H Q => (∃ i, xs = [.int i] ∧ Q (.int i) H) ∨ ∃ k, xs = [.bl k] ∧ Q (.int (if k then 1 else 0)) H) (tCons t1 tNil)) σ H (.int (if b then 1 else 0)) := v_blt (g_cons h g_nil) fun H1 _ _ q => .inr ⟨b, rfl, q H1 (.refl _)⟩
theorem l_list {p : Addr} {xs : List V} (h : Vl t1 σ H (.ref p)) (s : SqL K H p xs) : Ls (tCB (fun xs H Q => ∃ p ys, xs = [.ref p] ∧ (SqL K H p ys ∨ SqT K H p ys) ∧ ∀ l, H l = none → Q (.ref l) (upd H l (.lst ys))) (tCons t1 tNil)) σ H xs :=
  l_blt (g_cons h g_nil) fun _ _ g q => ⟨p, xs, rfl, .inl (g.sl s), fun l hl => q l _ hl (.new hl) upd_same⟩
/-- slices -/
def Pt (to : TO) (σ : L2.St) (H : Hp) (o : Option Int) : Prop := ∀ (H1 : Hp) (Q : Option Int → Hp → Prop), Gr H H1 → (∀ H2, Gr H1 H2 → Q o H2) → to σ H1 Q
theorem p_no : Pt tNoPart σ H none := fun H1 _ _ q => q H1 (.refl _)
theorem p_int {i : Int} (h : Vl t1 σ H (.int i)) : Pt (tPart t1) σ H (some i) := fun H1 _ g q => h H1 _ g fun H2 g2 => ⟨i, rfl, q H2 g2⟩
theorem l_slice {tl th : TO} {a : Addr} {xs : List V} {lo hi : Option Int} (h : Vl t1 σ H (.ref a)) (h1 : Pt tl σ H lo) (h2 : Pt th σ H hi) (s : SqL K H a xs) : Ls (tSl (rSlL K) t1 tl th) σ H (cutV xs lo hi) := fun H1 _ g q =>
  h H1 _ g fun H2 g2 => h1 H2 _ (g.trans g2) fun H3 g3 => h2 H3 _ ((g.trans g2).trans g3) fun H4 g4 => ⟨a, xs, rfl, (((g.trans g2).trans g3).trans g4).sl s, fun p hp => q p _ (((g2.trans g3).trans g4).free hp) (((g2.trans g3).trans g4).trans (.new hp)) upd_same⟩

/-! #### statements; S..: the last one, B..: something behind it -/
variable {D : Ends} {u1 u2 u3 : TS} {g1 : TG} {i : Nat}
theorem S_ret (h : Vl t1 σ H v) (k : ∀ H1, Gr H H1 → D.rt v H1) : tRet t1 D σ H := h H _ (.refl _) k
theorem S_retL (h : Ls t1 σ H xs) (k : ∀ p H1, H p = none → Gr H H1 → H1 p = some (.lst xs) → D.rt (.ref p) H1) : tRet t1 D σ H := h H _ (.refl _) k
theorem S_retR {R : V → Hp → Prop} (h : Vr t1 σ H R) (k : ∀ v H1, Gr H H1 → R v H1 → D.rt v H1) : tRet t1 D σ H := h H _ (.refl _) k
theorem S_set (h : Vl t1 σ H v) (k : ∀ H1, Gr H H1 → D.nx (σ.set i (some v)) H1) : tAsg t1 (gName i) D σ H := h H _ (.refl _) k
theorem S_setL (h : Ls t1 σ H xs) (k : ∀ p H1, H p = none → Gr H H1 → H1 p = some (.lst xs) → D.nx (σ.set i (some (.ref p))) H1) : tAsg t1 (gName i) D σ H := h H _ (.refl _) k
theorem S_setU (h : Tu t1 σ H xs) (k : ∀ p H1, H p = none → Gr H H1 → H1 p = some (.tup xs) → D.nx (σ.set i (some (.ref p))) H1) : tAsg t1 (gName i) D σ H := h H _ (.refl _) k
theorem S_setR {R : V → Hp → Prop} (h : Vr t1 σ H R) (k : ∀ v H1, Gr H H1 → R v H1 → D.nx (σ.set i (some v)) H1) : tAsg t1 (gName i) D σ H := h H _ (.refl _) k
theorem S_drop (h : Vl t1 σ H v) (k : ∀ H1, Gr H H1 → D.nx σ H1) : tDrop t1 D σ H := h H _ (.refl _) k
theorem S_if (h : Ts c1 σ H b) (k1 : b = true → ∀ H1, Gr H H1 → u1 D σ H1) (k2 : b = false → ∀ H1, Gr H H1 → u2 D σ H1) : tIfS c1 u1 u2 D σ H := h H _ (.refl _) fun H1 g => by
  cases b
  · exact iteF (k2 rfl H1 g)
  · exact iteT (k1 rfl H1 g)
theorem B_set (h : Vl t1 σ H v) (k : ∀ H1, Gr H H1 → u1 D (σ.set i (some v)) H1) : tSeq (tAsg t1 (gName i)) u1 D σ H := S_set (D := { D with nx := u1 D }) h k
theorem B_setL (h : Ls t1 σ H xs) (k : ∀ p H1, H p = none → Gr H H1 → H1 p = some (.lst xs) → u1 D (σ.set i (some (.ref p))) H1) : tSeq (tAsg t1 (gName i)) u1 D σ H := S_setL (D := { D with nx := u1 D }) h k
theorem B_setU (h : Tu t1 σ H xs) (k : ∀ p H1, H p = none → Gr H H1 → H1 p = some (.tup xs) → u1 D (σ.set i (some (.ref p))) H1) : tSeq (tAsg t1 (gName i)) u1 D σ H := S_setU (D := { D with nx := u1 D }) h k
theorem B_setR {R : V → Hp → Prop} (h : Vr t1 σ H R) (k : ∀ v H1, Gr H H1 → R v H1 → u1 D (σ.set i (some v)) H1) : tSeq (tAsg t1 (gName i)) u1 D σ H := S_setR (D := { D with nx := u1 D }) h k
theorem B_drop (h : Vl t1 σ H v) (k : ∀ H1, Gr H H1 → u1 D σ H1) : tSeq (tDrop t1) u1 D σ H := S_drop (D := { D with nx := u1 D }) h k
theorem B_if (h : Ts c1 σ H b) (k1 : b = true → ∀ H1, Gr H H1 → u1 { D with nx := u3 D } σ H1) (k2 : b = false → ∀ H1, Gr H H1 → u2 { D with nx := u3 D } σ H1) : tSeq (tIfS c1 u1 u2) u3 D σ H := S_if (D := { D with nx := u3 D }) h k1 k2
theorem B_when (h : Ts c1 σ H b) (k1 : b = true → ∀ H1, Gr H H1 → u1 { D with nx := u3 D } σ H1) (k2 : b = false → ∀ H1, Gr H H1 → u3 D σ H1) : tSeq (tIfS c1 u1 tNext) u3 D σ H := S_if (D := { D with nx := u3 D }) h k1 k2
theorem S_when (h : Ts c1 σ H b) (k1 : b = true → ∀ H1, Gr H H1 → u1 D σ H1) (k2 : b = false → ∀ H1, Gr H H1 → D.nx σ H1) : tIfS c1 u1 tNext D σ H := S_if h k1 k2
/-- a slot set anew in an if without else, told by what it holds behind -/
theorem S_whenSet (h : Ts c1 σ H b) (hy : σ[i]? = some (some y)) (k1 : b = true → Vl t1 σ H v) (hv : b = false → v = y) (k : ∀ H1, Gr H H1 → D.nx (σ.set i (some v)) H1) : tIfS c1 (tAsg t1 (gName i)) tNext D σ H :=
  S_when h (fun hb H1 g => S_set ((k1 hb).mono g) fun H2 g2 => k H2 (g.trans g2)) fun hb H1 g => by
    obtain ⟨hi, e2⟩ := List.getElem?_eq_some_iff.mp hy
    have h2 := k H1 g
    rw [hv hb, ← e2, List.set_getElem_self hi] at h2
    exact h2
theorem B_whenSet (h : Ts c1 σ H b) (hy : σ[i]? = some (some y)) (k1 : b = true → Vl t1 σ H v) (hv : b = false → v = y) (k : ∀ H1, Gr H H1 → u3 D (σ.set i (some v)) H1) : tSeq (tIfS c1 (tAsg t1 (gName i)) tNext) u3 D σ H := S_whenSet (D := { D with nx := u3 D }) h hy k1 hv k
theorem B_whenInt {m n : Int} (h : Ts c1 σ H b) (hy : σ[i]? = some (some (.int n))) (k1 : Vl t1 σ H (.int m)) (k : ∀ H1, Gr H H1 → u3 D (σ.set i (some (.int (if b = true then m else n)))) H1) : tSeq (tIfS c1 (tAsg t1 (gName i)) tNext) u3 D σ H :=
  B_whenSet h hy (fun hb => k1.is (by rw [if_pos hb])) (fun hb => by rw [if_neg (by rw [hb]; exact Bool.false_ne_true)]) k
theorem B_cut {M : L2.St → Hp → Prop} (h : u1 { D with nx := M } σ H) (k : ∀ σ' H', M σ' H' → u2 D σ' H') : Evl.tCut u1 u2 D σ H := ⟨M, h, k⟩
/-- xs.append(e), the list known by its place -/
theorem S_app {l : Addr} {xs : List V} (hl : H l = some (.lst xs)) (a : Vl t1 σ H (.ref l)) (h : Vl t2 σ H v) (n : xs.length < 100000) (k : ∀ H1, Gr H H1 → D.nx σ (upd H1 l (.lst (xs ++ [v])))) : tDrop (tBM K "list" rAppend t1 (tCons t2 tNil)) D σ H := a H _ (.refl _) fun H1 g =>
  ⟨.inl ⟨rfl, xs, SqL.of (g.lst hl)⟩, h H1 _ g fun H2 g2 => ⟨l, xs, v, rfl, rfl, g2.lst (g.lst hl), small' n, k H2 (g.trans g2)⟩⟩
theorem S_appU {l : Addr} {xs ys : List V} (hl : H l = some (.lst xs)) (a : Vl t1 σ H (.ref l)) (h : Tu t2 σ H ys) (n : xs.length < 100000) (k : ∀ p H1, H p = none → Gr H H1 → H1 p = some (.tup ys) → D.nx σ (upd H1 l (.lst (xs ++ [.ref p])))) : tDrop (tBM K "list" rAppend t1 (tCons t2 tNil)) D σ H := a H _ (.refl _) fun H1 g =>
  ⟨.inl ⟨rfl, xs, SqL.of (g.lst hl)⟩, h H1 _ g fun p H2 hp g2 e => ⟨l, xs, .ref p, rfl, rfl, g2.lst (g.lst hl), small' n, k p H2 (g.free hp) (g.trans g2) e⟩⟩

/-! #### loops -/
theorem S_for1 {j : Nat} {n : Int} (h : Ag a1 σ H [.int n]) (hn : 0 ≤ n ∧ n ≤ 100000) (Pv : Nat → L2.St → Hp → Prop) (h0 : ∀ H1, Gr H H1 → Pv 0 σ H1)
    (hs : ∀ (m : Nat) σ' H', (m : Int) < n → Pv m σ' H' → u1 { D with nx := Pv (m + 1), ct := Pv (m + 1), bk := D.nx } (σ'.set j (some (.int (m : Int)))) H') (hd : ∀ σ' H', Pv n.toNat σ' H' → D.nx σ' H') : tFor (iRng1 a1) (gName j) u1 D σ H :=
  h H _ (.refl _) fun H1 g => ⟨n, rfl, by omega, by omega, for_range (lo := 0) (n := n.toNat) Pv (h0 H1 g) (fun m σ' H' hm p => by
    have q := hs m σ' H' (by omega) p
    rw [← Int.zero_add (m : Int)] at q
    exact q) hd⟩
theorem B_for1 {j : Nat} {n : Int} (h : Ag a1 σ H [.int n]) (hn : 0 ≤ n ∧ n ≤ 100000) (Pv : Nat → L2.St → Hp → Prop) (h0 : ∀ H1, Gr H H1 → Pv 0 σ H1)
    (hs : ∀ (m : Nat) σ' H', (m : Int) < n → Pv m σ' H' → u1 { D with nx := Pv (m + 1), ct := Pv (m + 1), bk := u2 D } (σ'.set j (some (.int (m : Int)))) H') (hd : ∀ σ' H', Pv n.toNat σ' H' → u2 D σ' H') : tSeq (tFor (iRng1 a1) (gName j) u1) u2 D σ H :=
  S_for1 (D := { D with nx := u2 D }) h hn Pv h0 hs hd
theorem S_forL {a : Addr} {xs : List V} (h : Vl t1 σ H (.ref a)) (s : SqL K H a xs) (Pv : Nat → L2.St → Hp → Prop) (h0 : ∀ H1, Gr H H1 → Pv 0 σ H1) (hl : ∀ m σ' H', m ≤ xs.length → Pv m σ' H' → SqL K H' a xs)
    (hs : ∀ m x σ' H', xs[m]? = some x → Pv m σ' H' → g1 x σ' H' fun σ2 H2 => u1 { D with nx := Pv (m + 1), ct := Pv (m + 1), bk := D.nx } σ2 H2) (hd : ∀ σ' H', Pv xs.length σ' H' → D.nx σ' H') : tFor (iList K t1) g1 u1 D σ H :=
  h H _ (.refl _) fun H1 g => ⟨a, rfl, ⟨xs, g.sl s⟩, for_list Pv (h0 H1 g) hl hs hd⟩
theorem B_forL {a : Addr} {xs : List V} (h : Vl t1 σ H (.ref a)) (s : SqL K H a xs) (Pv : Nat → L2.St → Hp → Prop) (h0 : ∀ H1, Gr H H1 → Pv 0 σ H1) (hl : ∀ m σ' H', m ≤ xs.length → Pv m σ' H' → SqL K H' a xs)
    (hs : ∀ m x σ' H', xs[m]? = some x → Pv m σ' H' → g1 x σ' H' fun σ2 H2 => u1 { D with nx := Pv (m + 1), ct := Pv (m + 1), bk := u2 D } σ2 H2) (hd : ∀ σ' H', Pv xs.length σ' H' → u2 D σ' H') : tSeq (tFor (iList K t1) g1 u1) u2 D σ H :=
  S_forL (D := { D with nx := u2 D }) h s Pv h0 hl hs hd
theorem S_while (W : Nat → L2.St → Hp → Prop) (m0 : Nat) (h0 : W m0 σ H)
    (hs : ∀ m σ' H', W m σ' H' → ∃ b, Ts c1 σ' H' b ∧ (b = true → ∀ H1, Gr H' H1 → ∃ N : L2.St → Hp → Prop, (∀ σ2 H2, N σ2 H2 → ∃ m', m' < m ∧ W m' σ2 H2) ∧ u1 { D with nx := N, ct := N, bk := D.nx } σ' H1) ∧ (b = false → ∀ H1, Gr H' H1 → D.nx σ' H1)) : tWhile c1 u1 D σ H :=
  ⟨W, ⟨m0, h0⟩, fun m σ' H' hw => by
    obtain ⟨b, hb, y1, n1⟩ := hs m σ' H' hw
    refine hb H' _ (.refl _) fun H1 g => ?_
    cases b
    · exact n1 rfl H1 g
    · exact y1 rfl H1 g⟩
theorem B_while (W : Nat → L2.St → Hp → Prop) (m0 : Nat) (h0 : W m0 σ H)
    (hs : ∀ m σ' H', W m σ' H' → ∃ b, Ts c1 σ' H' b ∧ (b = true → ∀ H1, Gr H' H1 → ∃ N : L2.St → Hp → Prop, (∀ σ2 H2, N σ2 H2 → ∃ m', m' < m ∧ W m' σ2 H2) ∧ u1 { D with nx := N, ct := N, bk := u2 D } σ' H1) ∧ (b = false → ∀ H1, Gr H' H1 → u2 D σ' H1)) : tSeq (tWhile c1 u1) u2 D σ H :=
  S_while (D := { D with nx := u2 D }) W m0 h0 hs

/-! #### comprehensions: the turns that give, and what they give -/
def out (n : Nat) (f : Nat → Bool) (val : Nat → V) : List V := ((List.range n).filter f).map val
theorem out_succ (n : Nat) (f : Nat → Bool) (val : Nat → V) : out (n + 1) f val = out n f val ++ (if f n = true then [val n] else []) := by
  unfold out
  rw [List.range_succ, List.filter_append, List.map_append, List.filter_cons]
  cases f n <;> rfl
theorem out_le (n : Nat) (f : Nat → Bool) (val : Nat → V) : (out n f val).length ≤ n := by
  unfold out
  rw [List.length_map]
  exact Nat.le_trans (List.length_filter_le _ _) (Nat.le_of_eq List.length_range)
def Cmp (H : Hp) (f : Nat → Bool) (val : Nat → V) (p : Addr) (m : Nat) (H' : Hp) : Prop := H p = none ∧ Gr H H' ∧ H' p = some (.lst (out m f val))
theorem Cmp.turn {f : Nat → Bool} {val : Nat → V} {p : Addr} {m : Nat} {σ2 : L2.St} (w : Cmp H f val p m H') (hm : m < 50000) (ht : Ts c1 σ2 H (f m)) (he : f m = true → Vl t1 σ2 H (val m)) :
    c1 σ2 H' fun b H3 => if b = true then t1 σ2 H3 fun y H4 => ∃ acc, H4 p = some (.lst acc) ∧ acc.length < sizeLine ∧ Cmp H f val p (m + 1) (upd H4 p (.lst (acc ++ [y]))) else Cmp H f val p (m + 1) H3 := by
  obtain ⟨w1, w2, w3⟩ := w
  refine ht H' _ w2 fun H3 g3 => ?_
  have o := out_succ m f val
  cases hf : f m
  · rw [hf] at o
    refine iteF ⟨w1, w2.trans g3, ?_⟩
    rw [o, if_neg Bool.false_ne_true, List.append_nil]
    exact g3.lst w3
  · rw [hf, if_pos rfl] at o
    refine iteT (he hf H3 _ (w2.trans g3) fun H4 g4 => ⟨out m f val, g4.lst (g3.lst w3), small' (by have := out_le m f val; omega), w1, ((w2.trans g3).trans g4).chg w1, ?_⟩)
    rw [o]
    exact upd_same
theorem l_cmp1 {j : Nat} {ws : List Nat} {n : Int} (f : Nat → Bool) (val : Nat → V) (h : Ag a1 σ H [.int n]) (hn : 0 ≤ n ∧ n ≤ 40000) (hw : ∀ x, wipe ((wipe σ ws).set j (some x)) ws = wipe σ ws)
    (ht : ∀ (m : Nat) H1, Gr H H1 → (m : Int) < n → Ts c1 ((wipe σ ws).set j (some (.int (m : Int)))) H1 (f m)) (he : ∀ (m : Nat) H1, Gr H H1 → (m : Int) < n → f m = true → Vl t1 ((wipe σ ws).set j (some (.int (m : Int)))) H1 (val m)) :
    Ls (tLc (iRng1 a1) (gName j) c1 t1 ws) σ H (out n.toNat f val) := fun H0 Q g q => h H0 _ g fun H1 g1 => ⟨n, rfl, by omega, by omega, fun p hp =>
  lc_range (lo := 0) (n := n.toNat) (Cmp H1 f val p) ⟨hp, .new hp, upd_same⟩ (fun m H' hm w => by
    have t := ht m H1 (g.trans g1) (by omega)
    have e := he m H1 (g.trans g1) (by omega)
    rw [← Int.zero_add (m : Int)] at t e
    exact ⟨hw _, w.turn (by omega) t e⟩) fun H' w => q p H' (g1.free w.1) (g1.trans w.2.1) w.2.2⟩
theorem l_cmpL {a : Addr} {xs : List V} {j : Nat} {ws : List Nat} (f : Nat → Bool) (val : Nat → V) (h : Vl t2 σ H (.ref a)) (s : SqL K H a xs) (hz : xs.length ≤ 40000) (hw : ∀ x, wipe ((wipe σ ws).set j (some x)) ws = wipe σ ws)
    (ht : ∀ (m : Nat) (x : V) H1, Gr H H1 → xs[m]? = some x → Ts c1 ((wipe σ ws).set j (some x)) H1 (f m)) (he : ∀ (m : Nat) (x : V) H1, Gr H H1 → xs[m]? = some x → f m = true → Vl t1 ((wipe σ ws).set j (some x)) H1 (val m)) :
    Ls (tLc (iList K t2) (gName j) c1 t1 ws) σ H (out xs.length f val) := fun H0 Q g q => h H0 _ g fun H1 g1 => ⟨a, rfl, ⟨xs, (g.trans g1).sl s⟩, fun p hp =>
  lc_list (xs := xs) (Cmp H1 f val p) ⟨hp, .new hp, upd_same⟩ (fun _ H' _ w => ((g.trans g1).trans w.2.1).sl s) (fun m x H' hm w => ⟨hw x, w.turn (by have := (List.getElem?_eq_some_iff.mp hm).1; omega) (ht m x H1 (g.trans g1) hm) fun hf => he m x H1 (g.trans g1) hm hf⟩)
    fun H' w => q p H' (g1.free w.1) (g1.trans w.2.1) w.2.2⟩
theorem l_cmpN {xs : List V} {j : Nat} {ws : List Nat} (f : Nat → Bool) (val : Nat → V) (h : Ls t2 σ H xs) (hz : xs.length ≤ 40000) (hw : ∀ x, wipe ((wipe σ ws).set j (some x)) ws = wipe σ ws)
    (ht : ∀ (m : Nat) (x : V) H1, Gr H H1 → xs[m]? = some x → Ts c1 ((wipe σ ws).set j (some x)) H1 (f m)) (he : ∀ (m : Nat) (x : V) H1, Gr H H1 → xs[m]? = some x → f m = true → Vl t1 ((wipe σ ws).set j (some x)) H1 (val m)) :
    Ls (tLc (iList K t2) (gName j) c1 t1 ws) σ H (out xs.length f val) := fun H0 Q g q => h H0 _ g fun a H1 ha g1 hx => ⟨a, rfl, ⟨xs, SqL.of hx⟩, fun p hp =>
  lc_list (xs := xs) (Cmp H1 f val p) ⟨hp, .new hp, upd_same⟩ (fun _ H' _ w => SqL.of (w.2.1.lst hx)) (fun m x H' hm w => ⟨hw x, w.turn (by have := (List.getElem?_eq_some_iff.mp hm).1; omega) (ht m x H1 (g.trans g1) hm) fun hf => he m x H1 (g.trans g1) hm hf⟩)
    fun H' w => q p H' (g1.free w.1) (g1.trans w.2.1) w.2.2⟩
theorem s_yes : Ts tYes σ H true := fun H1 _ _ q => q H1 (.refl _)
end

theorem slots {u : TS} {D : Ends} {σ τ : L2.St} {H : Hp} (e : σ = τ) (h : u D τ H) : u D σ H := e ▸ h

/-! ### automatic steps -/
local macro_rules | `(tactic| walk_at "n") => `(tactic| (try (refine slots (by simp only [List.set_cons_zero, List.set_cons_succ]; exact rfl) ?_)))
local macro_rules | `(tactic| walk_at "ev") => `(tactic| first
  | exact v_slot rfl
  | exact v_con
  | (refine' v_op ?a ?b ?c; (case a => walk_at "ev"); (case b => walk_at "ev"); (case c => walk_at "rv"))
  | (refine' v_call ?a ?b; (case a => walk_at "ea"); (case b => walk_at "sv"))
  | (refine' v_isbB ?a; (case a => walk_at "ev"))
  | (refine' v_and ?a (fun _ => ?b); (case a => walk_at "ev"); (case b => walk_at "ev"))
  | (refine' v_or ?a (fun _ => ?b); (case a => walk_at "ev"); (case b => walk_at "ev"))
  | (refine' v_not ?a; (case a => walk_at "ev"))
  | (refine' v_max ?a ?b; (case a => walk_at "ev"); (case b => walk_at "ev"))
  | (refine' v_min ?a ?b; (case a => walk_at "ev"); (case b => walk_at "ev"))
  | (refine' v_intB ?a; (case a => walk_at "ev"))
  | (refine' v_len ?a ?b; (case a => walk_at "ev"); (case b => assumption))
  | assumption)
local macro_rules | `(tactic| walk_at "ea") => `(tactic| first
  | exact g_nil
  | (refine' g_cons ?a ?b; (case a => walk_at "ev"); (case b => walk_at "ea")))
local macro_rules | `(tactic| walk_at "rv") => `(tactic| first
  | exact bi_0
  | (refine' bi_C ?a; (case a => walk_at "side"))
  | (refine' bi_eq ?a; (case a => rfl))
  | (refine' bi_ne ?a; (case a => rfl))
  | exact bi_isN
  | exact bi_notN
  | assumption)
local macro_rules | `(tactic| walk_at "side") => `(tactic| first
  | (show _ ≠ _; first | decide | omega)
  | (show _ ∧ _; first | exact ⟨by decide, by decide⟩ | exact ⟨by decide, by decide, by decide⟩ | omega))
local macro_rules | `(tactic| walk_at "et") => `(tactic| first
  | (refine' s_test ?a; (case a => walk_at "ev"))
  | (refine' s_B ?a; (case a => walk_at "ev"))
  | (refine' s_truB ?a; (case a => walk_at "ev"))
  | (refine' s_and ?a (fun _ => ?b); (case a => walk_at "et"); (case b => walk_at "et"))
  | (refine' s_or ?a (fun _ => ?b); (case a => walk_at "et"); (case b => walk_at "et"))
  | (refine' s_not ?a; (case a => walk_at "et"))
  | exact s_yes)
local macro_rules | `(tactic| walk_at "set") => `(tactic| (refine' B_set ?h ?k; (case h => walk_at "ev")))
local macro_rules | `(tactic| walk_at "setE") => `(tactic| (refine' S_set ?h ?k; (case h => walk_at "ev")))
local macro_rules | `(tactic| walk_at "when") => `(tactic| (refine' B_when ?h ?k1 ?k2; (case h => walk_at "et")))
local macro_rules | `(tactic| walk_at "whenE") => `(tactic| (refine' S_when ?h ?k1 ?k2; (case h => walk_at "et")))
local macro_rules | `(tactic| walk_at "whenInt") => `(tactic| (refine' B_whenInt ?h1 ?h2 ?h3 ?k; (case h1 => walk_at "et"); (case h2 => rfl); (case h3 => walk_at "ev")))
local macro_rules | `(tactic| walk_at "ret") => `(tactic| (refine' S_ret ?h ?k; (case h => walk_at "ev")))


/-- a def whose code object is known by its place -/
theorem fun_okC {P : Program} {w : World} {K : PySem.W.Frag} {mg : Str → Option Value} {base : Heap} {x z : Str} {st : Stmt} {f c : Addr} {fd : FuncData} {N ps : List Str} {k : Nat} {sp : Sp} (F : Fun K x z st f fd) (hc : fd.code = .ref c) (S : FnScope N ps (defScope st)) (len : ∀ vs H Q E, sp vs H Q E → vs.length = ps.length)
    (body : ∀ (A : Around) (outer : List Env) (s : Shared) (H : Hp) (vs : List V) (Q : VK) (E : XK), Room k (A.deeper (PyProof.Rows.envOfC z (defScope st) s.heap.objs.size f (.ref c))) → sp vs H Q E →
      ∃ t, PSs (cxOf CX0 P w K mg base N z (defScope st) f (.ref c) A outer s H E).nox (defBody st) t ∧ t { nx := fun _ H' => Q .non H', rt := Q } (start N vs) H) : FnOk P w K mg base CX0 (k + 1) f fd ps sp := by
  obtain ⟨oc, od, kV, doc, pm, an, cv, ct, osl, rfl, lk, hcd⟩ := F.ex
  have e : cv = .ref c := hc
  subst e
  refine fn_of lk hcd S len fun A outer s H vs Q E hr hsp => ?_
  obtain ⟨t, h, q⟩ := body A outer s H vs Q E hr hsp
  exact ⟨t, h.nox, q⟩

/-! ### comprehensions over a text; data; what is no text -/
section
variable {K : PySem.W.Frag} {σ : L2.St} {H H' : Hp} {t1 t2 t3 : TE} {c1 c2 : TT} {x y z v : V}
theorem l_cmpS {w : Str} {j : Nat} {ws : List Nat} (f : Nat → Bool) (val : Nat → V) (h : Vl t2 σ H (.str w)) (hz : w.cps.size ≤ 40000) (hw : ∀ x, wipe ((wipe σ ws).set j (some x)) ws = wipe σ ws)
    (ht : ∀ (m k : Nat) H1, Gr H H1 → w.cps[m]? = some k → Ts c1 ((wipe σ ws).set j (some (.str ⟨#[k]⟩))) H1 (f m)) (he : ∀ (m k : Nat) H1, Gr H H1 → w.cps[m]? = some k → f m = true → Vl t1 ((wipe σ ws).set j (some (.str ⟨#[k]⟩))) H1 (val m)) :
    Ls (tLc (iStr t2) (gName j) c1 t1 ws) σ H (out w.cps.size f val) := fun H0 Q g q => h H0 _ g fun H1 g1 => ⟨w, rfl, fun p hp =>
  lc_it walk_str (Cmp H1 f val p) ⟨hp, .new hp, upd_same⟩ (fun _ _ _ _ => trivial) (fun m x Ha Hb hm w0 ⟨e, k, hk, ex⟩ => by
    subst e
    subst ex
    exact ⟨hw _, w0.turn (by omega) (ht m k H1 (g.trans g1) hk) fun hf => he m k H1 (g.trans g1) hk hf⟩) fun H' w0 => q p H' (g1.free w0.1) (g1.trans w0.2.1) w0.2.2⟩
theorem dps_str : ∀ l : List Str, DpAll K H (l.map V.str) (l.map PyData.str)
  | [] => .nil
  | a :: l => .cons (.str a) (dps_str l)
/-- plain signs alone -/
def Asc (z : Str) : Prop := ∀ k ∈ z.cps.toList, k < 128
theorem Asc.ok {z : Str} (h : Asc z) : PyData.strOk z = true := by
  unfold PyData.strOk
  rw [← Array.all_toList, List.all_eq_true]
  intro k hk
  have := h k hk
  exact decide_eq_true (by omega)
theorem Asc.cat {a b : Str} (ha : Asc a) (hb : Asc b) : Asc (a ++ b) := by
  intro k hk
  have e : (a ++ b).cps.toList = a.cps.toList ++ b.cps.toList := Array.toList_append
  rw [e] at hk
  rcases List.mem_append.mp hk with h | h
  · exact ha k h
  · exact hb k h
theorem Asc.cut {a : Str} (ha : Asc a) (lo hi : Option Int) : Asc (cutS a lo hi) := by
  intro k hk
  exact ha k (List.mem_of_mem_drop (List.mem_of_mem_take hk))
theorem Asc.one {k : Nat} (h : k < 128) : Asc ⟨#[k]⟩ := by
  intro j hj
  rw [List.mem_singleton.mp hj]
  exact h
theorem cut_len (a : Str) (lo hi : Option Int) : (cutS a lo hi).length ≤ a.length := by
  show ((_ : List Nat).toArray).size ≤ a.cps.size
  rw [List.size_toArray]
  refine Nat.le_trans (List.length_take_le' _ _) ?_
  rw [List.length_drop, Array.length_toList]
  omega
theorem cat_len (a b : Str) : (a ++ b).length = a.length + b.length := Array.size_append
theorem canLay_strs : ∀ l : List Str, (∀ a ∈ l, Asc a) → PyData.canLayAll0 (l.map PyData.str) = true
  | [], _ => by simp [PyData.canLayAll0]
  | a :: l, h => by
    have t := canLay_strs l fun b hb => h b (List.mem_cons_of_mem _ hb)
    have t2 := (h a List.mem_cons_self).ok
    simp [PyData.canLayAll0, PyData.canLay0, t, t2]
theorem depth_strs : ∀ l : List Str, PyData.depthAll (l.map PyData.str) = 0
  | [] => by simp [PyData.depthAll]
  | a :: l => by
    have := depth_strs l
    simp [PyData.depthAll, PyData.depth, this]
theorem shaped_strs (l : List Str) (h : ∀ a ∈ l, Asc a) : SeqAt.shaped (.list (l.map PyData.str)) = true := by
  unfold SeqAt.shaped
  simp [PyData.canLay0, PyData.depth, canLay_strs l h, depth_strs l]
theorem eqv_nil (ds : List PyData) : PyData.eqv (.list ds) (.list []) = ds.isEmpty := by
  cases ds <;> simp [PyData.eqv, PyData.eqvAll]

theorem Gr.tyOf {t : Value} (g : Gr H H') (h : TyOf K H v t) : TyOf K H' v t := by
  cases h with
  | non => exact .non
  | bl x => exact .bl x
  | int i => exact .int i
  | str x => exact .str x
  | flt x => exact .flt x
  | lst e => exact .lst (g.lst e)
  | frz e => exact .frz (g.at_ e fun _ z => by cases z)
  | tup e => exact .tup (g.tup e)
  | dK e => exact .dK (g.at_ e fun _ z => by cases z)
  | dT e => exact .dT (g.at_ e fun _ z => by cases z)
  | ins e a b c d f => exact .ins (g.ins e) a b c d f
theorem Gr.tyX {t : Value} (g : Gr H H') (h : TyX K H v t) : TyX K H' v t := by
  cases h with
  | base h => exact .base (g.tyOf h)
  | byt b => exact .byt b
  | set e => exact .set (g.at_ e fun _ z => by cases z)
  | kList e c => exact .kList e c
  | kTuple e c => exact .kTuple e c
  | kDict e c => exact .kDict e c
  | fTuple e => exact .fTuple (g.at_ e fun _ z => by cases z)
  | fDict e => exact .fDict (g.at_ e fun _ z => by cases z)
/-- a thing of a known kind that is no text -/
def NoStr (K : PySem.W.Frag) (v : V) (H : Hp) : Prop := ∃ n : String, TyX K H v (.type n) ∧ PySem.W.kitOne K (.type n) (.type "str") = some false
theorem NoStr.mono (g : Gr H H') (h : NoStr K v H) : NoStr K v H' := let ⟨n, a, b⟩ := h; ⟨n, g.tyX a, b⟩
theorem NoStr.non : NoStr K .non H := ⟨_, .base .non, kit_ty (by decide +kernel)⟩
theorem NoStr.bl {b : Bool} : NoStr K (.bl b) H := ⟨_, .base (.bl b), kit_ty (by decide +kernel)⟩
theorem NoStr.int {i : Int} : NoStr K (.int i) H := ⟨_, .base (.int i), kit_ty (by decide +kernel)⟩
theorem NoStr.lst {a : Addr} {xs : List V} (h : H a = some (.lst xs)) : NoStr K (.ref a) H := ⟨_, .base (.lst h), kit_ty (by decide +kernel)⟩
theorem NoStr.tup {a : Addr} {xs : List V} (h : H a = some (.tup xs)) : NoStr K (.ref a) H := ⟨_, .base (.tup h), kit_ty (by decide +kernel)⟩
theorem NoStr.dK {a : Addr} {xs : List (Key × V)} (h : H a = some (.dK xs)) : NoStr K (.ref a) H := ⟨_, .base (.dK h), kit_ty (by decide +kernel)⟩
theorem v_nostr (h : Vl t1 σ H v) (n : NoStr K v H) : Vl (tCB (rIsi K) (tCons t1 (tCons (tC (.ty "str")) tNil))) σ H (.bl false) := by
  obtain ⟨k, a, b⟩ := n
  exact v_isi h v_con (.ty _) (fun _ g => g.tyX a) b
/-- displays whose items are no texts -/
def NoStrs (K : PySem.W.Frag) (n : Nat) (vs : List V) (H : Hp) : Prop := vs.length = n ∧ ∀ v ∈ vs, NoStr K v H
theorem a_nil : Ar tNil σ H (NoStrs K 0) := fun H1 _ _ q => q [] H1 (.refl _) ⟨rfl, fun _ h => absurd h List.not_mem_nil⟩
theorem a_cons {a1 : TA} {n : Nat} (h : Vr t1 σ H (NoStr K)) (k : Ar a1 σ H (NoStrs K n)) : Ar (tCons t1 a1) σ H (NoStrs K (n + 1)) := fun H1 Q g q => h H1 _ g fun v H2 g2 hv => k H2 _ (g.trans g2) fun vs H3 g3 ⟨hl, ha⟩ => q (v :: vs) H3 (g2.trans g3) ⟨by rw [List.length_cons, hl], fun u hu => by
  rcases List.mem_cons.mp hu with e | e
  · rw [e]
    exact hv.mono g3
  · exact ha u e⟩
theorem vr_v {n : V} (h : Vl t1 σ H n) (k : ∀ H1, NoStr K n H1) : Vr t1 σ H (NoStr K) := fun H1 Q g q => h H1 _ g fun H2 g2 => q n H2 g2 (k H2)
theorem vr_l {xs : List V} (h : Ls t1 σ H xs) : Vr t1 σ H (NoStr K) := fun H1 Q g q => h H1 _ g fun p H2 _ g2 e => q _ H2 g2 (.lst e)
theorem vr_u {xs : List V} (h : Tu t1 σ H xs) : Vr t1 σ H (NoStr K) := fun H1 Q g q => h H1 _ g fun p H2 _ g2 e => q _ H2 g2 (.tup e)
theorem r_lst {a1 : TA} {R : List V → Hp → Prop} (h : Ar a1 σ H R) (n : ∀ vs H1, R vs H1 → vs.length ≤ 100000) (mono : ∀ {vs H1 H2}, Gr H1 H2 → R vs H1 → R vs H2) : Vr (tLst a1) σ H (fun v H1 => ∃ p vs, v = .ref p ∧ H1 p = some (.lst vs) ∧ R vs H1) := fun H1 Q g q => h H1 _ g fun vs H2 g2 hv =>
  ⟨small (n vs H2 hv), fun p hp => q _ _ (g2.trans (.new hp)) ⟨p, vs, rfl, upd_same, mono (.new hp) hv⟩⟩
theorem r_ix {i : Int} {R S : V → Hp → Prop} (h : Vr t1 σ H R) (k : ∀ H1, Gr H H1 → Vl t2 σ H1 (.int i)) (o : ∀ v H1, Gr H H1 → R v H1 → ∃ p xs u, v = .ref p ∧ H1 p = some (.lst xs) ∧ atI xs i = some u ∧ S u H1) (mono : ∀ {u H1 H2}, Gr H1 H2 → S u H1 → S u H2) : Vr (tOp (rIxL K) t1 t2) σ H S := fun H1 Q g q =>
  h H1 _ g fun v H2 g2 hv => by
    obtain ⟨p, xs, u, e, hp, hu, hs⟩ := o v H2 (g.trans g2) hv
    exact k H2 (g.trans g2) H2 _ (.refl _) fun H3 g3 => ⟨p, xs, i, u, e, rfl, SqL.of (g3.lst hp), hu, q u H3 (g2.trans g3) (mono g3 hs)⟩
end
section
variable {σ : L2.St} {H : Hp} {t1 : TE}
theorem v_slS {w : Str} {tl th : TO} {lo hi : Option Int} (h : Vl t1 σ H (.str w)) (h1 : Pt tl σ H lo) (h2 : Pt th σ H hi) (s : w.length ≤ 100000) : Vl (tSl (fun x lo hi H Q => ∃ z, x = .str z ∧ z.length ≤ sizeLine ∧ Q (.str (cutS z lo hi)) H) t1 tl th) σ H (.str (cutS w lo hi)) := fun H1 _ g q =>
  h H1 _ g fun H2 g2 => h1 H2 _ (g.trans g2) fun H3 g3 => h2 H3 _ ((g.trans g2).trans g3) fun H4 g4 => ⟨w, rfl, small s, q H4 ((g2.trans g3).trans g4)⟩
end
theorem fmod_in (c : Int) {m : Int} (h : 0 < m) : 0 ≤ c.fmod m ∧ c.fmod m < m := ⟨Int.fmod_nonneg_of_pos c h, Int.fmod_lt_of_pos c h⟩
theorem atI_in {α : Type} (d : α) {l : List α} {i : Int} (h0 : 0 ≤ i) (h : i < l.length) : atI l i = some (l.getD i.toNat d) := by
  have hn : i.toNat < l.length := by omega
  have e := atI_nat (xs := l) (j := i.toNat) (v := l.getD i.toNat d) (by rw [List.getD_eq_getElem?_getD, List.getElem?_eq_getElem hn]; rfl)
  rw [Int.toNat_of_nonneg h0] at e
  exact e
/-! ### names -/
def signs : Str := "abcdefghijklmnopqrstuvwxyz0123456789"
def nameB (z : Str) : Bool := (decide (1 ≤ (z.length : Int)) && decide ((z.length : Int) ≤ 12)) && z.cps.toList.all fun k => decide (k ∈ signs.cps.toList)
def wishB (z : Str) : Bool := inV (.str z) [V.str (Str.ofString "read"), V.str (Str.ofString "write")]
theorem wish_is (z : Str) : wishB z = (decide (V.str z = V.str (Str.ofString "read")) || decide (V.str z = V.str (Str.ofString "write"))) := by
  unfold wishB inV
  rw [List.any_cons, List.any_cons, List.any_nil, Bool.or_false]
  have e : ∀ a b : Str, eqV (.str a) (.str b) = decide (V.str b = V.str a) := fun a b => by
    rw [dec_str]
    exact Bool.beq_comm ..
  rw [e, e]

theorem bi_notInS {k : Nat} {w : Str} {H : Hp} : Bi rNotInS (.str ⟨#[k]⟩) (.str w) H (.bl (!decide (k ∈ w.cps.toList))) := fun H1 _ _ q => ⟨k, w, rfl, rfl, q H1 (.refl _)⟩
theorem bi_inS {k : Nat} {w : Str} {H : Hp} : Bi rInS (.str ⟨#[k]⟩) (.str w) H (.bl (decide (k ∈ w.cps.toList))) := fun H1 _ _ q => ⟨k, w, rfl, rfl, q H1 (.refl _)⟩
theorem none_out (l : List Nat) (p : Nat → Bool) : ((List.range l.length).filter fun m => !p (l.getD m 0)).isEmpty = l.all p := by
  rw [Bool.eq_iff_iff, List.isEmpty_iff, List.filter_eq_nil_iff, List.all_eq_true]
  constructor
  · intro h k hk
    obtain ⟨m, hm, e⟩ := List.getElem_of_mem hk
    have := h m (List.mem_range.mpr hm)
    rw [List.getD_eq_getElem?_getD, List.getElem?_eq_getElem hm, e] at this
    simpa using this
  · intro h m hm
    have hm' := List.mem_range.mp hm
    rw [List.getD_eq_getElem?_getD, List.getElem?_eq_getElem hm']
    have := h _ (List.getElem_mem hm')
    simpa using this
theorem cps_getD {w : Str} {m k : Nat} (h : w.cps[m]? = some k) : w.cps.toList.getD m 0 = k := by
  rw [List.getD_eq_getElem?_getD, Array.getElem?_toList, h]
  rfl

/-! ### more steps: an enumerated list, an item's field, a method that gives nothing -/
section
variable {K : PySem.W.Frag} {σ : L2.St} {H H' : Hp} {t1 t2 t3 : TE} {c1 c2 : TT} {x y z v : V} {D : Ends} {u1 u2 : TS} {g1 : TG}
theorem B_forE {a : Addr} {xs : List V} (h : Vl t1 σ H (.ref a)) (s : SqL K H a xs) (Pv : Nat → L2.St → Hp → Prop) (h0 : ∀ H1, Gr H H1 → Pv 0 σ H1) (hl : ∀ m σ' H', m ≤ xs.length → Pv m σ' H' → SqL K H' a xs)
    (hs : ∀ m x T σ' H', xs[m]? = some x → Pv m σ' H' → H' T = none → g1 (.ref T) σ' (upd H' T (.tup [.int (m : Nat), x])) fun σ2 H2 => u1 { D with nx := Pv (m + 1), ct := Pv (m + 1), bk := u2 D } σ2 H2) (hd : ∀ σ' H', Pv xs.length σ' H' → u2 D σ' H') : tSeq (tFor (iEnum K (tCons t1 tNil)) g1 u1) u2 D σ H :=
  h H _ (.refl _) fun H1 g => ⟨a, xs, rfl, g.sl s, for_it (D := { D with nx := u2 D }) walk_enum Pv (h0 H1 g) hl (fun m v σ' Ha Hb hm p ⟨T, i, w, ev, hT, eH, ei, ew⟩ => by
    subst ev
    subst eH
    cases ei
    exact hs m w T σ' Ha ew p hT) hd⟩
theorem v_fld {l p : Addr} {vs ts : List V} {m : Nat} {i : Int} (hl : SqL K H l vs) (hv : vs[m]? = some (.ref p)) (hp : H p = some (.tup ts)) (hf : atI ts i = some v) (a : Vl t1 σ H (.ref l)) (d : Vl t2 σ H (.int (m : Nat))) :
    Vl (tOp (rIxT K) (tOp (rIxL K) t1 t2) (tC (.int i))) σ H v := v_op (v_op a d (bi_ixL hl (atI_nat hv))) v_con (bi_ixT (SqT.of hp) hf)
theorem Tu.toR {xs : List V} (h : Tu t1 σ H xs) : Vr t1 σ H (fun u H2 => ∃ p, u = .ref p ∧ H2 p = some (.tup xs)) := fun H1 Q g q => h H1 Q g fun p H2 _ g2 e => q _ H2 g2 ⟨p, rfl, e⟩
/-- xs.insert(0, e), the item a new tuple -/
abbrev rIns0 : V → List V → Hp → VK → Prop := fun x vs H Q => ∃ (l : Addr) (xs : List V) (i : Int) (y : V), x = .ref l ∧ vs = [.int i, y] ∧ H l = some (.lst xs) ∧ xs.length < sizeLine ∧ 0 ≤ i ∧ i < 2 ^ 63 ∧ Q .non (upd H l (.lst (xs.take i.toNat ++ [y] ++ xs.drop i.toNat)))
theorem B_ins0U {l : Addr} {xs ts : List V} (hl : H l = some (.lst xs)) (a : Vl t1 σ H (.ref l)) (h : Tu t2 σ H ts) (n : xs.length < 100000) (k : ∀ p H1, H p = none → Gr H H1 → H1 p = some (.tup ts) → u1 D σ (upd H1 l (.lst (.ref p :: xs)))) :
    tSeq (tDrop (tBM K "list" rIns0 t1 (tCons (tC (.int 0)) (tCons t2 tNil)))) u1 D σ H := a H _ (.refl _) fun H1 g =>
  ⟨.inl ⟨rfl, xs, SqL.of (g.lst hl)⟩, h H1 _ g fun p H2 hp g2 e => ⟨l, xs, 0, .ref p, rfl, rfl, g2.lst (g.lst hl), small' n, by decide, by decide, k p H2 (g.free hp) (g.trans g2) e⟩⟩
theorem B_pop0 {l : Addr} {xs : List V} (hl : H l = some (.lst (y :: xs))) (a : Vl t1 σ H (.ref l)) (k : ∀ H1, Gr H H1 → u1 D σ (upd H1 l (.lst xs))) : tSeq (tDrop (tBM K "list" rPopAt t1 (tCons (tC (.int 0)) tNil))) u1 D σ H := a H _ (.refl _) fun H1 g =>
  ⟨.inl ⟨rfl, _, SqL.of (g.lst hl)⟩, l, y :: xs, 0, 0, y, rfl, rfl, g.lst hl, by decide, by decide, by
    unfold seqIndex?
    simp, rfl, k H1 g⟩
end


/-! ### the law's readers of the script -/
def cellAt (ns : List Int) (k : Nat) : Int := ns.getD k 0
def spCell (K : PySem.W.Frag) : Sp := fun vs H Q _ => ∃ (a : Addr) (ns : List Int) (k : Nat), vs = [.ref a, .int (k : Int)] ∧ SqL K H a (ns.map V.int) ∧ RV (.int (cellAt ns k)) H Q
theorem sv_cell {K : PySem.W.Frag} {H : Hp} {a : Addr} {ns : List Int} {i : Int} (k : Nat) (e : i = (k : Int)) (h : SqL K H a (ns.map V.int)) : SpV (spCell K) [.ref a, .int i] H (.int (cellAt ns k)) := fun H1 Q E g q => ⟨a, ns, k, by rw [e], g.sl h, q⟩
def numBy (c l : Int) : Int :=
  if c.fmod 8 < 3 then l + c.fmod 8 else
  if c.fmod 8 = 3 then l + (c.fdiv 8).fmod 9 else
  if c.fmod 8 = 4 then 10 ^ 9 else
  if c.fmod 8 = 5 then l + (c.fdiv 8).fmod (10 ^ 9 + 1 - l) else
  l + (c.fdiv 8).fmod (if c.fmod 8 = 6 then 60 else 300)
theorem numBy_in (c l : Int) (hl : l = 0 ∨ l = 1) : l ≤ numBy c l ∧ numBy c l ≤ 10 ^ 9 := by
  have h1 := fmod_in c (m := 8) (by decide)
  have h2 := fmod_in (c.fdiv 8) (m := 9) (by decide)
  have h3 := fmod_in (c.fdiv 8) (m := 10 ^ 9 + 1 - l) (by omega)
  have h4 := fmod_in (c.fdiv 8) (m := (if c.fmod 8 = 6 then 60 else 300)) (by split <;> decide)
  unfold numBy
  split
  · omega
  split
  · omega
  split
  · omega
  split
  · omega
  have : (if c.fmod 8 = 6 then (60:Int) else 300) ≤ 300 := by split <;> decide
  omega
def spNum : Sp := fun vs H Q _ => ∃ (c l : Int), vs = [.int c, .int l] ∧ (l = 0 ∨ l = 1) ∧ RV (.int (numBy c l)) H Q
theorem sv_num {H : Hp} {c l : Int} (h : l = 0 ∨ l = 1) : SpV spNum [.int c, .int l] H (.int (numBy c l)) := fun H1 Q E g q => ⟨c, l, rfl, h, q⟩
/-- a new list of so many plain texts -/
def Names (n : Nat) (v : V) (H : Hp) : Prop := ∃ (p : Addr) (ss : List Str), v = .ref p ∧ H p = some (.lst (ss.map V.str)) ∧ ss.length = n ∧ ∀ s ∈ ss, s.length ≤ 200 ∧ Asc s
theorem Names.mono {n : Nat} {v : V} {H H' : Hp} (g : Gr H H') (h : Names n v H) : Names n v H' := let ⟨p, ss, a, b, c⟩ := h; ⟨p, ss, a, g.lst b, c⟩
def spPeople : Sp := fun vs H Q _ => ∃ (c : Int) (n : Nat), vs = [.int c, .int (n : Int)] ∧ n ≤ 400 ∧ RR_ (Names n) H Q
theorem sr_people {H : Hp} {c i : Int} (n : Nat) (e : i = (n : Int)) (h : n ≤ 400) : SpR spPeople [.int c, .int i] H (Names n) := fun H1 Q E g q => ⟨c, n, by rw [e], h, q⟩
theorem names_out {n : Nat} {s : Nat → Str} (h : ∀ m, m < n → (s m).length ≤ 200 ∧ Asc (s m)) {p : Addr} {H : Hp} (hp : H p = some (.lst (out n (fun _ => true) fun m => V.str (s m)))) : Names n (.ref p) H := by
  refine ⟨p, (List.range n).map s, rfl, ?_, by rw [List.length_map, List.length_range], ?_⟩
  · rw [hp]
    unfold out
    rw [List.map_map, List.filter_eq_self.mpr (fun _ _ => rfl)]
    rfl
  · intro z hz
    obtain ⟨m, hm, rfl⟩ := List.mem_map.mp hz
    exact h m (List.mem_range.mp hm)
theorem num_text : ∀ k : Nat, k < 400 → (toString (k : Int) : Str).length ≤ 20 ∧ Asc (toString (k : Int)) := by
  unfold Asc
  decide +kernel
theorem num_small {m : Nat} (h : m < 400) : ((m : Int)).natAbs.log2 < 1920 := by
  have e : ((m : Int)).natAbs = m := Int.natAbs_natCast m
  rw [e]
  exact Nat.lt_of_le_of_lt (Nat.log2_le_self m) (by omega)
/-- a sign of a written text -/
theorem sign_in {w : Str} (n : Nat) (h : (w.cps.toList.all fun k => decide (k < 128)) = true) : w.cps.toList.getD n 0 < 128 := by
  rw [List.getD_eq_getElem?_getD]
  cases e : w.cps.toList[n]? with
  | none => show 0 < 128; decide
  | some k => exact of_decide_eq_true (List.all_eq_true.mp h k (List.mem_of_getElem? e))
theorem bi_sign {w : Str} {c : Int} {n : Nat} {H : Hp} (hn : w.length = n) (h0 : 0 < n) (s : n ≤ 100000) : Bi rIxS (.str w) (.int (c.fmod n)) H (.str ⟨#[w.cps.toList.getD (c.fmod n).toNat 0]⟩) :=
  bi_ixS (by omega) (atI_in 0 (fmod_in c (by omega)).1 (by
    have h2 := (fmod_in c (m := n) (by omega)).2
    have e : w.cps.toList.length = w.length := Array.length_toList
    rw [e, hn]
    exact h2))

/-! ### lines: rows of a name, a wish, how often passed -/
structure Row where
  name : Str
  wish : Str
  often : Int
def Row.vs (r : Row) : List V := [.str r.name, .str r.wish, .int r.often]
def Row.dat (r : Row) : PyData := .tuple [.str r.name, .str r.wish, .int r.often]
abbrev rd : Str := "read"
abbrev wr : Str := "write"
theorem rd_ne_wr : ¬ rd = wr := by decide +kernel
theorem wr_ne_rd : ¬ wr = rd := by decide +kernel
def Row.good (r : Row) : Prop := Asc r.name ∧ (r.wish = rd ∨ r.wish = wr)
def canB (seats reading : Int) (writes : Bool) (wish : Str) : Bool := if writes = true then false else if wish = rd then decide (reading < seats) else decide (reading = 0)
def firstR : Nat → List Row → Int → Option Nat
  | _, [], _ => none
  | n, r :: l, p => if r.wish = rd then some n else if p ≤ r.often then none else firstR (n + 1) l p
def nextP (l : List Row) (seats p reading : Int) (writes : Bool) : Option Nat :=
  match l with
  | [] => none
  | r :: _ => if canB seats reading writes r.wish = true then some 0 else if r.wish = wr ∧ 0 < reading ∧ canB seats reading writes rd = true then firstR 0 l p else none
theorem nextP_cons {r1 : Row} {l : List Row} {s p r : Int} {b : Bool} : nextP (r1 :: l) s p r b = if canB s r b r1.wish = true then some 0 else if r1.wish = wr ∧ 0 < r ∧ canB s r b rd = true then firstR 0 (r1 :: l) p else none := rfl
/-- the law's own reckoning -/
def dueGo : Nat → List Row → Int → Option Nat
  | n, [], _ => some n
  | n, r :: l, p => if r.wish = wr then (if p ≤ r.often then none else dueGo (n + 1) l p) else some n
def due (l : List Row) (seats p reading : Int) (writes : Bool) : Option Nat :=
  match l with
  | [] => none
  | r :: _ => if writes = true then none else if r.wish = wr ∧ reading = 0 then some 0 else
    match dueGo 0 l p with
    | none => none
    | some n => if n = l.length ∨ seats ≤ reading then none else some n
theorem dueGo_first : ∀ (l : List Row) (n : Nat) (p : Int), (∀ r ∈ l, r.wish = rd ∨ r.wish = wr) → firstR n l p = (match dueGo n l p with | none => none | some m => if m = n + l.length then none else some m) ∧ ∀ m, dueGo n l p = some m → n ≤ m ∧ m ≤ n + l.length
  | [], n, p, _ => by
    refine ⟨?_, fun m e => ?_⟩
    · show none = if n = n + 0 then none else some n
      exact (if_pos (Nat.add_zero n).symm).symm
    · cases e
      exact ⟨Nat.le_refl _, Nat.le_refl _⟩
  | r :: l, n, p, h => by
    obtain ⟨ih, ib⟩ := dueGo_first l (n + 1) p fun x hx => h x (List.mem_cons_of_mem _ hx)
    unfold firstR dueGo
    rcases h r List.mem_cons_self with e | e
    · have e2 : ¬ r.wish = wr := fun z => rd_ne_wr (e.symm.trans z)
      rw [if_pos e, if_neg e2]
      refine ⟨?_, fun m em => ?_⟩
      · show some n = if n = n + (l.length + 1) then none else some n
        rw [if_neg (by omega)]
      · cases em
        exact ⟨Nat.le_refl _, Nat.le_add_right _ _⟩
    · have e2 : ¬ r.wish = rd := fun z => wr_ne_rd (e.symm.trans z)
      rw [if_neg e2, if_pos e]
      by_cases hp : p ≤ r.often
      · rw [if_pos hp, if_pos hp]
        exact ⟨rfl, fun m em => by cases em⟩
      · rw [if_neg hp, if_neg hp]
        refine ⟨?_, fun m em => ?_⟩
        · rw [ih]
          cases q : dueGo (n + 1) l p with
          | none => rfl
          | some m =>
            show (if m = n + 1 + l.length then none else some m) = if m = n + (l.length + 1) then none else some m
            rw [show n + 1 + l.length = n + (l.length + 1) by omega]
        · have := ib m em
          rw [List.length_cons]
          omega
theorem next_due (l : List Row) (seats p reading : Int) (writes : Bool) (hg : ∀ r ∈ l, r.wish = rd ∨ r.wish = wr) (h0 : 0 ≤ reading) : nextP l seats p reading writes = due l seats p reading writes := by
  cases l with
  | nil => rfl
  | cons r l =>
    obtain ⟨hf, hb⟩ := dueGo_first (r :: l) 0 p hg
    unfold nextP due canB
    cases writes with
    | true => simp
    | false =>
      simp only [Bool.false_eq_true, if_false]
      rcases hg r List.mem_cons_self with e | e
      · have e2 : ¬ r.wish = wr := fun z => rd_ne_wr (e.symm.trans z)
        have ed : dueGo 0 (r :: l) p = some 0 := by
          unfold dueGo
          rw [if_neg e2]
        rw [ed, if_pos e]
        simp only [e2, false_and, if_false, decide_eq_true_eq]
        by_cases hs : reading < seats
        · rw [if_pos hs, if_neg (by rw [List.length_cons]; omega)]
        · rw [if_neg hs, if_pos (by omega)]
      · have e2 : ¬ r.wish = rd := fun z => wr_ne_rd (e.symm.trans z)
        rw [if_neg e2]
        simp only [e, true_and, decide_eq_true_eq, if_true]
        by_cases hr : reading = 0
        · rw [if_pos hr, if_pos hr]
        · rw [if_neg hr, if_neg hr]
          by_cases hs : reading < seats
          · rw [if_pos ⟨by omega, hs⟩, hf]
            cases dueGo 0 (r :: l) p with
            | none => rfl
            | some m =>
              show (if m = 0 + (r :: l).length then none else some m) = if m = (r :: l).length ∨ seats ≤ reading then none else some m
              rw [Nat.zero_add]
              by_cases hm : m = (r :: l).length
              · rw [if_pos hm, if_pos (.inl hm)]
              · rw [if_neg hm, if_neg (by omega)]
          · rw [if_neg (by omega)]
            cases dueGo 0 (r :: l) p with
            | none => rfl
            | some m =>
              show none = if m = (r :: l).length ∨ seats ≤ reading then none else some m
              rw [if_pos (.inr (by omega))]
/-- the tuples of rows -/
inductive RowsAt (H : Hp) : List V → List Row → Prop
  | nil : RowsAt H [] []
  | cons {p : Addr} {r : Row} {vs : List V} {l : List Row} : H p = some (.tup r.vs) → RowsAt H vs l → RowsAt H (.ref p :: vs) (r :: l)
namespace RowsAt
theorem mono {H H' : Hp} (g : Gr H H') : ∀ {vs : List V} {l : List Row}, RowsAt H vs l → RowsAt H' vs l
  | _, _, .nil => .nil
  | _, _, .cons h t => .cons (g.tup h) (mono g t)
/-- a change of an object that is no tuple -/
theorem chg {H : Hp} {a : Addr} {o : HO} (n : ∀ ts, H a ≠ some (.tup ts)) : ∀ {vs : List V} {l : List Row}, RowsAt H vs l → RowsAt (upd H a o) vs l
  | _, _, .nil => .nil
  | _, _, .cons h t => .cons ((upd_ne fun e => n _ (e ▸ h)).trans h) (chg n t)
theorem length {H : Hp} : ∀ {vs : List V} {l : List Row}, RowsAt H vs l → vs.length = l.length
  | _, _, .nil => rfl
  | _, _, .cons _ t => by rw [List.length_cons, List.length_cons, length t]
theorem get {H : Hp} : ∀ {vs : List V} {l : List Row} (m : Nat) {r : Row}, RowsAt H vs l → l[m]? = some r → ∃ p, vs[m]? = some (.ref p) ∧ H p = some (.tup r.vs)
  | _, _, _, _, .nil, h => by simp at h
  | _, _, 0, _, .cons h _, e => by
    cases e
    exact ⟨_, rfl, h⟩
  | _, _, m + 1, _, .cons _ t, e => get m t e
theorem snoc {H : Hp} {p : Addr} {r : Row} (h : H p = some (.tup r.vs)) : ∀ {vs : List V} {l : List Row}, RowsAt H vs l → RowsAt H (vs ++ [.ref p]) (l ++ [r])
  | _, _, .nil => .cons h .nil
  | _, _, .cons k t => .cons k (snoc h t)
theorem dps {K : PySem.W.Frag} {H : Hp} : ∀ {vs : List V} {l : List Row}, RowsAt H vs l → DpAll K H vs (l.map Row.dat)
  | _, _, .nil => .nil
  | _, _, .cons h t => .cons (.tup (SqT.of h) (.cons (.str _) (.cons (.str _) (.cons (.int _) .nil)))) (dps t)
end RowsAt
theorem Asc.wish {z : Str} (h : z = rd ∨ z = wr) : Asc z := by
  rcases h with rfl | rfl <;> (unfold Asc; decide +kernel)
theorem canLay_rows : ∀ l : List Row, (∀ r ∈ l, r.good) → PyData.canLayAll0 (l.map Row.dat) = true
  | [], _ => by simp [PyData.canLayAll0]
  | r :: l, h => by
    have t := canLay_rows l fun x hx => h x (List.mem_cons_of_mem _ hx)
    obtain ⟨a, b⟩ := h r List.mem_cons_self
    have b' := (Asc.wish b).ok
    have a' := a.ok
    simp [PyData.canLayAll0, PyData.canLay0, t, Row.dat, a', b']
theorem depth_rows : ∀ l : List Row, PyData.depthAll (l.map Row.dat) ≤ 1
  | [] => by simp [PyData.depthAll]
  | r :: l => by
    have := depth_rows l
    simp [PyData.depthAll, PyData.depth, Row.dat, this]
theorem shaped_rows (l : List Row) (h : ∀ r ∈ l, r.good) : SeqAt.shaped (.list (l.map Row.dat)) = true := by
  unfold SeqAt.shaped
  have := depth_rows l
  simp [PyData.canLay0, PyData.depth, canLay_rows l h]
  omega
theorem eqv_self {d : PyData} (h : SeqAt.shaped d = true) : PyData.eqv d d = true := SeqAt.eqv_refl d (Bool.and_eq_true_iff.mp h).1
theorem shaped_int (i : Int) : SeqAt.shaped (.int i) = true := by
  unfold SeqAt.shaped
  simp [PyData.canLay0, PyData.depth]
theorem shaped_nil : SeqAt.shaped (.list []) = true := by decide +kernel
theorem due_cons {r1 : Row} {l : List Row} {s p r : Int} : due (r1 :: l) s p r false = if r1.wish = wr ∧ r = 0 then some 0 else match dueGo 0 (r1 :: l) p with
    | none => none
    | some n => if n = (r1 :: l).length ∨ s ≤ r then none else some n := rfl
def optV : Option Nat → V
  | none => .non
  | some n => .int (n : Int)

/-- more than so many distinct names cannot all stand in a shorter list -/
theorem pigeon {α : Type} [DecidableEq α] : ∀ (l m : List α), l.Nodup → (∀ a ∈ l, a ∈ m) → l.length ≤ m.length
  | [], _, _, _ => Nat.zero_le _
  | a :: l, m, nd, sub => by
    obtain ⟨n1, n2⟩ := List.nodup_cons.mp nd
    have ha := sub a List.mem_cons_self
    have ih := pigeon l (m.erase a) n2 fun b hb => (List.mem_erase_of_ne (fun e => n1 (by rw [← e]; exact hb))).mpr (sub b (List.mem_cons_of_mem _ hb))
    rw [List.length_erase_of_mem ha] at ih
    have := List.length_pos_of_mem ha
    rw [List.length_cons]
    omega
def wN (m : Nat) : Str := Str.ofString "w" ++ toString (m : Int)
theorem wN_is (m : Nat) : V.str (Str.ofString "w" ++ toString (m : Int)) = V.str (wN m) := by
  unfold wN
  rfl
theorem wN_nd : ((List.range 80).map wN).Nodup := by decide +kernel
theorem wN_ok (m : Nat) (h : m < 400) : (wN m).length ≤ 21 ∧ Asc (wN m) := by
  have := num_text m h
  have e : (Str.ofString "w").length = 1 := by decide +kernel
  refine ⟨by unfold wN; rw [cat_len, e]; omega, Asc.cat (by unfold Asc; decide +kernel) this.2⟩
theorem inV_strs (z : Str) : ∀ l : List Str, inV (.str z) (l.map V.str) = decide (z ∈ l)
  | [] => rfl
  | a :: l => by
    have ih := inV_strs z l
    unfold inV at ih ⊢
    rw [List.map_cons, List.any_cons, ih]
    have e : eqV (.str a) (.str z) = decide (z = a) := by
      show (a == z) = _
      rw [Bool.eq_iff_iff, beq_iff_eq, decide_eq_true_eq]
      exact ⟨Eq.symm, Eq.symm⟩
    rw [e, Bool.eq_iff_iff, Bool.or_eq_true, decide_eq_true_eq, decide_eq_true_eq, decide_eq_true_eq, List.mem_cons]
/-- one of the fresh names is in none of the rows -/
theorem fresh_one (names : List Str) (h : names.length < 80) : ∃ z, atI (out 80 (fun m => !decide (wN m ∈ names)) fun m => V.str (wN m)) 0 = some (.str z) ∧ Asc z ∧ z.length ≤ 21 := by
  have ex : ∃ m, m < 80 ∧ wN m ∉ names := by
    refine Classical.byContradiction fun no => ?_
    have all : ∀ a ∈ (List.range 80).map wN, a ∈ names := fun a ha => by
      obtain ⟨m, hm, rfl⟩ := List.mem_map.mp ha
      exact Classical.byContradiction fun nm => no ⟨m, List.mem_range.mp hm, nm⟩
    have := pigeon _ _ wN_nd all
    rw [List.length_map, List.length_range] at this
    omega
  obtain ⟨m, hm, nm⟩ := ex
  have mem : m ∈ (List.range 80).filter fun m => !decide (wN m ∈ names) := List.mem_filter.mpr ⟨List.mem_range.mpr hm, by rw [decide_eq_false nm]; rfl⟩
  unfold out
  cases e : (List.range 80).filter fun m => !decide (wN m ∈ names) with
  | nil =>
    rw [e] at mem
    exact absurd mem List.not_mem_nil
  | cons k r =>
    have hk : k < 80 := List.mem_range.mp (List.mem_filter.mp (by rw [e]; exact List.mem_cons_self : k ∈ (List.range 80).filter fun m => !decide (wN m ∈ names))).1
    have ok := wN_ok k (by omega)
    exact ⟨wN k, atI_nat (j := 0) rfl, ok.2, ok.1⟩


def topS (i : Nat) : Stmt := PySem.Challenge.pw_readwriteroom_k02_next_place.main.body.getD i (.Pass ⟨0, 0, 0, 0⟩)
abbrev sCan : Stmt := topS 3
abbrev nmCan : List Str := ["seats", "reading", "writes", "wish"]
theorem start_Can (v0 v1 v2 v3 : V) : L2.start nmCan [v0, v1, v2, v3] = [some v0, some v1, some v2, some v3] := rfl
theorem scCan : FnScope nmCan ["seats", "reading", "writes", "wish"] (defScope sCan) := ⟨rfl, rfl, rfl, by decide +kernel, rfl, by decide +kernel, by decide +kernel⟩
abbrev sFirst : Stmt := topS 4
abbrev nmFirst : List Str := ["line", "patience", "place", "_", "wish", "passed"]
theorem start_First (v0 v1 : V) : L2.start nmFirst [v0, v1] = [some v0, some v1, none, none, none, none] := rfl
theorem scFirst : FnScope nmFirst ["line", "patience"] (defScope sFirst) := ⟨rfl, rfl, rfl, by decide +kernel, rfl, by decide +kernel, by decide +kernel⟩
abbrev sNext : Stmt := topS 5
abbrev nmNext : List Str := ["line", "seats", "patience", "reading", "writes", "wish"]
theorem start_Next (v0 v1 v2 v3 v4 : V) : L2.start nmNext [v0, v1, v2, v3, v4] = [some v0, some v1, some v2, some v3, some v4, none] := rfl
theorem scNext : FnScope nmNext ["line", "seats", "patience", "reading", "writes"] (defScope sNext) := ⟨rfl, rfl, rfl, by decide +kernel, rfl, by decide +kernel, by decide +kernel⟩
abbrev sCell : Stmt := topS 7
abbrev nmCell : List Str := ["_law_script", "_law_k"]
theorem start_Cell (v0 v1 : V) : L2.start nmCell [v0, v1] = [some v0, some v1] := rfl
theorem scCell : FnScope nmCell ["_law_script", "_law_k"] (defScope sCell) := ⟨rfl, rfl, rfl, by decide +kernel, rfl, by decide +kernel, by decide +kernel⟩
abbrev sWhole : Stmt := topS 8
abbrev nmWhole : List Str := ["_law_found"]
theorem start_Whole (v0 : V) : L2.start nmWhole [v0] = [some v0] := rfl
theorem scWhole : FnScope nmWhole ["_law_found"] (defScope sWhole) := ⟨rfl, rfl, rfl, by decide +kernel, rfl, by decide +kernel, by decide +kernel⟩
abbrev sNum : Stmt := topS 9
abbrev nmNum : List Str := ["_law_cell", "_law_least", "_law_way"]
theorem start_Num (v0 v1 : V) : L2.start nmNum [v0, v1] = [some v0, some v1, none] := rfl
theorem scNum : FnScope nmNum ["_law_cell", "_law_least"] (defScope sNum) := ⟨rfl, rfl, rfl, by decide +kernel, rfl, by decide +kernel, by decide +kernel⟩
abbrev sPeople : Stmt := topS 10
abbrev nmPeople : List Str := ["_law_cell", "_law_many", "_law_some", "_law_head", "_law_rest", "_law_k", "_law_way", "_law_left", "_law_right"]
theorem start_People (v0 v1 : V) : L2.start nmPeople [v0, v1] = [some v0, some v1, none, none, none, none, none, none, none] := rfl
theorem scPeople : FnScope nmPeople ["_law_cell", "_law_many"] (defScope sPeople) := ⟨rfl, rfl, rfl, by decide +kernel, rfl, by decide +kernel, by decide +kernel⟩
abbrev sLine : Stmt := topS 11
abbrev nmLine : List Str := ["_law_script", "_law_patience", "_law_many", "_law_people_here", "_law_line", "_law_k", "_law_cell", "_law_often", "_law_wish"]
theorem start_Line (v0 v1 : V) : L2.start nmLine [v0, v1] = [some v0, some v1, none, none, none, none, none, none, none] := rfl
theorem scLine : FnScope nmLine ["_law_script", "_law_patience"] (defScope sLine) := ⟨rfl, rfl, rfl, by decide +kernel, rfl, by decide +kernel, by decide +kernel⟩
abbrev sDue : Stmt := topS 12
abbrev nmDue : List Str := ["_law_line", "_law_seats", "_law_patience", "_law_reading", "_law_writes", "_law_place_here"]
theorem start_Due (v0 v1 v2 v3 v4 : V) : L2.start nmDue [v0, v1, v2, v3, v4] = [some v0, some v1, some v2, some v3, some v4, none] := rfl
theorem scDue : FnScope nmDue ["_law_line", "_law_seats", "_law_patience", "_law_reading", "_law_writes"] (defScope sDue) := ⟨rfl, rfl, rfl, by decide +kernel, rfl, by decide +kernel, by decide +kernel⟩
abbrev sPlace : Stmt := topS 13
abbrev nmPlace : List Str := ["_law_found", "_law_due_here"]
theorem start_Place (v0 v1 : V) : L2.start nmPlace [v0, v1] = [some v0, some v1] := rfl
theorem scPlace : FnScope nmPlace ["_law_found", "_law_due_here"] (defScope sPlace) := ⟨rfl, rfl, rfl, by decide +kernel, rfl, by decide +kernel, by decide +kernel⟩
abbrev sLaw : Stmt := topS 14
abbrev nmLaw : List Str := ["_law_script", "_law_seats", "_law_patience", "_law_reading", "_law_writes", "_law_line", "_law_handed", "_law_found", "_law_fresh", "_law_k", "_law_name", "_law_one"]
theorem start_Law (v0 : V) : L2.start nmLaw [v0] = [some v0, none, none, none, none, none, none, none, none, none, none, none] := rfl
theorem scLaw : FnScope nmLaw ["_law_script"] (defScope sLaw) := ⟨rfl, rfl, rfl, by decide +kernel, rfl, by decide +kernel, by decide +kernel⟩
structure Top (K : PySem.W.Frag) (mg : Str → Option Value) where
  f_Can : Addr
  fd_Can : FuncData
  F_Can : Fun K "can_begin" "can_begin" sCan f_Can fd_Can
  B_Can : Binds K fd_Can ["seats", "reading", "writes", "wish"] []
  g_Can : mg "can_begin" = some (.ref f_Can)
  f_First : Addr
  fd_First : FuncData
  F_First : Fun K "first_reader" "first_reader" sFirst f_First fd_First
  B_First : Binds K fd_First ["line", "patience"] []
  g_First : mg "first_reader" = some (.ref f_First)
  f_Next : Addr
  fd_Next : FuncData
  F_Next : Fun K "next_place" "next_place" sNext f_Next fd_Next
  B_Next : Binds K fd_Next ["line", "seats", "patience", "reading", "writes"] []
  g_Next : mg "next_place" = some (.ref f_Next)
  f_Cell : Addr
  fd_Cell : FuncData
  F_Cell : Fun K "_law_cell_at" "_law_cell_at" sCell f_Cell fd_Cell
  B_Cell : Binds K fd_Cell ["_law_script", "_law_k"] []
  g_Cell : mg "_law_cell_at" = some (.ref f_Cell)
  f_Whole : Addr
  fd_Whole : FuncData
  F_Whole : Fun K "_law_whole" "_law_whole" sWhole f_Whole fd_Whole
  B_Whole : Binds K fd_Whole ["_law_found"] []
  g_Whole : mg "_law_whole" = some (.ref f_Whole)
  f_Num : Addr
  fd_Num : FuncData
  F_Num : Fun K "_law_number_by" "_law_number_by" sNum f_Num fd_Num
  B_Num : Binds K fd_Num ["_law_cell", "_law_least"] []
  g_Num : mg "_law_number_by" = some (.ref f_Num)
  f_People : Addr
  fd_People : FuncData
  F_People : Fun K "_law_people" "_law_people" sPeople f_People fd_People
  B_People : Binds K fd_People ["_law_cell", "_law_many"] []
  g_People : mg "_law_people" = some (.ref f_People)
  f_Line : Addr
  fd_Line : FuncData
  F_Line : Fun K "_law_line_by" "_law_line_by" sLine f_Line fd_Line
  B_Line : Binds K fd_Line ["_law_script", "_law_patience"] []
  g_Line : mg "_law_line_by" = some (.ref f_Line)
  f_Due : Addr
  fd_Due : FuncData
  F_Due : Fun K "_law_due" "_law_due" sDue f_Due fd_Due
  B_Due : Binds K fd_Due ["_law_line", "_law_seats", "_law_patience", "_law_reading", "_law_writes"] []
  g_Due : mg "_law_due" = some (.ref f_Due)
  f_Place : Addr
  fd_Place : FuncData
  F_Place : Fun K "_law_place" "_law_place" sPlace f_Place fd_Place
  B_Place : Binds K fd_Place ["_law_found", "_law_due_here"] []
  g_Place : mg "_law_place" = some (.ref f_Place)
  f_Law : Addr
  fd_Law : FuncData
  F_Law : Fun K "law" "law" sLaw f_Law fd_Law
  B_Law : Binds K fd_Law ["_law_script"] []
  g_Law : mg "law" = some (.ref f_Law)
  m_bool : mg "bool" = none
  m_enumerate : mg "enumerate" = none
  m_int : mg "int" = none
  m_isinstance : mg "isinstance" = none
  m_len : mg "len" = none
  m_list : mg "list" = none
  m_max : mg "max" = none
  m_min : mg "min" = none
  m_range : mg "range" = none
  m_str : mg "str" = none
  t_READ : Tok
  c_READ : mg "READ" = some (.str (Str.ofString "read") t_READ)
  t_WRITE : Tok
  c_WRITE : mg "WRITE" = some (.str (Str.ofString "write") t_WRITE)
/-! ### promises -/
def spCan : Sp := fun vs H Q _ => ∃ (s r : Int) (b : Bool) (w : Str), vs = [.int s, .int r, .bl b, .str w] ∧ RV (.bl (canB s r b w)) H Q
def spFirst (K : PySem.W.Frag) : Sp := fun vs H Q _ => ∃ (a : Addr) (xs : List V) (l : List Row) (p : Int), vs = [.ref a, .int p] ∧ SqL K H a xs ∧ RowsAt H xs l ∧ l.length ≤ 1000 ∧ (∀ r ∈ l, r.good) ∧ RV (optV (firstR 0 l p)) H Q
def spNext (K : PySem.W.Frag) : Sp := fun vs H Q _ => ∃ (a : Addr) (xs : List V) (l : List Row) (s p r : Int) (b : Bool), vs = [.ref a, .int s, .int p, .int r, .bl b] ∧ SqL K H a xs ∧ RowsAt H xs l ∧ l.length ≤ 1000 ∧ (∀ r ∈ l, r.good) ∧ RV (optV (nextP l s p r b)) H Q
def spWhole : Sp := fun vs H Q _ => ∃ o : Option Nat, vs = [optV o] ∧ RV (.bl o.isSome) H Q
def spPlace : Sp := fun vs H Q _ => ∃ o d : Option Nat, vs = [optV o, optV d] ∧ RV (.bl (decide (o = d))) H Q
def spDue (K : PySem.W.Frag) : Sp := fun vs H Q _ => ∃ (a : Addr) (xs : List V) (l : List Row) (s p r : Int) (b : Bool), vs = [.ref a, .int s, .int p, .int r, .bl b] ∧ SqL K H a xs ∧ RowsAt H xs l ∧ l.length ≤ 1000 ∧ (∀ r ∈ l, r.good) ∧ RV (optV (due l s p r b)) H Q
theorem out_all {n m : Nat} {x : V} {val : Nat → V} (h : (out n (fun _ => true) val)[m]? = some x) : x = val m := by
  unfold out at h
  rw [List.filter_eq_self.mpr (fun _ _ => rfl), List.getElem?_map] at h
  obtain ⟨k, hk, e⟩ := Option.map_eq_some_iff.mp h
  obtain ⟨hm, e2⟩ := List.getElem?_eq_some_iff.mp hk
  rw [List.getElem_range] at e2
  rw [← e, ← e2]
theorem out_names (ss : List Str) : out ss.length (fun _ => true) (fun k => V.str (ss.getD k (Str.ofString ""))) = ss.map V.str := by
  unfold out
  rw [List.filter_eq_self.mpr (fun _ _ => rfl)]
  refine List.ext_getElem (by rw [List.length_map, List.length_map, List.length_range]) fun i h1 h2 => ?_
  rw [List.getElem_map, List.getElem_map, List.getElem_range, List.getD_eq_getElem?_getD, List.getElem?_eq_getElem (by rw [List.length_map] at h2; exact h2)]
  rfl
/-- a new list of rows -/
def Lines (v : V) (H : Hp) : Prop := ∃ (q : Addr) (xs : List V) (l : List Row), v = .ref q ∧ H q = some (.lst xs) ∧ RowsAt H xs l ∧ l.length ≤ 71 ∧ ∀ r ∈ l, r.good
def spLine (K : PySem.W.Frag) : Sp := fun vs H Q _ => ∃ (a : Addr) (ns : List Int) (p : Int), vs = [.ref a, .int p] ∧ SqL K H a (ns.map V.int) ∧ 0 ≤ p ∧ p ≤ 10 ^ 9 ∧ RR_ Lines H Q
def spLaw (K : PySem.W.Frag) : Sp := fun vs H Q _ => ∃ (a : Addr) (ns : List Int), vs = [.ref a] ∧ SqL K H a (ns.map V.int) ∧ ns.length ≤ 63 ∧ ∀ H', Q (.bl true) H'
theorem law_pre {K : PySem.W.Frag} {mg : Str → Option Value} (T : Top K mg) (H : Hp) (a : Addr) (ns : List Int) (hl : ns.length ≤ 63) (hS : SqL K H a (ns.map V.int)) (ht : ∀ p ∈ ([] : List (Addr × Addr)), GxR.TabG H p.2) : spLaw K [.ref a] H (fun v _ => v = .bl true) fun _ _ _ => False := ⟨a, ns, rfl, hS, hl, fun _ => rfl⟩

section
variable {P : Program} {w : World} {K : PySem.W.Frag} {mg : Str → Option Value} {base : Heap}
theorem ok_Cell (T : Top K mg) : FnOk P w K mg base CX0 1 T.f_Cell T.fd_Cell ["_law_script", "_law_k"] (spCell K) := by
  refine T.F_Cell.ok scCell (fun vs H Q E h => ?_) (fun cdv A outer s H vs Q E hr h => ?_)
  · obtain ⟨a, ns, k, rfl, hS, q⟩ := h
    rfl
  · obtain ⟨a, ns, k, rfl, hS, q⟩ := h
    refine ⟨_, (pss_cons (ps_if (pt_cmpR op_lt (pv 1) (pe_callB call_len_seq (by rfl) T.m_len PySem.boot_len (pa_cons (pv 0) pa_nil)) (nomark _))
      (pss_one (ps_ret (pe_ix ix_list (pv 0) (pv 1) (fun _ _ => rfl))))
      pss_nil)
      (pss_one (ps_ret pe_int))), ?_⟩
    refine slots (start_Cell _ _) ?_
    refine' B_when (b := decide ((k : Int) < (ns.map V.int).length)) ?h ?k1 ?k2
    (case h => walk_at "et")
    all_goals intro hb H1 e1
    · have hk' : k < ns.length := by
        have := of_decide_eq_true hb
        rw [List.length_map] at this
        omega
      have g : (ns.map V.int)[k]? = some (.int (cellAt ns k)) := by
        rw [List.getElem?_map, List.getElem?_eq_getElem hk']
        unfold cellAt
        rw [List.getD_eq_getElem?_getD, List.getElem?_eq_getElem hk']
        rfl
      exact S_ret (v_op (v_slot rfl) (v_slot rfl) (bi_ixL (e1.sl hS) (atI_nat g))) fun H2 e2 => q H2 (e1.trans e2)
    · refine S_ret v_con fun H2 e2 => ?_
      have hk : ¬ k < ns.length := by
        have := of_decide_eq_false hb
        rw [List.length_map] at this
        omega
      have g : cellAt ns k = 0 := by
        unfold cellAt
        rw [List.getD_eq_getElem?_getD, List.getElem?_eq_none (by omega)]
        rfl
      rw [g] at q
      exact q H2 (e1.trans e2)
theorem ok_Num (T : Top K mg) : FnOk P w K mg base CX0 1 T.f_Num T.fd_Num ["_law_cell", "_law_least"] (spNum) := by
  refine T.F_Num.ok scNum (fun vs H Q E h => ?_) (fun cdv A outer s H vs Q E hr h => ?_)
  · obtain ⟨c, l, rfl, hl, q⟩ := h
    rfl
  · obtain ⟨c, l, rfl, hl, q⟩ := h
    refine ⟨_, (pss_cons (ps_set (i := 2) scNum.nd rfl (Or.inl rfl) (pe_op op_modN (pv 0) pe_int))
      (pss_cons (ps_if (pt_cmpR op_lt (pv 2) pe_int (nomark _))
      (pss_one (ps_ret (pe_op op_add (pv 1) (pv 2))))
      pss_nil)
      (pss_cons (ps_if (pt_cmpR op_eq (pv 2) pe_int (nomark _))
      (pss_one (ps_ret (pe_op op_add (pv 1) (pe_op op_modN (pe_op op_fdivN (pv 0) pe_int) pe_int))))
      pss_nil)
      (pss_cons (ps_if (pt_cmpR op_eq (pv 2) pe_int (nomark _))
      (pss_one (ps_ret (pe_op op_pow pe_int pe_int)))
      pss_nil)
      (pss_cons (ps_if (pt_cmpR op_eq (pv 2) pe_int (nomark _))
      (pss_one (ps_ret (pe_op op_add (pv 1) (pe_op op_modN (pe_op op_fdivN (pv 0) pe_int) (pe_op op_sub (pe_op op_add (pe_op op_pow pe_int pe_int) pe_int) (pv 1))))))
      pss_nil)
      (pss_one (ps_ret (pe_op op_add (pv 1) (pe_op op_modN (pe_op op_fdivN (pv 0) pe_int) (pe_ix ix_list (pe_lst (pa_cons pe_int (pa_cons pe_int pa_nil))) (pe_op op_sub (pv 2) pe_int) (fun _ _ => rfl))))))))))), ?_⟩
    refine slots (start_Num _ _) ?_
    have hb := fmod_in c (m := 8) (by decide)
    walk_at "set"
    intro H1 e1
    replace q := q.mono e1
    walk_at "when"
    all_goals intro hc H2 e2
    · walk_at "ret"
      intro H3 e3
      have g : numBy c l = l + c.fmod 8 := if_pos (of_decide_eq_true hc)
      rw [g] at q
      exact q H3 (e2.trans e3)
    replace q := q.mono e2
    have n1 := of_decide_eq_false hc
    walk_at "when"
    all_goals intro hc H2 e2
    · walk_at "ret"
      intro H3 e3
      have c1 : c.fmod 8 = 3 := V.int.inj (of_decide_eq_true hc)
      have g : numBy c l = l + (c.fdiv 8).fmod 9 := by unfold numBy; rw [if_neg n1, if_pos c1]
      rw [g] at q
      exact q H3 (e2.trans e3)
    replace q := q.mono e2
    have n2 : ¬ c.fmod 8 = 3 := fun z => of_decide_eq_false hc (congrArg V.int z)
    walk_at "when"
    all_goals intro hc H2 e2
    · refine S_ret (v_op v_con v_con (bi_C ⟨by decide, by decide, by decide⟩)) fun H3 e3 => ?_
      have c1 : c.fmod 8 = 4 := V.int.inj (of_decide_eq_true hc)
      have g : numBy c l = 10 ^ 9 := by unfold numBy; rw [if_neg n1, if_neg n2, if_pos c1]
      rw [g] at q
      exact q H3 (e2.trans e3)
    replace q := q.mono e2
    have n3 : ¬ c.fmod 8 = 4 := fun z => of_decide_eq_false hc (congrArg V.int z)
    walk_at "when"
    all_goals intro hc H2 e2
    · have ten : (10:Int) ^ (9:Int).toNat + 1 - l ≠ 0 := by
        have : (10:Int) ^ (9:Int).toNat = 1000000000 := by decide
        omega
      refine S_ret (v_op (v_slot rfl) (v_op (v_op (v_slot rfl) v_con (bi_C ⟨by decide, by decide⟩)) (v_op (v_op (v_op v_con v_con (bi_C ⟨by decide, by decide, by decide⟩)) v_con bi_0) (v_slot rfl) bi_0) (bi_C ten)) bi_0) fun H3 e3 => ?_
      have c1 : c.fmod 8 = 5 := V.int.inj (of_decide_eq_true hc)
      have g : numBy c l = l + (c.fdiv 8).fmod (10 ^ 9 + 1 - l) := by unfold numBy; rw [if_neg n1, if_neg n2, if_neg n3, if_pos c1]
      rw [g] at q
      exact q H3 (e2.trans e3)
    replace q := q.mono e2
    have n4 : ¬ c.fmod 8 = 5 := fun z => of_decide_eq_false hc (congrArg V.int z)
    have g : numBy c l = l + (c.fdiv 8).fmod (if c.fmod 8 = 6 then 60 else 300) := by unfold numBy; rw [if_neg n1, if_neg n2, if_neg n3, if_neg n4]
    rw [g] at q
    have at6 : atI [V.int 60, V.int 300] (c.fmod 8 - 6) = some (.int (if c.fmod 8 = 6 then 60 else 300)) := by
      rcases (by omega : c.fmod 8 = 6 ∨ c.fmod 8 = 7) with z | z
      · rw [z]; rfl
      · rw [z]; rfl
    have nz : (if c.fmod 8 = 6 then (60:Int) else 300) ≠ 0 := by split <;> decide
    refine S_ret (v_op (v_slot rfl) (v_op (v_op (v_slot rfl) v_con (bi_C ⟨by decide, by decide⟩)) (v_opL (l_lst (g_cons v_con (g_cons v_con g_nil)) (by decide)) (fun _ _ => v_op (v_slot rfl) v_con bi_0) (fun p H1 h1 _ => bi_ixL (SqL.of h1) at6)) (bi_C nz)) bi_0) fun H3 e3 => ?_
    exact q H3 e3
theorem ok_People (T : Top K mg) : FnOk P w K mg base CX0 1 T.f_People T.fd_People ["_law_cell", "_law_many"] (spPeople) := by
  refine T.F_People.ok scPeople (fun vs H Q E h => ?_) (fun cdv A outer s H vs Q E hr h => ?_)
  · obtain ⟨c, n, rfl, hn, q⟩ := h
    rfl
  · obtain ⟨c, n, rfl, hn, q⟩ := h
    refine ⟨_, (pss_cons (ps_set (i := 2) scPeople.nd rfl (Or.inr rfl) pe_str)
      (pss_cons (ps_set (i := 3) scPeople.nd rfl (Or.inr rfl) pe_str)
      (pss_cons (ps_set (i := 4) scPeople.nd rfl (Or.inl rfl) (pe_op op_fdivN (pv 0) pe_int))
      (pss_cons (ps_for PassesOwn.never rfl (pi_range1 (by rfl) T.m_range (pa_cons pe_int pa_nil)) (pg_name (i := 5) scPeople.nd rfl (Or.inl rfl))
      (pss_cons (ps_set (i := 3) scPeople.nd rfl (Or.inr rfl) (pe_op op_add_str (pv 3) (pe_ix ix_str (pv 2) (pe_op op_modN (pv 4) pe_int) (fun _ _ => rfl))))
      (pss_one (ps_set (i := 4) scPeople.nd rfl (Or.inl rfl) (pe_op op_fdivN (pv 4) pe_int)))))
      (pss_cons (ps_set (i := 6) scPeople.nd rfl (Or.inl rfl) (pe_op op_modN (pv 0) pe_int))
      (pss_cons (ps_if (PW.pt (pw_and (pt_cmpR op_eq (pv 6) pe_int (nomark _)) (pw_and1 (pt_cmpR op_lt (pv 1) pe_int (nomark _)))))
      (pss_one (ps_ret (pe_lc (own := [("_law_k", 5)]) rfl scPeople.nd (pi_range1 (by rfl) T.m_range (pa_cons (pv 1) pa_nil)) (blkOk_by (own := [("_law_k", 5)]) (N := nmPeople) (sc := defScope sPeople) (by decide +kernel)) (fun _ _ _ _ _ => (pg_name (i := 5) scPeople.nd rfl (Or.inl rfl))) (fun _ _ _ _ _ => pts_nil) (fun _ _ _ _ _ => (pe_slice sl_str (pv 3) po_none (po_some (pe_op op_add (pv 5) pe_int)))))))
      pss_nil)
      (pss_cons (ps_if (PW.pt (pw_and (pt_cmpR op_eq (pv 6) pe_int (nomark _)) (pw_and1 (pt_cmpR op_lt (pv 1) pe_int (nomark _)))))
      (pss_one (ps_ret (pe_lc (own := [("_law_k", 5)]) rfl scPeople.nd (pi_range1 (by rfl) T.m_range (pa_cons (pv 1) pa_nil)) (blkOk_by (own := [("_law_k", 5)]) (N := nmPeople) (sc := defScope sPeople) (by decide +kernel)) (fun _ _ _ _ _ => (pg_name (i := 5) scPeople.nd rfl (Or.inl rfl))) (fun _ _ _ _ _ => pts_nil) (fun _ _ _ _ _ => (pe_slice sl_str (pv 3) (po_some (pe_op op_sub pe_int (pv 5))) po_none)))))
      pss_nil)
      (pss_cons (ps_set (i := 3) scPeople.nd rfl (Or.inr rfl) (pe_slice sl_str (pv 3) po_none (po_some (pe_op op_modN (pe_op op_fdivN (pv 0) pe_int) pe_int))))
      (pss_cons (ps_if (PW.pt (pw_and (pt_cmpR op_lt (pv 6) pe_int (nomark _)) (pw_and1 (pt_cmpR op_lt (pv 1) pe_int (nomark _)))))
      (pss_cons (ps_set (i := 7) scPeople.nd rfl (Or.inr rfl) (pe_slice sl_str (pv 3) po_none (po_some (pe_op op_modN (pe_op op_fdivN (pv 0) pe_int) (pe_op op_add (pe_callB call_len_str (by rfl) T.m_len PySem.boot_len (pa_cons (pv 3) pa_nil)) pe_int)))))
      (pss_cons (ps_set (i := 8) scPeople.nd rfl (Or.inr rfl) (pe_slice sl_str (pv 3) (po_some (pe_callB call_len_str (by rfl) T.m_len PySem.boot_len (pa_cons (pv 7) pa_nil))) po_none))
      (pss_one (ps_ret (pe_lc (own := [("_law_k", 5)]) rfl scPeople.nd (pi_range1 (by rfl) T.m_range (pa_cons (pv 1) pa_nil)) (blkOk_by (own := [("_law_k", 5)]) (N := nmPeople) (sc := defScope sPeople) (by decide +kernel)) (fun _ _ _ _ _ => (pg_name (i := 5) scPeople.nd rfl (Or.inl rfl))) (fun _ _ _ _ _ => pts_nil) (fun _ _ _ _ _ => (pe_op op_add_str (pe_op op_add_str (pv 7) (pe_ix ix_str (pv 2) (pe_op op_modN (pe_op op_add (pe_op op_fdivN (pv 0) pe_int) (pe_op op_mul pe_int (pv 5))) pe_int) (fun _ _ => rfl))) (pv 8))))))))
      pss_nil)
      (pss_cons (ps_set (i := 3) scPeople.nd rfl (Or.inr rfl) (pe_slice sl_str (pv 3) po_none (po_some (pe_op op_sub pe_int (pe_callTy call_int1 (by rfl) T.m_int (by decide +kernel) (pa_cons (pe_cmpR op_gt (pv 1) pe_int (nomark _)) pa_nil))))))
      (pss_one (ps_ret (pe_lc (own := [("_law_k", 5)]) rfl scPeople.nd (pi_range1 (by rfl) T.m_range (pa_cons (pv 1) pa_nil)) (blkOk_by (own := [("_law_k", 5)]) (N := nmPeople) (sc := defScope sPeople) (by decide +kernel)) (fun _ _ _ _ _ => (pg_name (i := 5) scPeople.nd rfl (Or.inl rfl))) (fun _ _ _ _ _ => pts_nil) (fun _ _ _ _ _ => (pe_op op_add_str (pv 3) (pe_callTy call_str_int (by rfl) T.m_str (by decide +kernel) (pa_cons (pv 5) pa_nil))))))))))))))))), ?_⟩
    refine slots (start_People _ _) ?_
    refine B_set v_con fun H1 e1 => ?_
    refine B_set v_con fun H2 e2 => ?_
    refine B_set (v_op (v_slot rfl) v_con (bi_C ⟨by decide, by decide⟩)) fun H3 e3 => ?_
    replace q := q.mono ((e1.trans e2).trans e3)
    clear e1 e2 e3 H1 H2
    -- the head, twelve signs
    refine B_for1 (n := 12) (g_cons v_con g_nil) (by decide) (fun m σ' H' => ∃ z y5 r, σ' = [some (.int c), some (.int (n : Int)), some (.str signs), some (.str z), some (.int r), y5, none, none, none] ∧ z.length = m ∧ Asc z ∧ Gr H3 H') (fun H4 g => ⟨_, _, _, rfl, rfl, fun k hk => absurd hk List.not_mem_nil, g⟩) ?hs ?hd
    case hs =>
      rintro m σ' H' hm ⟨z, y5, r, rfl, hz, asc, g⟩
      refine B_set (v_op (v_slot rfl) (v_op (v_slot rfl) (v_op (v_slot rfl) v_con (bi_C (show (36 : Int) ≠ 0 by decide))) (bi_sign (n := 36) (by decide +kernel) (by decide) (by decide))) (bi_cat (show z.length + 1 ≤ 100000 by omega))) fun H4 e4 => ?_
      refine S_set (v_op (v_slot rfl) v_con (bi_C ⟨by decide, by decide⟩)) fun H5 e5 => ?_
      exact ⟨_, _, _, rfl, by rw [cat_len, hz]; rfl, asc.cat (.one (sign_in _ (by decide +kernel))), (g.trans e4).trans e5⟩
    rintro σ' H4 ⟨z, y5, r, rfl, hz, asc, e4⟩
    have hz12 : z.length = 12 := hz
    refine B_set (v_op (v_slot rfl) v_con (bi_C (show (6 : Int) ≠ 0 by decide))) fun H5 e5 => ?_
    replace q := q.mono (e4.trans e5)
    have nat : ((n : Int)).toNat = n := by omega
    have bn : 0 ≤ (n : Int) ∧ (n : Int) ≤ 40000 := by omega
    generalize c.fmod 6 = way
    -- the first n signs, the last n signs
    refine' B_when (s_and (b := decide (way = 0)) (Ts.is (s_test (v_op (v_slot rfl) v_con (bi_eq rfl))) ?ea) (fun _ => s_test (v_op (v_slot rfl) v_con bi_0))) ?y1 ?n1
    case ea => exact decide_eq_decide.mpr ⟨V.int.inj, congrArg V.int⟩
    case y1 =>
      intro _ H6 e6
      refine S_retL (l_cmp1 (fun _ => true) (fun m => .str (cutS z none (some ((m : Int) + 1)))) (g_cons (v_slot rfl) g_nil) bn (fun _ => rfl) (fun _ _ _ _ => s_yes) (fun m H7 _ _ _ => v_slS (v_slot rfl) p_no (p_int (v_op (v_slot rfl) v_con bi_0)) (by omega))) fun p H7 hp e7 h7 => ?_
      rw [nat] at h7
      refine q _ _ (e6.trans e7) (names_out (s := fun m => cutS z none (some ((m : Int) + 1))) (fun m _ => ⟨?_, asc.cut _ _⟩) h7)
      have := cut_len z none (some ((m : Int) + 1))
      omega
    intro _ H6 e6
    replace q := q.mono e6
    refine' B_when (s_and (b := decide (way = 1)) (Ts.is (s_test (v_op (v_slot rfl) v_con (bi_eq rfl))) ?eb) (fun _ => s_test (v_op (v_slot rfl) v_con bi_0))) ?y2 ?n2
    case eb => exact decide_eq_decide.mpr ⟨V.int.inj, congrArg V.int⟩
    case y2 =>
      intro _ H7 e7
      refine S_retL (l_cmp1 (fun _ => true) (fun m => .str (cutS z (some (11 - (m : Int))) none)) (g_cons (v_slot rfl) g_nil) bn (fun _ => rfl) (fun _ _ _ _ => s_yes) (fun m H8 _ _ _ => v_slS (v_slot rfl) (p_int (v_op v_con (v_slot rfl) bi_0)) p_no (by omega))) fun p H8 hp e8 h8 => ?_
      rw [nat] at h8
      refine q _ _ (e7.trans e8) (names_out (s := fun m => cutS z (some (11 - (m : Int))) none) (fun m _ => ⟨?_, asc.cut _ _⟩) h8)
      have := cut_len z (some (11 - (m : Int))) none
      omega
    intro _ H7 e7
    replace q := q.mono e7
    refine B_set (v_slS (v_slot rfl) p_no (p_int (v_op (v_op (v_slot rfl) v_con (bi_C ⟨by decide, by decide⟩)) v_con (bi_C (show (12 : Int) ≠ 0 by decide)))) (by omega)) fun H8 e8 => ?_
    replace q := q.mono e8
    have hz2 := cut_len z none (some ((c.fdiv 6).fmod 12))
    have asc2 := asc.cut none (some ((c.fdiv 6).fmod 12))
    generalize cutS z none (some ((c.fdiv 6).fmod 12)) = z2 at hz2 asc2 ⊢
    -- a sign drawn between
    refine' B_when (s_and (s_test (v_op (v_slot rfl) v_con bi_0)) (fun _ => s_test (v_op (v_slot rfl) v_con bi_0))) ?y3 ?n3
    case y3 =>
      intro _ H9 e9
      refine B_set (v_slS (v_slot rfl) p_no (p_int (v_op (v_op (v_slot rfl) v_con (bi_C ⟨by decide, by decide⟩)) (v_op (v_lenS (v_slot rfl) (by omega)) v_con bi_0) (bi_C (show (z2.length : Int) + 1 ≠ 0 by omega)))) (by omega)) fun H10 e10 => ?_
      have lL := cut_len z2 none (some ((c.fdiv 5).fmod ((z2.length : Int) + 1)))
      have aL := asc2.cut none (some ((c.fdiv 5).fmod ((z2.length : Int) + 1)))
      generalize cutS z2 none (some ((c.fdiv 5).fmod ((z2.length : Int) + 1))) = zl at lL aL ⊢
      refine B_set (v_slS (v_slot rfl) (p_int (v_lenS (v_slot rfl) (by omega))) p_no (by omega)) fun H11 e11 => ?_
      have lR := cut_len z2 (some (zl.length : Int)) none
      have aR := asc2.cut (some (zl.length : Int)) none
      generalize cutS z2 (some (zl.length : Int)) none = zr at lR aR ⊢
      have one : ∀ k : Nat, (⟨#[k]⟩ : Str).length = 1 := fun _ => rfl
      refine S_retL (l_cmp1 (fun _ => true) (fun m => .str (zl ++ ⟨#[signs.cps.toList.getD (((c.fdiv 7) + 7 * (m : Int)).fmod 36).toNat 0]⟩ ++ zr)) (g_cons (v_slot rfl) g_nil) bn (fun _ => rfl) (fun _ _ _ _ => s_yes) (fun m H12 _ _ _ => v_op (v_op (v_slot rfl) (v_op (v_slot rfl) (v_op (v_op (v_op (v_slot rfl) v_con (bi_C ⟨by decide, by decide⟩)) (v_op v_con (v_slot rfl) (bi_C (.inl ⟨by decide, by decide⟩))) bi_0) v_con (bi_C (show (36 : Int) ≠ 0 by decide))) (bi_sign (n := 36) (by decide +kernel) (by decide) (by decide))) (bi_cat (by rw [one]; omega))) (v_slot rfl) (bi_cat (by rw [cat_len, one]; omega)))) fun p H12 hp e12 h12 => ?_
      rw [nat] at h12
      refine q _ _ (((e9.trans e10).trans e11).trans e12) (names_out (s := fun m => zl ++ ⟨#[signs.cps.toList.getD (((c.fdiv 7) + 7 * (m : Int)).fmod 36).toNat 0]⟩ ++ zr) (fun m _ => ⟨by rw [cat_len, cat_len, one]; omega, (aL.cat (.one (sign_in _ (by decide +kernel)))).cat aR⟩) h12)
    intro _ H9 e9
    replace q := q.mono e9
    -- numbers behind
    refine B_set (v_slS (v_slot rfl) p_no (p_int (v_op v_con (v_intB (v_op (v_slot rfl) v_con bi_0)) bi_0)) (by omega)) fun H10 e10 => ?_
    have hz3 := cut_len z2 none (some (10 - (if decide ((99 : Int) < (n : Int)) = true then (1 : Int) else 0)))
    have asc3 := asc2.cut none (some (10 - (if decide ((99 : Int) < (n : Int)) = true then (1 : Int) else 0)))
    generalize cutS z2 none (some (10 - (if decide ((99 : Int) < (n : Int)) = true then (1 : Int) else 0))) = z3 at hz3 asc3 ⊢
    refine S_retL (l_cmp1 (fun _ => true) (fun m => .str (z3 ++ toString (m : Int))) (g_cons (v_slot rfl) g_nil) bn (fun _ => rfl) (fun _ _ _ _ => s_yes) (fun m H11 _ hm _ => v_op (v_slot rfl) (v_str (v_slot rfl) (num_small (by omega))) (bi_cat (by have := (num_text m (by omega)).1; omega)))) fun p H11 hp e11 h11 => ?_
    rw [nat] at h11
    refine q _ _ (e10.trans e11) (names_out (s := fun m => z3 ++ toString (m : Int)) (fun m hm => ?_) h11)
    have := num_text m (by omega)
    exact ⟨by rw [cat_len]; omega, asc3.cat this.2⟩

theorem ok_Can (T : Top K mg) : FnOk P w K mg base CX0 1 T.f_Can T.fd_Can ["seats", "reading", "writes", "wish"] (spCan) := by
  refine T.F_Can.ok scCan (fun vs H Q E h => ?_) (fun cdv A outer s H vs Q E hr h => ?_)
  · obtain ⟨m, r, b, z, rfl, q⟩ := h
    rfl
  · obtain ⟨m, r, b, z, rfl, q⟩ := h
    refine ⟨_, (pss_cons (ps_if (pt_val (pv 2))
      (pss_one (ps_ret pe_bl))
      pss_nil)
      (pss_cons (ps_if (pt_cmpR op_eq (pv 3) (pe_glob (v := .str (Str.ofString "read")) rfl T.c_READ ⟨_, rfl⟩) (nomark _))
      (pss_one (ps_ret (pe_cmpR op_lt (pv 1) (pv 0) (nomark _))))
      pss_nil)
      (pss_one (ps_ret (pe_cmpR op_eq (pv 1) pe_int (nomark _)))))), ?_⟩
    refine slots (start_Can _ _ _ _) ?_
    walk_at "when"
    all_goals intro hc H2 e2
    · refine S_ret v_con fun H3 e3 => ?_
      have g : canB m r b z = false := if_pos hc
      rw [g] at q
      exact q H3 (e2.trans e3)
    replace q := q.mono e2
    have n1 : ¬ b = true := fun z => by rw [hc] at z; cases z
    walk_at "when"
    all_goals intro hc2 H2 e2
    · walk_at "ret"
      intro H3 e3
      have c1 : z = rd := V.str.inj (of_decide_eq_true hc2)
      have g : canB m r b z = decide (r < m) := by unfold canB; rw [if_neg n1, if_pos c1]
      rw [g] at q
      exact q H3 (e2.trans e3)
    have n2 : ¬ z = rd := fun w => of_decide_eq_false hc2 (congrArg V.str w)
    walk_at "ret"
    intro H3 e3
    have g : canB m r b z = decide (V.int r = V.int 0) := by
      unfold canB
      rw [if_neg n1, if_neg n2]
      exact decide_eq_decide.mpr ⟨congrArg V.int, V.int.inj⟩
    rw [g] at q
    exact q H3 (e2.trans e3)
theorem ok_First (T : Top K mg) : FnOk P w K mg base CX0 1 T.f_First T.fd_First ["line", "patience"] (spFirst K) := by
  refine T.F_First.ok scFirst (fun vs H Q E h => ?_) (fun cdv A outer s H vs Q E hr h => ?_)
  · obtain ⟨a, vs, l, p, rfl, hL, hR, hn, hg, q⟩ := h
    rfl
  · obtain ⟨a, vs, l, p, rfl, hL, hR, hn, hg, q⟩ := h
    refine ⟨_, (pss_cons (ps_for PassesOwn.never rfl (pi_enum (by rfl) T.m_enumerate (pa_cons (pv 0) pa_nil)) (pg_tup rfl (pgs_cons (pg_name (i := 2) scFirst.nd rfl (Or.inl rfl)) (pgs_cons (pg_tup rfl (pgs_cons (pg_name (i := 3) scFirst.nd rfl (Or.inl rfl)) (pgs_cons (pg_name (i := 4) scFirst.nd rfl (Or.inl rfl)) (pgs_cons (pg_name (i := 5) scFirst.nd rfl (Or.inl rfl)) pgs_nil)))) pgs_nil)))
      (pss_cons (ps_if (pt_cmpR op_eq (pv 4) (pe_glob (v := .str (Str.ofString "read")) rfl T.c_READ ⟨_, rfl⟩) (nomark _))
      (pss_one (ps_ret (pv 2)))
      pss_nil)
      (pss_one (ps_if (pt_cmpR op_ge (pv 5) (pv 1) (nomark _))
      (pss_one (ps_ret pe_non))
      pss_nil))))
      (pss_one (ps_ret pe_non))), ?_⟩
    refine slots (start_First _ _) ?_
    refine' B_forE (v_slot rfl) hL (fun m σ' H' => ∃ y2 y3 y4 y5, σ' = [some (.ref a), some (.int p), y2, y3, y4, y5] ∧ Gr H H' ∧ RV (optV (firstR m (l.drop m) p)) H Q) ?h0 ?hl ?hs ?hd
    case h0 =>
      intro H1 e1
      exact ⟨none, none, none, none, rfl, e1, q⟩
    case hl =>
      rintro m σ' H' _ ⟨y2, y3, y4, y5, rfl, g, _⟩
      exact g.sl hL
    case hs =>
      rintro m x T σ' H' hx ⟨y2, y3, y4, y5, rfl, g, k⟩ nT
      have ml : m < l.length := by
        have := (List.getElem?_eq_some_iff.mp hx).1
        rw [hR.length] at this
        exact this
      obtain ⟨pr, e1, h1⟩ := hR.get m (List.getElem?_eq_getElem ml)
      rw [hx] at e1
      cases e1
      have ed : l.drop m = l[m] :: l.drop (m + 1) := List.drop_eq_getElem_cons ml
      rw [ed] at k
      generalize l[m] = r at h1 k
      have gT : Gr H (upd H' T (.tup [.int (m : Nat), .ref pr])) := g.trans (.new nT)
      refine ⟨T, _, rfl, SqT.of upd_same, rfl, .int (m : Nat), _, rfl, .ref pr, _, rfl, ⟨pr, _, rfl, SqT.of (gT.tup h1), rfl, .str r.name, _, rfl, .str r.wish, _, rfl, .int r.often, _, rfl, rfl, rfl, ?_⟩⟩
      walk_at "when"
      all_goals intro hb H2 e2
      · refine S_ret (v_slot rfl) fun H3 e3 => ?_
        have ew : r.wish = rd := V.str.inj (of_decide_eq_true hb)
        have e : firstR m (r :: l.drop (m + 1)) p = some m := by
          unfold firstR
          rw [if_pos ew]
        rw [e] at k
        exact k H3 ((gT.trans e2).trans e3)
      · have ew : ¬ r.wish = rd := fun z => of_decide_eq_false hb (congrArg V.str z)
        walk_at "whenE"
        all_goals intro hb2 H3 e3
        · refine S_ret v_con fun H4 e4 => ?_
          have e : firstR m (r :: l.drop (m + 1)) p = none := by
            unfold firstR
            rw [if_neg ew, if_pos (of_decide_eq_true hb2)]
          rw [e] at k
          exact k H4 (((gT.trans e2).trans e3).trans e4)
        · have e : firstR m (r :: l.drop (m + 1)) p = firstR (m + 1) (l.drop (m + 1)) p := by
            conv => lhs; unfold firstR
            rw [if_neg ew, if_neg (of_decide_eq_false hb2)]
          rw [e] at k
          exact ⟨_, _, _, _, rfl, (gT.trans e2).trans e3, k⟩
    case hd =>
      rintro σ' H' ⟨y2, y3, y4, y5, rfl, g, k⟩
      refine S_ret v_con fun H3 e3 => ?_
      rw [hR.length, List.drop_length] at k
      exact k H3 (g.trans e3)
theorem ok_Next (T : Top K mg) : FnOk P w K mg base CX0 2 T.f_Next T.fd_Next ["line", "seats", "patience", "reading", "writes"] (spNext K) := by
  have GCan := ok_Can (P := P) (w := w) (base := base) T
  have GFirst := ok_First (P := P) (w := w) (base := base) T
  refine T.F_Next.ok scNext (fun vs H Q E h => ?_) (fun cdv A outer s H vs Q E hr h => ?_)
  · obtain ⟨a, vs, l, m, p, r, b, rfl, hL, hR, hn, hg, q⟩ := h
    rfl
  · obtain ⟨a, vs, l, m, p, r, b, rfl, hL, hR, hn, hg, q⟩ := h
    refine ⟨_, (pss_cons (ps_if (pt_not (pt_truth (pv 0) (by intro _; rfl)))
      (pss_one (ps_ret pe_non))
      pss_nil)
      (pss_cons (ps_set (i := 5) scNext.nd rfl (Or.inl rfl) (pe_ix ix_tup (pe_ix ix_list (pv 0) pe_int (fun _ _ => rfl)) pe_int (fun _ _ => rfl)))
      (pss_cons (ps_if (pt_val (pe_call GCan hr (by rfl) T.g_Can T.F_Can.kp T.B_Can .nil pass0 (pa_cons (pv 1) (pa_cons (pv 3) (pa_cons (pv 4) (pa_cons (pv 5) pa_nil))))))
      (pss_one (ps_ret pe_int))
      pss_nil)
      (pss_cons (ps_if (PW.pt (pw_and (pt_cmpR op_eq (pv 5) (pe_glob (v := .str (Str.ofString "write")) rfl T.c_WRITE ⟨_, rfl⟩) (nomark _)) (pw_and (pt_cmpR op_gt (pv 3) pe_int (nomark _)) (pw_and1 (pt_val (pe_call GCan hr (by rfl) T.g_Can T.F_Can.kp T.B_Can .nil pass0 (pa_cons (pv 1) (pa_cons (pv 3) (pa_cons (pv 4) (pa_cons (pe_glob (v := .str (Str.ofString "read")) rfl T.c_READ ⟨_, rfl⟩) pa_nil))))))))))
      (pss_one (ps_ret (pe_call GFirst hr (by rfl) T.g_First T.F_First.kp T.B_First .nil pass0 (pa_cons (pv 0) (pa_cons (pv 2) pa_nil)))))
      pss_nil)
      (pss_one (ps_ret pe_non)))))), ?_⟩
    refine slots (start_Next _ _ _ _ _) ?_
    refine' B_when (s_not (s_truL (v_slot rfl) hL)) ?y1 ?n1
    case y1 =>
      intro hb H1 e1
      refine S_ret v_con fun H2 e2 => ?_
      have e0 : l = [] := by
        cases vs with
        | nil =>
          have := hR.length
          exact List.length_eq_zero_iff.mp this.symm
        | cons v vs => simp at hb
      subst e0
      exact q H2 (e1.trans e2)
    intro hb H1 e1
    obtain ⟨r1, l1, rfl⟩ : ∃ r1 l1, l = r1 :: l1 := by
      cases l with
      | nil =>
        have := hR.length
        rw [List.length_nil] at this
        rw [List.length_eq_zero_iff.mp this] at hb
        simp at hb
      | cons r1 l1 => exact ⟨r1, l1, rfl⟩
    obtain ⟨p1, ev, hp1⟩ := hR.get 0 rfl
    replace q := q.mono e1
    replace hL := e1.sl hL
    replace hR := hR.mono e1
    replace hp1 := e1.tup hp1
    have f1 : ∀ {H2 : Hp} {σ : L2.St}, Gr H1 H2 → σ[0]? = some (some (.ref a)) → Vl (tOp (rIxT K) (tOp (rIxL K) (tVar 0) (tC (.int 0))) (tC (.int 1))) σ H2 (.str r1.wish) := fun g hs => v_fld (m := 0) (i := 1) (g.sl hL) ev (g.tup hp1) rfl (v_slot hs) v_con
    refine B_set (f1 (.refl _) rfl) fun H2 e2 => ?_
    have sc : ∀ {H3 : Hp} {z : Str}, SpV spCan [.int m, .int r, .bl b, .str z] H3 (.bl (canB m r b z)) := fun H4 Q4 E4 g4 q4 => ⟨m, r, b, _, rfl, q4⟩
    refine' B_when (s_B (v_call (g_cons (v_slot rfl) (g_cons (v_slot rfl) (g_cons (v_slot rfl) (g_cons (v_slot rfl) g_nil)))) sc)) ?y2 ?n2
    case y2 =>
      intro hc H3 e3
      refine S_ret v_con fun H4 e4 => ?_
      have e : nextP (r1 :: l1) m p r b = some 0 := if_pos hc
      rw [e] at q
      exact q H4 ((e2.trans e3).trans e4)
    intro hc H3 e3
    refine' B_when (s_and (b := decide (r1.wish = wr)) (Ts.is (s_test (v_op (v_slot rfl) v_con (bi_eq rfl))) ?ew) (fun _ => s_and (s_test (v_op (v_slot rfl) v_con bi_0)) (fun _ => s_B (v_call (g_cons (v_slot rfl) (g_cons (v_slot rfl) (g_cons (v_slot rfl) (g_cons v_con g_nil)))) sc)))) ?y3 ?n3
    case ew => exact decide_eq_decide.mpr ⟨V.str.inj, congrArg V.str⟩
    case y3 =>
      intro hb3 H4 e4
      have g4 := (e2.trans e3).trans e4
      simp only [Bool.and_eq_true, decide_eq_true_eq] at hb3
      have e : nextP (r1 :: l1) m p r b = firstR 0 (r1 :: l1) p := by
        rw [nextP_cons, if_neg (by rw [hc]; exact Bool.false_ne_true), if_pos hb3]
      rw [e] at q
      exact S_ret (v_call (g_cons (v_slot rfl) (g_cons (v_slot rfl) g_nil)) fun H5 Q5 E5 g5 q5 => ⟨a, vs, _, p, rfl, (g4.trans g5).sl hL, hR.mono (g4.trans g5), hn, hg, q5⟩) fun H5 e5 => q H5 (g4.trans e5)
    · intro hb3 H4 e4
      refine S_ret v_con fun H5 e5 => ?_
      have e : nextP (r1 :: l1) m p r b = none := by
        rw [nextP_cons, if_neg (by rw [hc]; exact Bool.false_ne_true), if_neg (fun h => ?_)]
        obtain ⟨h1, h2, h3⟩ := h
        rw [decide_eq_true h1, Bool.true_and, decide_eq_true h2, Bool.true_and] at hb3
        rw [h3] at hb3
        cases hb3
      rw [e] at q
      exact q H5 (((e2.trans e3).trans e4).trans e5)
theorem ok_Whole (T : Top K mg) : FnOk P w K mg base CX0 1 T.f_Whole T.fd_Whole ["_law_found"] (spWhole) := by
  refine T.F_Whole.ok scWhole (fun vs H Q E h => ?_) (fun cdv A outer s H vs Q E hr h => ?_)
  · obtain ⟨o, rfl, q⟩ := h
    rfl
  · obtain ⟨o, rfl, q⟩ := h
    refine ⟨_, (pss_one (ps_ret (pe_and (pe_callB call_isi (by rfl) T.m_isinstance (by decide +kernel) (pa_cons (pv 0) (pa_cons (pe_bltn (v := .ty "int") (by rfl) T.m_int (by decide +kernel) rfl) pa_nil))) (pe_one (pe_not (pe_callB call_isi (by rfl) T.m_isinstance (by decide +kernel) (pa_cons (pv 0) (pa_cons (pe_bltn (v := .ty "bool") (by rfl) T.m_bool (by decide +kernel) rfl) pa_nil)))))))), ?_⟩
    refine slots (start_Whole _) ?_
    cases o with
    | none => exact S_ret (v_and (c := false) (v_isiN (v_slot rfl)) (fun hb => absurd hb (by decide))) fun H1 e1 => q H1 e1
    | some n => exact S_ret (v_and (v_isiI (v_slot rfl)) (fun _ => v_not (v_isbI (v_slot rfl)))) fun H1 e1 => q H1 e1
theorem ok_Place (T : Top K mg) : FnOk P w K mg base CX0 2 T.f_Place T.fd_Place ["_law_found", "_law_due_here"] (spPlace) := by
  have GWhole := ok_Whole (P := P) (w := w) (base := base) T
  refine T.F_Place.ok scPlace (fun vs H Q E h => ?_) (fun cdv A outer s H vs Q E hr h => ?_)
  · obtain ⟨o, d, rfl, q⟩ := h
    rfl
  · obtain ⟨o, d, rfl, q⟩ := h
    refine ⟨_, (pss_cons (ps_if (pt_cmpR op_isN (pv 1) pe_non (nomark _))
      (pss_one (ps_ret (pe_cmpR op_isN (pv 0) pe_non (nomark _))))
      pss_nil)
      (pss_one (ps_ret (pe_and (pe_call GWhole hr (by rfl) T.g_Whole T.F_Whole.kp T.B_Whole .nil pass0 (pa_cons (pv 0) pa_nil)) (pe_one (pe_cmpR (op_eqD hr.units) (pv 0) (pv 1) (nomark _))))))), ?_⟩
    refine slots (start_Place _ _) ?_
    cases d with
    | none =>
      refine B_when (b := true) (s_test (v_op (v_slot rfl) v_con bi_isN)) (fun _ H1 e1 => ?_) (fun hb => absurd hb (by decide))
      refine S_ret (v_op (v_slot rfl) v_con bi_isN) fun H2 e2 => ?_
      have e : decide (optV o = V.non) = decide (o = none) := by cases o <;> rfl
      rw [e]
      exact q H2 (e1.trans e2)
    | some n =>
      refine B_when (b := false) (s_test (v_op (v_slot rfl) v_con bi_isN)) (fun hb => absurd hb (by decide)) fun _ H1 e1 => ?_
      have w1 : ∀ {H2 : Hp}, SpV spWhole [optV o] H2 (.bl o.isSome) := fun H4 Q4 E4 g4 q4 => ⟨o, rfl, q4⟩
      cases o with
      | none => exact S_ret (v_and (c := false) (v_call (g_cons (v_slot rfl) g_nil) w1) (fun hb => absurd hb (by decide))) fun H2 e2 => q H2 (e1.trans e2)
      | some k =>
        refine S_ret (v_and (v_call (g_cons (v_slot rfl) g_nil) w1) (fun _ => v_op (v_slot rfl) (v_slot rfl) (bi_eqD (.int _) (.int _) (shaped_int _) (shaped_int _)))) fun H2 e2 => ?_
        have e : (true && PyData.eqv (.int (k : Int)) (.int (n : Int))) = decide (some k = some n) := by
          rw [Bool.true_and]
          show ((k : Int) == (n : Int)) = _
          rw [Bool.eq_iff_iff, beq_iff_eq, decide_eq_true_eq]
          constructor
          · intro h
            rw [Int.ofNat.inj h]
          · intro h
            cases h
            rfl
        exact e ▸ q H2 (e1.trans e2)
theorem ok_Due (T : Top K mg) : FnOk P w K mg base CX0 1 T.f_Due T.fd_Due ["_law_line", "_law_seats", "_law_patience", "_law_reading", "_law_writes"] (spDue K) := by
  refine T.F_Due.ok scDue (fun vs H Q E h => ?_) (fun cdv A outer s H vs Q E hr h => ?_)
  · obtain ⟨a, vs, l, m, p, r, b, rfl, hL, hR, hn, hg, q⟩ := h
    rfl
  · obtain ⟨a, vs, l, m, p, r, b, rfl, hL, hR, hn, hg, q⟩ := h
    refine ⟨_, (pss_cons (ps_if (PW.pt (pw_or (pt_cmpR (op_eqD hr.units) (pv 0) (pe_lst pa_nil) (nomark _)) (pw_or1 (pt_val (pv 4)))))
      (pss_one (ps_ret pe_non))
      pss_nil)
      (pss_cons (ps_if (PW.pt (pw_and (pt_cmpR op_eq (pe_ix ix_tup (pe_ix ix_list (pv 0) pe_int (fun _ _ => rfl)) pe_int (fun _ _ => rfl)) pe_str (nomark _)) (pw_and1 (pt_cmpR op_eq (pv 3) pe_int (nomark _)))))
      (pss_one (ps_ret pe_int))
      pss_nil)
      (pss_cons (ps_set (i := 5) scDue.nd rfl (Or.inl rfl) pe_int)
      (pss_cons (ps_while PassesOwn.never (PW.pt (pw_and (pt_cmpR op_lt (pv 5) (pe_callB call_len_seq (by rfl) T.m_len PySem.boot_len (pa_cons (pv 0) pa_nil)) (nomark _)) (pw_and1 (pt_cmpR op_eq (pe_ix ix_tup (pe_ix ix_list (pv 0) (pv 5) (fun _ _ => rfl)) pe_int (fun _ _ => rfl)) pe_str (nomark _)))))
      (pss_cons (ps_if (pt_cmpR op_ge (pe_ix ix_tup (pe_ix ix_list (pv 0) (pv 5) (fun _ _ => rfl)) pe_int (fun _ _ => rfl)) (pv 2) (nomark _))
      (pss_one (ps_ret pe_non))
      pss_nil)
      (pss_one (ps_set (i := 5) scDue.nd rfl (Or.inl rfl) (pe_op op_add (pv 5) pe_int)))))
      (pss_cons (ps_if (PW.pt (pw_or (pt_cmpR op_eq (pv 5) (pe_callB call_len_seq (by rfl) T.m_len PySem.boot_len (pa_cons (pv 0) pa_nil)) (nomark _)) (pw_or1 (pt_cmpR op_ge (pv 3) (pv 1) (nomark _)))))
      (pss_one (ps_ret pe_non))
      pss_nil)
      (pss_one (ps_ret (pv 5)))))))), ?_⟩
    refine slots (start_Due _ _ _ _ _) ?_
    refine' B_when (s_or (Ts.is (s_test (v_opN (v_slot rfl) (l_lst g_nil (by decide)) (fun p1 H1 h1 e1 => bi_eqD (.lst (e1.sl hL) (hR.mono e1).dps) (.lst (SqL.of h1) .nil) (shaped_rows l hg) shaped_nil))) (eqv_nil _)) (fun _ => s_B (v_slot rfl))) ?y1 ?n1
    case y1 =>
      intro hb H1 e1
      refine S_ret v_con fun H2 e2 => ?_
      have e : due l m p r b = none := by
        cases l with
        | nil => rfl
        | cons r1 l1 =>
          have hb' : b = true := by
            simpa using hb
          rw [hb']
          rfl
      rw [e] at q
      exact q H2 (e1.trans e2)
    intro hb H1 e1
    obtain ⟨h0, rfl⟩ := Bool.or_eq_false_iff.mp hb
    obtain ⟨r1, l1, rfl⟩ : ∃ r1 l1, l = r1 :: l1 := by
      cases l with
      | nil => simp at h0
      | cons r1 l1 => exact ⟨r1, l1, rfl⟩
    replace q := q.mono e1
    replace hL := e1.sl hL
    replace hR := hR.mono e1
    clear e1 h0 hb
    -- the fields of the k-th row
    have fld : ∀ {H2 : Hp} {σ : L2.St} {te : TE} (k : Nat) (hk : k < (r1 :: l1).length), Gr H1 H2 → σ[0]? = some (some (.ref a)) → Vl te σ H2 (.int (k : Nat)) →
        Vl (tOp (rIxT K) (tOp (rIxL K) (tVar 0) te) (tC (.int 1))) σ H2 (.str (r1 :: l1)[k].wish) ∧ Vl (tOp (rIxT K) (tOp (rIxL K) (tVar 0) te) (tC (.int 2))) σ H2 (.int (r1 :: l1)[k].often) := by
      intro H2 σ te k hk g hs hv
      obtain ⟨pk, ek, hpk⟩ := hR.get k (List.getElem?_eq_getElem hk)
      exact ⟨v_fld (i := 1) (g.sl hL) ek (g.tup hpk) rfl (v_slot hs) hv, v_fld (i := 2) (g.sl hL) ek (g.tup hpk) rfl (v_slot hs) hv⟩
    refine' B_when (s_and (b := decide (r1.wish = wr)) (Ts.is (s_test (v_op (fld 0 (Nat.zero_lt_succ _) (.refl _) rfl v_con).1 v_con (bi_eq rfl))) ?ew) (fun _ => Ts.is (c := decide (r = 0)) (s_test (v_op (v_slot rfl) v_con (bi_eq rfl))) ?ez)) ?y2 ?n2
    case ew => exact decide_eq_decide.mpr ⟨V.str.inj, congrArg V.str⟩
    case ez => exact decide_eq_decide.mpr ⟨V.int.inj, congrArg V.int⟩
    case y2 =>
      intro hc H2 e2
      refine S_ret v_con fun H3 e3 => ?_
      simp only [Bool.and_eq_true, decide_eq_true_eq] at hc
      rw [due_cons, if_pos hc] at q
      exact q H3 (e2.trans e3)
    intro hc H2 e2
    have hc' : ¬ (r1.wish = wr ∧ r = 0) := fun z => by
      rw [decide_eq_true z.1, decide_eq_true z.2] at hc
      cases hc
    rw [due_cons, if_neg hc'] at q
    refine B_set v_con fun H3 e3 => ?_
    replace e3 := e2.trans e3
    generalize hl : r1 :: l1 = l at *
    refine' B_while (fun k σ' H' => ∃ n : Nat, σ' = [some (.ref a), some (.int m), some (.int p), some (.int r), some (.bl false), some (.int (n : Int))] ∧ n + k = l.length ∧ Gr H1 H' ∧ dueGo n (l.drop n) p = dueGo 0 l p) l.length ⟨0, rfl, Nat.zero_add _, e3, by rw [List.drop_zero]⟩ ?turn
    rintro k σ' H' ⟨n, rfl, hk, g, eq⟩
    by_cases hlt : n < l.length
    · have ed : l.drop n = l[n] :: l.drop (n + 1) := List.drop_eq_getElem_cons hlt
      rw [ed] at eq
      have lenT : ∀ {H2 : Hp}, Gr H1 H2 → Vl (tCB (fLen K) (tCons (tVar 0) tNil)) [some (.ref a), some (.int m), some (.int p), some (.int r), some (.bl false), some (.int (n : Int))] H2 (.int vs.length) := fun g2 => v_len (v_slot rfl) (g2.sl hL)
      refine ⟨decide (l[n].wish = wr), ?_, ?_, ?_⟩
      · refine Ts.is (s_and (b := true) (Ts.is (s_test (v_op (v_slot rfl) (lenT g) bi_0)) ?_) fun _ => Ts.is (s_test (v_op (fld n hlt g rfl (v_slot rfl)).1 v_con (bi_eq rfl))) (decide_eq_decide.mpr ⟨V.str.inj, congrArg V.str⟩)) (Bool.true_and _)
        rw [hR.length]
        exact decide_eq_true (by omega)
      · intro hb4 H4 e4
        have ew := of_decide_eq_true hb4
        refine ⟨fun σ2 H5 => ∃ n' : Nat, σ2 = [some (.ref a), some (.int m), some (.int p), some (.int r), some (.bl false), some (.int (n' : Int))] ∧ n' + (k - 1) = l.length ∧ Gr H1 H5 ∧ dueGo n' (l.drop n') p = dueGo 0 l p, fun σ2 H5 h => ⟨k - 1, by omega, h⟩, ?_⟩
        refine' B_when (s_test (v_op (fld n hlt (g.trans e4) rfl (v_slot rfl)).2 (v_slot rfl) bi_0)) ?y4 ?n4
        case y4 =>
          intro hp H5 e5
          refine S_ret v_con fun H6 e6 => ?_
          have e : dueGo 0 l p = none := by
            rw [← eq]
            unfold dueGo
            rw [if_pos ew, if_pos (of_decide_eq_true hp)]
          rw [e] at q
          exact q H6 (((g.trans e4).trans e5).trans e6)
        case n4 =>
          intro hp H5 e5
          refine S_set (v_op (v_slot rfl) v_con bi_0) fun H6 e6 => ?_
          refine ⟨n + 1, rfl, by omega, ((g.trans e4).trans e5).trans e6, ?_⟩
          rw [← eq]
          conv => rhs; unfold dueGo
          rw [if_pos ew, if_neg (of_decide_eq_false hp)]
      · intro hb4 H4 e4
        have ew := of_decide_eq_false hb4
        have e : dueGo 0 l p = some n := by
          rw [← eq]
          unfold dueGo
          rw [if_neg ew]
        rw [e] at q
        refine' B_when (s_or (b := decide (n = l.length)) (Ts.is (s_test (v_op (v_slot rfl) (lenT (g.trans e4)) (bi_eq rfl))) ?el) (fun _ => s_test (v_op (v_slot rfl) (v_slot rfl) bi_0))) ?y5 ?n5
        case el =>
          rw [hR.length]
          exact decide_eq_decide.mpr ⟨fun z => Int.ofNat.inj (V.int.inj z), fun z => by rw [z]⟩
        all_goals intro hb5 H5 e5
        · refine S_ret v_con fun H6 e6 => ?_
          simp only [Bool.or_eq_true, decide_eq_true_eq] at hb5
          have q2 : RV (optV (if n = l.length ∨ m ≤ r then none else some n)) H1 Q := q
          rw [if_pos hb5] at q2
          exact q2 H6 (((g.trans e4).trans e5).trans e6)
        · refine S_ret (v_slot rfl) fun H6 e6 => ?_
          simp only [Bool.or_eq_false_iff, decide_eq_false_iff_not] at hb5
          have q2 : RV (optV (if n = l.length ∨ m ≤ r then none else some n)) H1 Q := q
          rw [if_neg (by omega)] at q2
          exact q2 H6 (((g.trans e4).trans e5).trans e6)
    · have en : n = l.length := by omega
      rw [en, List.drop_length] at eq
      have lenT : ∀ {H2 : Hp}, Gr H1 H2 → Vl (tCB (fLen K) (tCons (tVar 0) tNil)) [some (.ref a), some (.int m), some (.int p), some (.int r), some (.bl false), some (.int (n : Int))] H2 (.int vs.length) := fun g2 => v_len (v_slot rfl) (g2.sl hL)
      refine ⟨false, ?_, fun z => absurd z (by decide), ?_⟩
      · refine s_and (b := false) (c := false) (Ts.is (s_test (v_op (v_slot rfl) (lenT g) bi_0)) ?_) fun z => absurd z (by decide)
        rw [hR.length]
        exact decide_eq_false (by omega)
      · intro _ H4 e4
        have e : dueGo 0 l p = some l.length := eq.symm
        rw [e] at q
        have q2 : RV (optV (if l.length = l.length ∨ m ≤ r then none else some l.length)) H1 Q := q
        rw [if_pos (.inl rfl)] at q2
        refine B_when (b := true) (Ts.is (s_or (b := true) (c := decide (m ≤ r)) (Ts.is (s_test (v_op (v_slot rfl) (lenT (g.trans e4)) (bi_eq rfl))) ?_) fun _ => s_test (v_op (v_slot rfl) (v_slot rfl) bi_0)) rfl) (fun _ H5 e5 => S_ret v_con fun H6 e6 => q2 H6 (((g.trans e4).trans e5).trans e6)) fun z => absurd z (by decide)
        rw [hR.length, en]
        exact decide_eq_true rfl
theorem ok_Line (T : Top K mg) : FnOk P w K mg base CX0 2 T.f_Line T.fd_Line ["_law_script", "_law_patience"] (spLine K) := by
  have GPeople := ok_People (P := P) (w := w) (base := base) T
  have GCell := ok_Cell (P := P) (w := w) (base := base) T
  refine T.F_Line.ok scLine (fun vs H Q E h => ?_) (fun cdv A outer s H vs Q E hr h => ?_)
  · obtain ⟨a, ns, p, rfl, hS, hp0, hp1, q⟩ := h
    rfl
  · obtain ⟨a, ns, p, rfl, hS, hp0, hp1, q⟩ := h
    refine ⟨_, (pss_cons (ps_set (i := 2) scLine.nd rfl (Or.inl rfl) (pe_op op_modN (pe_call GCell hr (by rfl) T.g_Cell T.F_Cell.kp T.B_Cell .nil pass0 (pa_cons (pv 0) (pa_cons pe_int pa_nil))) pe_int))
      (pss_cons (ps_if (pt_cmpR op_eq (pe_op op_modN (pe_op op_fdivN (pe_call GCell hr (by rfl) T.g_Cell T.F_Cell.kp T.B_Cell .nil pass0 (pa_cons (pv 0) (pa_cons pe_int pa_nil))) pe_int) pe_int) pe_int (nomark _))
      (pss_one (ps_set (i := 2) scLine.nd rfl (Or.inl rfl) (pe_op op_add (pv 2) pe_int)))
      pss_nil)
      (pss_cons (ps_set (i := 3) scLine.nd rfl (Or.inl rfl) (pe_call GPeople hr (by rfl) T.g_People T.F_People.kp T.B_People .nil pass0 (pa_cons (pe_call GCell hr (by rfl) T.g_Cell T.F_Cell.kp T.B_Cell .nil pass0 (pa_cons (pv 0) (pa_cons pe_int pa_nil))) (pa_cons (pv 2) pa_nil))))
      (pss_cons (ps_set (i := 4) scLine.nd rfl (Or.inl rfl) (pe_lst pa_nil))
      (pss_cons (ps_for PassesOwn.never rfl (pi_range1 (by rfl) T.m_range (pa_cons (pv 2) pa_nil)) (pg_name (i := 5) scLine.nd rfl (Or.inl rfl))
      (pss_cons (ps_set (i := 6) scLine.nd rfl (Or.inl rfl) (pe_op op_add (pe_call GCell hr (by rfl) T.g_Cell T.F_Cell.kp T.B_Cell .nil pass0 (pa_cons (pv 0) (pa_cons (pe_op op_add pe_int (pe_op op_modN (pv 5) pe_int)) pa_nil))) (pe_op op_mul (pe_op op_fdivN (pv 5) pe_int) (pe_call GCell hr (by rfl) T.g_Cell T.F_Cell.kp T.B_Cell .nil pass0 (pa_cons (pv 0) (pa_cons pe_int pa_nil))))))
      (pss_cons (ps_set (i := 7) scLine.nd rfl (Or.inl rfl) (pe_ix ix_list (pe_lst (pa_cons (pe_callB (call_max2 rfl) (by rfl) T.m_max (by decide +kernel) (pa_cons pe_int (pa_cons (pe_op op_sub (pv 1) pe_int) pa_nil))) (pa_cons (pv 1) (pa_cons (pe_op op_modN (pe_op op_fdivN (pv 6) pe_int) (pe_op op_add (pe_callB (call_min2 rfl) (by rfl) T.m_min (by decide +kernel) (pa_cons (pv 1) (pa_cons pe_int pa_nil))) pe_int)) (pa_cons pe_int pa_nil))))) (pe_op op_modN (pe_op op_fdivN (pv 6) pe_int) pe_int) (fun _ _ => rfl)))
      (pss_cons (ps_if (PW.pt (pw_and (pt_cmpR op_ge (pv 7) (pv 1) (nomark _)) (pw_and1 (pt_cmpR op_ne (pe_op op_modN (pe_op op_add (pe_call GCell hr (by rfl) T.g_Cell T.F_Cell.kp T.B_Cell .nil pass0 (pa_cons (pv 0) (pa_cons pe_int pa_nil))) (pv 5)) pe_int) pe_int (nomark _)))))
      (pss_one (ps_set (i := 7) scLine.nd rfl (Or.inl rfl) (pe_callB (call_max2 rfl) (by rfl) T.m_max (by decide +kernel) (pa_cons pe_int (pa_cons (pe_op op_sub (pv 1) pe_int) pa_nil)))))
      pss_nil)
      (pss_cons (ps_set (i := 8) scLine.nd rfl (Or.inl rfl) pe_str)
      (pss_cons (ps_if (PW.pt (pw_and (pt_cmpR op_eq (pe_op op_modN (pv 6) pe_int) pe_int (nomark _)) (pw_and1 (pt_cmpR op_ge (pv 5) (pe_op op_modN (pe_op op_fdivN (pe_call GCell hr (by rfl) T.g_Cell T.F_Cell.kp T.B_Cell .nil pass0 (pa_cons (pv 0) (pa_cons pe_int pa_nil))) pe_int) pe_int) (nomark _)))))
      (pss_one (ps_set (i := 8) scLine.nd rfl (Or.inl rfl) pe_str))
      pss_nil)
      (pss_one (ps_expr (pe_bm PySem.F.plainAttrs_list PySem.F.slot_list_append PySem.F.type_list_append mt_append (pv 4) (pa_cons (pe_tup (pa_cons (pe_ix ix_list (pv 3) (pv 5) (fun _ _ => rfl)) (pa_cons (pv 8) (pa_cons (pv 7) pa_nil)))) pa_nil))))))))))
      (pss_one (ps_ret (pv 4)))))))), ?_⟩
    refine slots (start_Line _ _) ?_
    have sc : ∀ {H1 : Hp} {i : Int} (k : Nat), i = (k : Int) → Gr H H1 → SpV (spCell K) [.ref a, .int i] H1 (.int (cellAt ns k)) := fun k e g => sv_cell k e (g.sl hS)
    have cl : ∀ {H1 : Hp} {σ : L2.St} {te : TE} {i : Int} {E1 : XK} (k : Nat), i = (k : Int) → Gr H H1 → σ[0]? = some (some (.ref a)) → Vl te σ H1 (.int i) → Vl (tCall (spCell K) [] E1 (tCons (tVar 0) (tCons te tNil))) σ H1 (.int (cellAt ns k)) := fun k e g hs hv => v_call (g_cons (v_slot hs) (g_cons hv g_nil)) (sc k e g)
    have b4 := fmod_in (cellAt ns 4) (m := 12) (by decide)
    refine B_set (v_op (cl 4 rfl (.refl _) rfl v_con) v_con (bi_C (show (12 : Int) ≠ 0 by decide))) fun H1 e1 => ?_
    refine B_whenInt (s_test (v_op (v_op (v_op (cl 4 rfl e1 rfl v_con) v_con (bi_C ⟨by decide, by decide⟩)) v_con (bi_C (show (5 : Int) ≠ 0 by decide))) v_con (bi_eq rfl))) rfl (v_op (v_slot rfl) v_con bi_0) fun H2 e2 => ?_
    obtain ⟨n, en, hn⟩ : ∃ n : Nat, (if decide (V.int (((cellAt ns 4).fdiv 12).fmod 5) = V.int 1) = true then (cellAt ns 4).fmod 12 + 60 else (cellAt ns 4).fmod 12) = (n : Int) ∧ n ≤ 71 := by
      refine ⟨(if decide (V.int (((cellAt ns 4).fdiv 12).fmod 5) = V.int 1) = true then (cellAt ns 4).fmod 12 + 60 else (cellAt ns 4).fmod 12).toNat, ?_, ?_⟩ <;> split <;> omega
    rw [en]
    refine B_setR (r_call (g_cons (cl 5 rfl (e1.trans e2) rfl v_con) (g_cons (v_slot rfl) g_nil)) (sr_people n rfl (by omega))) ?_
    rintro _ H3 e3 ⟨pp, ss, rfl, hpp, hss, ok⟩
    refine B_setL (l_lst g_nil (by decide)) fun pq H4 nq e4 hq => ?_
    have g4 : Gr H H4 := ((e1.trans e2).trans e3).trans e4
    have nqH : H pq = none := ((e1.trans e2).trans e3).free nq
    have npq : pp ≠ pq := ne_of_none hpp nq
    replace hpp := e4.lst hpp
    clear e1 e2 e3 e4
    refine B_for1 (n := (n : Int)) (g_cons (v_slot rfl) g_nil) (by omega) (fun m σ' H' => ∃ xs l y5 y6 y7 y8, σ' = [some (.ref a), some (.int p), some (.int (n : Int)), some (.ref pp), some (.ref pq), y5, y6, y7, y8] ∧ Gr H H' ∧ H' pp = some (.lst (ss.map V.str)) ∧ H' pq = some (.lst xs) ∧ RowsAt H' xs l ∧ l.length = m ∧ ∀ r ∈ l, r.good)
      (fun H5 e5 => ⟨[], [], none, none, none, none, rfl, g4.trans e5, e5.lst hpp, e5.lst hq, .nil, rfl, fun r hr => absurd hr List.not_mem_nil⟩) ?hs ?hd
    case hd =>
      rintro σ' H' ⟨xs, l, y5, y6, y7, y8, rfl, g, _, h1, h2, h3, h4⟩
      exact S_ret (v_slot rfl) fun H6 e6 => q _ H6 (g.trans e6) ⟨pq, xs, l, rfl, e6.lst h1, h2.mono e6, by omega, h4⟩
    case hs =>
      rintro m σ' H' hm ⟨xs, l, y5, y6, y7, y8, rfl, g, hpp, hq, hR, hlen, good⟩
      have lit : ((6 : Int) + ((m : Int)).fmod 12) = (((6 + m % 12 : Nat)) : Int) := by
        rw [Int.fmod_eq_emod_of_nonneg _ (by decide)]
        omega
      have fdv : ((m : Int)).fdiv 12 = ((m / 12 : Nat) : Int) := by
        rw [Int.fdiv_eq_ediv_of_nonneg _ (by decide)]
        rfl
      refine B_set (v_op (cl _ lit g rfl (v_op v_con (v_op (v_slot rfl) v_con (bi_C (show (12 : Int) ≠ 0 by decide))) bi_0)) (v_op (v_op (v_slot rfl) v_con (bi_C ⟨by decide, by decide⟩)) (cl 18 rfl g rfl v_con) (bi_C (.inl (by rw [fdv]; omega)))) bi_0) fun H5 e5 => ?_
      generalize cellAt ns (6 + m % 12) + ((m : Int)).fdiv 12 * cellAt ns 18 = c
      have i4 := fmod_in (c.fdiv 2) (m := 4) (by decide)
      have g5 := g.trans e5
      refine B_setR (R := fun v _ => ∃ o : Int, v = .int o) (r_ix (S := fun v _ => ∃ o : Int, v = .int o) (Ls.toR (l_lst (g_cons (v_max v_con (v_op (v_slot rfl) v_con bi_0)) (g_cons (v_slot rfl) (g_cons (v_op (v_op (v_slot rfl) v_con (bi_C ⟨by decide, by decide⟩)) (v_op (v_min (v_slot rfl) v_con) v_con bi_0) (bi_C (show (if (3 : Int) < p then 3 else p) + 1 ≠ 0 by split <;> omega))) (g_cons v_con g_nil)))) (show 4 ≤ 100000 by decide)))
        (fun _ _ => v_op (v_op (v_slot rfl) v_con (bi_C ⟨by decide, by decide⟩)) v_con (bi_C (show (4 : Int) ≠ 0 by decide))) (fun v H6 g6 hv => ?_) (fun _ h => h)) ?_
      · obtain ⟨p4, ev, hp4⟩ := hv
        refine ⟨p4, _, _, ev, hp4, atI_in .non i4.1 i4.2, ?_⟩
        rcases (by omega : ((c.fdiv 2).fmod 4).toNat = 0 ∨ ((c.fdiv 2).fmod 4).toNat = 1 ∨ ((c.fdiv 2).fmod 4).toNat = 2 ∨ ((c.fdiv 2).fmod 4).toNat = 3) with z | z | z | z <;> (rw [z]; exact ⟨_, rfl⟩)
      rintro _ H6 e6 ⟨o, rfl⟩
      have g6 := g5.trans e6
      refine B_whenInt (s_and (s_test (v_op (v_slot rfl) (v_slot rfl) bi_0)) (fun _ => s_test (v_op (v_op (v_op (cl 19 rfl g6 rfl v_con) (v_slot rfl) bi_0) v_con (bi_C (show (3 : Int) ≠ 0 by decide))) v_con (bi_ne rfl)))) rfl (v_max v_con (v_op (v_slot rfl) v_con bi_0)) fun H7 e7 => ?_
      have g7 := g6.trans e7
      generalize (if (_ && _ : Bool) = true then (if p - 1 > 0 then p - 1 else (0 : Int)) else o) = o2
      refine B_set v_con fun H8 e8 => ?_
      have g8 := g7.trans e8
      refine B_whenSet (b := _) (y := .str wr) (v := .str (if (decide (V.int (c.fmod 2) = V.int 1) && decide (((cellAt ns 19).fdiv 3).fmod 4 ≤ (m : Int))) = true then rd else wr)) (s_and (s_test (v_op (v_op (v_slot rfl) v_con (bi_C (show (2 : Int) ≠ 0 by decide))) v_con (bi_eq rfl))) (fun _ => s_test (v_op (v_slot rfl) (v_op (v_op (cl 19 rfl g8 rfl v_con) v_con (bi_C ⟨by decide, by decide⟩)) v_con (bi_C (show (4 : Int) ≠ 0 by decide))) bi_0))) rfl (fun hb => v_con.is (by rw [if_pos hb])) (fun hb => by rw [if_neg (by rw [hb]; exact Bool.false_ne_true)]) fun H9 e9 => ?_
      have g9 := g8.trans e9
      have e59 := (((e5.trans e6).trans e7).trans e8).trans e9
      have hw : (if (decide (V.int (c.fmod 2) = V.int 1) && decide (((cellAt ns 19).fdiv 3).fmod 4 ≤ (m : Int))) = true then rd else wr) = rd ∨ (if (decide (V.int (c.fmod 2) = V.int 1) && decide (((cellAt ns 19).fdiv 3).fmod 4 ≤ (m : Int))) = true then rd else wr) = wr := by
        split
        · exact .inl rfl
        · exact .inr rfl
      generalize (if (decide (V.int (c.fmod 2) = V.int 1) && decide (((cellAt ns 19).fdiv 3).fmod 4 ≤ (m : Int))) = true then rd else wr) = wi at hw ⊢
      have ml : m < ss.length := by omega
      have hnm : (ss.map V.str)[m]? = some (.str ss[m]) := by
        rw [List.getElem?_map, List.getElem?_eq_getElem ml]
        rfl
      have hxs : xs.length < 100000 := by
        rw [hR.length]
        omega
      refine S_appU (e59.lst hq) (v_slot rfl) (u_tup (g_cons (v_op (v_slot rfl) (v_slot rfl) (bi_ixL (SqL.of (e59.lst hpp)) (atI_nat hnm))) (g_cons (v_slot rfl) (g_cons (v_slot rfl) g_nil))) (show 3 ≤ 100000 by decide)) hxs fun pt H10 nt e10 hpt => ?_
      have e5t := e59.trans e10
      have qt : ∀ ts, H10 pq ≠ some (.tup ts) := fun ts z => by
        rw [e5t.lst hq] at z
        cases z
      refine ⟨_, l ++ [⟨ss[m], wi, o2⟩], _, _, _, _, rfl, ?_, ?_, upd_same, ((hR.mono e5t).chg qt).snoc ?_, by rw [List.length_append, hlen]; rfl, ?_⟩
      · exact (g.trans e5t).chg nqH
      · rw [upd_ne npq]
        exact e5t.lst hpp
      · rw [upd_ne (fun z => qt _ (z ▸ hpt))]
        exact hpt
      · intro r hr
        rcases List.mem_append.mp hr with h | h
        · exact good r h
        · rw [List.mem_singleton.mp h]
          exact ⟨(ok _ (List.getElem_mem ml)).2, hw⟩
theorem ok_Law (T : Top K mg) : FnOk P w K mg base CX0 3 T.f_Law T.fd_Law ["_law_script"] (spLaw K) := by
  have GNum := ok_Num (P := P) (w := w) (base := base) T
  have GLine := ok_Line (P := P) (w := w) (base := base) T
  have GNext := ok_Next (P := P) (w := w) (base := base) T
  have GCell := ok_Cell (P := P) (w := w) (base := base) T
  have GPlace := ok_Place (P := P) (w := w) (base := base) T
  have GDue := ok_Due (P := P) (w := w) (base := base) T
  refine T.F_Law.ok scLaw (fun vs H Q E h => ?_) (fun cdv A outer s H vs Q E hr h => ?_)
  · obtain ⟨a, ns, rfl, hS, hlen, q⟩ := h
    rfl
  · obtain ⟨a, ns, rfl, hS, hlen, q⟩ := h
    refine ⟨_, (pss_cons (ps_set (i := 1) scLaw.nd rfl (Or.inl rfl) (pe_call GNum (hr.mono (by decide)) (by rfl) T.g_Num T.F_Num.kp T.B_Num .nil pass0 (pa_cons (pe_call GCell (hr.mono (by decide)) (by rfl) T.g_Cell T.F_Cell.kp T.B_Cell .nil pass0 (pa_cons (pv 0) (pa_cons pe_int pa_nil))) (pa_cons pe_int pa_nil))))
      (pss_cons (ps_set (i := 2) scLaw.nd rfl (Or.inl rfl) (pe_call GNum (hr.mono (by decide)) (by rfl) T.g_Num T.F_Num.kp T.B_Num .nil pass0 (pa_cons (pe_call GCell (hr.mono (by decide)) (by rfl) T.g_Cell T.F_Cell.kp T.B_Cell .nil pass0 (pa_cons (pv 0) (pa_cons pe_int pa_nil))) (pa_cons pe_int pa_nil))))
      (pss_cons (ps_set (i := 3) scLaw.nd rfl (Or.inl rfl) (pe_op op_modN (pe_op op_fdivN (pe_call GCell (hr.mono (by decide)) (by rfl) T.g_Cell T.F_Cell.kp T.B_Cell .nil pass0 (pa_cons (pv 0) (pa_cons pe_int pa_nil))) pe_int) (pe_op op_add (pv 1) pe_int)))
      (pss_cons (ps_if (pt_cmpR op_eq (pe_op op_modN (pe_call GCell (hr.mono (by decide)) (by rfl) T.g_Cell T.F_Cell.kp T.B_Cell .nil pass0 (pa_cons (pv 0) (pa_cons pe_int pa_nil))) pe_int) pe_int (nomark _))
      (pss_one (ps_set (i := 3) scLaw.nd rfl (Or.inl rfl) (pv 1)))
      pss_nil)
      (pss_cons (ps_if (pt_cmpR op_eq (pe_op op_modN (pe_call GCell (hr.mono (by decide)) (by rfl) T.g_Cell T.F_Cell.kp T.B_Cell .nil pass0 (pa_cons (pv 0) (pa_cons pe_int pa_nil))) pe_int) pe_int (nomark _))
      (pss_one (ps_set (i := 3) scLaw.nd rfl (Or.inl rfl) pe_int))
      pss_nil)
      (pss_cons (ps_if (pt_cmpR op_eq (pe_op op_modN (pe_call GCell (hr.mono (by decide)) (by rfl) T.g_Cell T.F_Cell.kp T.B_Cell .nil pass0 (pa_cons (pv 0) (pa_cons pe_int pa_nil))) pe_int) pe_int (nomark _))
      (pss_one (ps_set (i := 3) scLaw.nd rfl (Or.inl rfl) (pe_callB (call_max2 rfl) (by rfl) T.m_max (by decide +kernel) (pa_cons pe_int (pa_cons (pe_op op_sub (pv 1) pe_int) pa_nil)))))
      pss_nil)
      (pss_cons (ps_set (i := 4) scLaw.nd rfl (Or.inl rfl) (pe_and (pe_cmpR op_eq (pv 3) pe_int (nomark _)) (pe_one (pe_cmpR op_eq (pe_op op_modN (pe_call GCell (hr.mono (by decide)) (by rfl) T.g_Cell T.F_Cell.kp T.B_Cell .nil pass0 (pa_cons (pv 0) (pa_cons pe_int pa_nil))) pe_int) pe_int (nomark _)))))
      (pss_cons (ps_set (i := 5) scLaw.nd rfl (Or.inr rfl) (pe_call GLine hr (by rfl) T.g_Line T.F_Line.kp T.B_Line .nil pass0 (pa_cons (pv 0) (pa_cons (pv 2) pa_nil))))
      (pss_cons (ps_set (i := 6) scLaw.nd rfl (Or.inl rfl) (pe_callTy call_list_of (by rfl) T.m_list (by decide +kernel) (pa_cons (pv 5) pa_nil)))
      (pss_cons (ps_set (i := 7) scLaw.nd rfl (Or.inl rfl) (pe_call GNext hr (by rfl) T.g_Next T.F_Next.kp T.B_Next .nil pass0 (pa_cons (pv 6) (pa_cons (pv 1) (pa_cons (pv 2) (pa_cons (pv 3) (pa_cons (pv 4) pa_nil)))))))
      (pss_cons (ps_if (PW.pt (pw_or (pt_cmpR (op_neD hr.units) (pv 6) (pv 5) (nomark _)) (pw_or1 (pt_not (pt_val (pe_call GPlace hr (by rfl) T.g_Place T.F_Place.kp T.B_Place .nil pass0 (pa_cons (pv 7) (pa_cons (pe_call GDue (hr.mono (by decide)) (by rfl) T.g_Due T.F_Due.kp T.B_Due .nil pass0 (pa_cons (pv 5) (pa_cons (pv 1) (pa_cons (pv 2) (pa_cons (pv 3) (pa_cons (pv 4) pa_nil)))))) pa_nil))))))))
      (pss_one (ps_ret pe_bl))
      pss_nil)
      (pss_cons (ps_setLc (i := 8) (own := [("_law_name", 10)]) rfl scLaw.nd rfl rfl (sw_true rfl rfl rfl (by decide +kernel)) (pi_list (pe_lc (own := [("_law_k", 9)]) rfl scLaw.nd (pi_range1 (by rfl) T.m_range (pa_cons pe_int pa_nil)) (blkOk_by (own := [("_law_k", 9)]) (N := nmLaw) (sc := defScope sLaw) (by decide +kernel)) (fun _ _ _ _ _ => (pg_name (i := 9) scLaw.nd rfl (Or.inl rfl))) (fun _ _ _ _ _ => pts_nil) (fun _ _ _ _ _ => (pe_op op_add_str pe_str (pe_callTy call_str_int (by rfl) T.m_str (by decide +kernel) (pa_cons (pv 9) pa_nil)))))) (blkOk_by (own := [("_law_name", 10)]) (N := nmLaw) (sc := defScope sLaw) (by decide +kernel)) (fun _ _ _ _ _ => (pg_name (i := 10) scLaw.nd rfl (Or.inl rfl))) (fun _ _ _ _ _ => (pts_one (pt_cmpR (r := rIn K true) op_notIn_seq (pv 10) (pe_lc (own := [("_law_one", 11)]) rfl scLaw.nd (show PI _ _ _ (iList K _) from pi_list (pv 5)) (blkOk_by (own := [("_law_one", 11)]) (N := nmLaw) (by rfl)) (fun _ _ _ _ _ => (pg_name (i := 11) scLaw.nd rfl (Or.inl rfl))) (fun _ _ _ _ _ => pts_nil) (fun _ _ _ _ _ => (pe_ix (r := rIxT K) ix_tup (pv 11) pe_int (fun _ _ => rfl)))) (by rfl)))) (fun _ _ _ _ _ => (pv 10)))
      (pss_cons (ps_expr (pe_bm PySem.F.plainAttrs_list PySem.F.slot_list_insert PySem.F.type_list_insert mt_insert (pv 6) (pa_cons pe_int (pa_cons (pe_tup (pa_cons (pe_ix ix_list (pv 8) pe_int (fun _ _ => rfl)) (pa_cons pe_str (pa_cons (pe_callB (call_max2 rfl) (by rfl) T.m_max (by decide +kernel) (pa_cons pe_int (pa_cons (pe_op op_sub (pv 2) pe_int) pa_nil))) pa_nil)))) pa_nil))))
      (pss_cons (ps_set (i := 7) scLaw.nd rfl (Or.inl rfl) (pe_call GNext hr (by rfl) T.g_Next T.F_Next.kp T.B_Next .nil pass0 (pa_cons (pv 6) (pa_cons (pv 1) (pa_cons (pv 2) (pa_cons (pv 3) (pa_cons (pv 4) pa_nil)))))))
      (pss_cons (ps_if (pt_not (pt_val (pe_call GPlace hr (by rfl) T.g_Place T.F_Place.kp T.B_Place .nil pass0 (pa_cons (pv 7) (pa_cons (pe_call GDue (hr.mono (by decide)) (by rfl) T.g_Due T.F_Due.kp T.B_Due .nil pass0 (pa_cons (pv 6) (pa_cons (pv 1) (pa_cons (pv 2) (pa_cons (pv 3) (pa_cons (pv 4) pa_nil)))))) pa_nil)))))
      (pss_one (ps_ret pe_bl))
      pss_nil)
      (pss_cons (ps_expr (pe_bm PySem.F.plainAttrs_list PySem.F.slot_list_pop PySem.F.type_list_pop mt_popAt (pv 6) (pa_cons pe_int pa_nil)))
      (pss_cons (ps_set (i := 7) scLaw.nd rfl (Or.inl rfl) (pe_call GNext hr (by rfl) T.g_Next T.F_Next.kp T.B_Next .nil pass0 (pa_cons (pv 6) (pa_cons (pv 1) (pa_cons (pv 2) (pa_cons (pv 3) (pa_cons (pv 4) pa_nil)))))))
      (pss_one (ps_ret (pe_and (pe_cmpR (op_eqD hr.units) (pv 6) (pv 5) (nomark _)) (pe_one (pe_call GPlace hr (by rfl) T.g_Place T.F_Place.kp T.B_Place .nil pass0 (pa_cons (pv 7) (pa_cons (pe_call GDue (hr.mono (by decide)) (by rfl) T.g_Due T.F_Due.kp T.B_Due .nil pass0 (pa_cons (pv 5) (pa_cons (pv 1) (pa_cons (pv 2) (pa_cons (pv 3) (pa_cons (pv 4) pa_nil)))))) pa_nil)))))))))))))))))))))))), ?_⟩
    refine slots (start_Law _) ?_
    have cl : ∀ {H1 : Hp} {σ : L2.St} {te : TE} {i : Int} {E1 : XK} (k : Nat), i = (k : Int) → Gr H H1 → σ[0]? = some (some (.ref a)) → Vl te σ H1 (.int i) → Vl (tCall (spCell K) [] E1 (tCons (tVar 0) (tCons te tNil))) σ H1 (.int (cellAt ns k)) := fun k e g hs hv => v_call (g_cons (v_slot hs) (g_cons hv g_nil)) (sv_cell k e (g.sl hS))
    have bs := numBy_in (cellAt ns 0) 1 (.inr rfl)
    have bp := numBy_in (cellAt ns 1) 0 (.inl rfl)
    refine B_set (v_call (g_cons (cl 0 rfl (.refl _) rfl v_con) (g_cons v_con g_nil)) (sv_num (.inr rfl))) fun H1 e1 => ?_
    walk_at "n"
    refine B_set (v_call (g_cons (cl 1 rfl e1 rfl v_con) (g_cons v_con g_nil)) (sv_num (.inl rfl))) fun H2 e2 => ?_
    walk_at "n"
    have g2 := e1.trans e2
    generalize numBy (cellAt ns 0) 1 = st at bs ⊢
    generalize numBy (cellAt ns 1) 0 = pt at bp ⊢
    have b0 := fmod_in ((cellAt ns 2).fdiv 4) (m := st + 1) (by omega)
    refine B_set (v_op (v_op (cl 2 rfl g2 rfl v_con) v_con (bi_C ⟨by decide, by decide⟩)) (v_op (v_slot rfl) v_con bi_0) (bi_C (show st + 1 ≠ 0 by omega))) fun H3 e3 => ?_
    walk_at "n"
    have g3 := g2.trans e3
    refine B_whenInt (s_test (v_op (v_op (cl 2 rfl g3 rfl v_con) v_con (bi_C (show (4 : Int) ≠ 0 by decide))) v_con (bi_eq rfl))) rfl (v_slot rfl) fun H4 e4 => ?_
    walk_at "n"
    have g4 := g3.trans e4
    refine B_whenInt (s_test (v_op (v_op (cl 2 rfl g4 rfl v_con) v_con (bi_C (show (4 : Int) ≠ 0 by decide))) v_con (bi_eq rfl))) rfl v_con fun H5 e5 => ?_
    walk_at "n"
    have g5 := g4.trans e5
    refine B_whenInt (s_test (v_op (v_op (cl 2 rfl g5 rfl v_con) v_con (bi_C (show (4 : Int) ≠ 0 by decide))) v_con (bi_eq rfl))) rfl (v_max v_con (v_op (v_slot rfl) v_con bi_0)) fun H6 e6 => ?_
    walk_at "n"
    have g6 := g5.trans e6
    obtain ⟨re, er, hre⟩ : ∃ re : Int, (if decide (V.int ((cellAt ns 2).fmod 4) = V.int 3) = true then (if st - 1 > 1 then st - 1 else 1) else if decide (V.int ((cellAt ns 2).fmod 4) = V.int 2) = true then 0 else if decide (V.int ((cellAt ns 2).fmod 4) = V.int 1) = true then st else ((cellAt ns 2).fdiv 4).fmod (st + 1)) = re ∧ 0 ≤ re := by
      refine ⟨_, rfl, ?_⟩
      split
      · split <;> omega
      · split
        · omega
        · split <;> omega
    rw [er]
    refine B_set (v_and (v_op (v_slot rfl) v_con (bi_eq rfl)) (fun _ => v_op (v_op (cl 3 rfl g6 rfl v_con) v_con (bi_C (show (2 : Int) ≠ 0 by decide))) v_con (bi_eq rfl))) fun H7 e7 => ?_
    walk_at "n"
    have g7 := g6.trans e7
    generalize (decide (V.int re = V.int 0) && decide (V.int ((cellAt ns 3).fmod 2) = V.int 1)) = wb
    -- the line
    refine B_setR (r_call (g_cons (v_slot rfl) (g_cons (v_slot rfl) g_nil)) fun Ha Qa Ea ga qa => ⟨a, ns, pt, rfl, (g7.trans ga).sl hS, bp.1, bp.2, qa⟩) ?_
    rintro _ H8 e8 ⟨lq, xs, l, rfl, hq, hR, hl71, good⟩
    walk_at "n"
    clear e1 e2 e3 e4 e5 e6 e7 e8 g2 g3 g4 g5 g6 g7 er b0 cl hS
    have hwish : ∀ r ∈ l, r.wish = rd ∨ r.wish = wr := fun r hr => (good r hr).2
    have sh := shaped_rows l good
    have due_l := next_due l st pt re wb hwish hre
    -- handed
    refine B_setL (l_list (v_slot rfl) (SqL.of hq)) fun lh H9 nh e9 hh => ?_
    walk_at "n"
    have nqh : lq ≠ lh := ne_of_none hq nh
    replace hq := e9.lst hq
    replace hR := hR.mono e9
    clear e9 nh H8
    have spN : ∀ {H1 : Hp} {ar : Addr} {ys : List V} {rows : List Row}, H1 ar = some (.lst ys) → RowsAt H1 ys rows → rows.length ≤ 1000 → (∀ r ∈ rows, r.good) → SpV (spNext K) [.ref ar, .int st, .int pt, .int re, .bl wb] H1 (optV (nextP rows st pt re wb)) := fun h1 h2 h3 h4 Hb Qb Eb gb qb => ⟨_, _, _, _, _, _, _, rfl, SqL.of (gb.lst h1), h2.mono gb, h3, h4, qb⟩
    have spD : ∀ {H1 : Hp} {ar : Addr} {ys : List V} {rows : List Row}, H1 ar = some (.lst ys) → RowsAt H1 ys rows → rows.length ≤ 1000 → (∀ r ∈ rows, r.good) → SpV (spDue K) [.ref ar, .int st, .int pt, .int re, .bl wb] H1 (optV (due rows st pt re wb)) := fun h1 h2 h3 h4 Hb Qb Eb gb qb => ⟨_, _, _, _, _, _, _, rfl, SqL.of (gb.lst h1), h2.mono gb, h3, h4, qb⟩
    have spP : ∀ {H1 : Hp} {o d : Option Nat}, SpV spPlace [optV o, optV d] H1 (.bl (decide (o = d))) := fun Hb Qb Eb gb qb => ⟨_, _, rfl, qb⟩
    have five : ∀ {H1 : Hp} {σ : L2.St} {j : Nat} {v : V}, σ[j]? = some (some v) → σ[1]? = some (some (.int st)) → σ[2]? = some (some (.int pt)) → σ[3]? = some (some (.int re)) → σ[4]? = some (some (.bl wb)) → Ag (tCons (tVar j) (tCons (tVar 1) (tCons (tVar 2) (tCons (tVar 3) (tCons (tVar 4) tNil))))) σ H1 [v, .int st, .int pt, .int re, .bl wb] := fun h0 h1 h2 h3 h4 => g_cons (v_slot h0) (g_cons (v_slot h1) (g_cons (v_slot h2) (g_cons (v_slot h3) (g_cons (v_slot h4) g_nil))))
    refine B_set (v_call (five rfl rfl rfl rfl rfl) (spN hh hR (by omega) good)) fun H10 e10 => ?_
    walk_at "n"
    replace hq := e10.lst hq
    replace hh := e10.lst hh
    replace hR := hR.mono e10
    clear e10 H9
    have dD := @spD H10 lq xs l hq hR (by omega) good
    refine' B_when (b := false) (s_or (b := false) (c := false) ?ne1 (fun _ => ?pl1)) (fun z => absurd z Bool.false_ne_true) (fun _ H11 e11 => ?_)
    case ne1 =>
      exact Ts.is (s_test (v_op (v_slot rfl) (v_slot rfl) (bi_neD (.lst (SqL.of hh) hR.dps) (.lst (SqL.of hq) hR.dps) sh sh))) (by rw [eqv_self sh]; rfl)
    case pl1 =>
      refine Ts.is (s_not (s_B (v_call (g_cons (v_slot rfl) (g_cons (v_call (five rfl rfl rfl rfl rfl) dD) g_nil)) spP))) ?_
      rw [due_l, decide_eq_true rfl]
      rfl
    replace hq := e11.lst hq
    replace hh := e11.lst hh
    replace hR := hR.mono e11
    clear dD e11 H10
    -- fresh names
    refine' B_setL (l_cmpN (fun m => !decide (wN m ∈ l.map (·.name))) (fun m => .str (wN m)) (l_cmp1 (fun _ => true) (fun m => .str (wN m)) (g_cons v_con g_nil) (by decide) (fun _ => rfl) (fun _ _ _ _ => s_yes) ?hwn) ?len (fun _ => rfl) ?ht ?he) ?k
    case len => exact Nat.le_trans (out_le _ _ _) (by decide)
    case hwn =>
      intro m H12 _ hm _
      dsimp only [wipe, List.map, List.set]
      have lm := (num_text m (by omega)).1
      have e : (Str.ofString "w").length = 1 := by decide +kernel
      exact Vl.is (v_op v_con (v_str (v_slot rfl) (num_small (by omega))) (bi_cat (by omega))) (wN_is m)
    case he =>
      intro m x H12 _ hx _
      rw [out_all hx]
      dsimp only [wipe, List.map, List.set]
      exact v_slot rfl
    case ht =>
      intro m x H12 g12 hx
      rw [out_all hx]
      dsimp only [wipe, List.map, List.set]
      have hq12 := g12.lst hq
      have nml : (l.map (·.name)).length = xs.length := by rw [List.length_map, hR.length]
      have eo : out xs.length (fun _ => true) (fun k => V.str ((l.map (·.name)).getD k (Str.ofString ""))) = (l.map (·.name)).map V.str := by rw [← nml, out_names]
      refine' s_test ?tt
      refine' Vl.is (v_opN (xs := (l.map (·.name)).map V.str) (v_slot rfl) ?inner (fun p H13 h13 _ => bi_inL (SqL.of h13) rfl ?flat)) ?val
      case flat =>
        rw [List.all_eq_true]
        intro v hv
        obtain ⟨z, _, rfl⟩ := List.mem_map.mp hv
        rfl
      case val => rw [if_pos rfl, inV_strs]
      case inner =>
        refine' Ls.is (l_cmpL (xs := xs) (fun _ => true) (fun k => .str ((l.map (·.name)).getD k (Str.ofString ""))) (v_slot rfl) (SqL.of hq12) (by rw [hR.length]; omega) (fun _ => rfl) (fun _ _ _ _ _ => s_yes) ?_) eo
        intro k x2 H13 g13 hx2 _
        dsimp only [wipe, List.map, List.set]
        have kl : k < l.length := by
          have := (List.getElem?_eq_some_iff.mp hx2).1
          rw [hR.length] at this
          exact this
        obtain ⟨pk, ek, hpk⟩ := hR.get k (List.getElem?_eq_getElem kl)
        rw [hx2] at ek
        cases ek
        have en : (l.map (·.name)).getD k (Str.ofString "") = l[k].name := by
          rw [List.getD_eq_getElem?_getD, List.getElem?_map, List.getElem?_eq_getElem kl]
          rfl
        rw [en]
        exact v_op (v_slot rfl) v_con (bi_ixT (SqT.of ((g12.trans g13).tup hpk)) rfl)
    intro lf H12 nf e12 hf
    walk_at "n"
    replace hq := e12.lst hq
    replace hh := e12.lst hh
    replace hR := hR.mono e12
    clear e12 nf H11
    have len80 : (out (80 : Int).toNat (fun _ => true) fun m => V.str (wN m)).length = 80 := by
      unfold out
      rw [List.filter_eq_self.mpr (fun _ _ => rfl), List.length_map, List.length_range]
      rfl
    rw [len80] at hf
    obtain ⟨z, hz, az, _⟩ := fresh_one (l.map (·.name)) (by rw [List.length_map]; omega)
    -- one more ahead
    have hx100 : xs.length < 100000 := by
      rw [hR.length]
      omega
    refine B_ins0U hh (v_slot rfl) (u_tup (g_cons (v_op (v_slot rfl) v_con (bi_ixL (SqL.of hf) hz)) (g_cons v_con (g_cons (v_max v_con (v_op (v_slot rfl) v_con bi_0)) g_nil))) (show 3 ≤ 100000 by decide)) hx100 fun ptu H13 nt e13 htu => ?_
    walk_at "n"
    have nlh : ∀ ts, H13 lh ≠ some (.tup ts) := fun ts w => by
      rw [e13.lst hh] at w
      cases w
    replace hq : (upd H13 lh (.lst (.ref ptu :: xs))) lq = some (.lst xs) := (upd_ne nqh).trans (e13.lst hq)
    have hR2 := (hR.mono e13).chg (o := .lst (.ref ptu :: xs)) nlh
    have nptu : ptu ≠ lh := fun w => nlh _ (by rw [← w]; exact htu)
    have htu2 : (upd H13 lh (.lst (.ref ptu :: xs))) ptu = _ := (upd_ne nptu).trans htu
    have hh2 : (upd H13 lh (.lst (.ref ptu :: xs))) lh = some (.lst (.ref ptu :: xs)) := upd_same
    clear hh hR e13 nt nlh htu
    generalize upd H13 lh (.lst (.ref ptu :: xs)) = Hm at hq hR2 htu2 hh2 ⊢
    generalize (if pt - 1 > 0 then pt - 1 else (0 : Int)) = of at htu2
    have good2 : ∀ r ∈ (⟨z, wr, of⟩ : Row) :: l, r.good := by
      intro r hr
      rcases List.mem_cons.mp hr with h | h
      · rw [h]
        exact ⟨az, .inr rfl⟩
      · exact good r h
    have hR3 : RowsAt Hm (.ref ptu :: xs) ((⟨z, wr, of⟩ : Row) :: l) := .cons htu2 hR2
    have due_2 := next_due ((⟨z, wr, of⟩ : Row) :: l) st pt re wb (fun r hr => (good2 r hr).2) hre
    have len2 : ((⟨z, wr, of⟩ : Row) :: l).length ≤ 1000 := by
      rw [List.length_cons]
      omega
    refine B_set (v_call (five rfl rfl rfl rfl rfl) (spN hh2 hR3 len2 good2)) fun H14 e14 => ?_
    walk_at "n"
    replace hq := e14.lst hq
    replace hh2 := e14.lst hh2
    replace hR3 := hR3.mono e14
    replace hR2 := hR2.mono e14
    clear e14 htu2 H13
    have dD2 := @spD H14 lh _ _ hh2 hR3 len2 good2
    refine' B_when (b := false) ?pl2 (fun z => absurd z Bool.false_ne_true) (fun _ H15 e15 => ?_)
    case pl2 =>
      refine Ts.is (s_not (s_B (v_call (g_cons (v_slot rfl) (g_cons (v_call (five rfl rfl rfl rfl rfl) dD2) g_nil)) spP))) ?_
      rw [due_2, decide_eq_true rfl]
      rfl
    replace hq := e15.lst hq
    replace hh2 := e15.lst hh2
    replace hR2 := hR2.mono e15
    clear dD2 e15 hR3 H14
    refine B_pop0 hh2 (v_slot rfl) fun H16 e16 => ?_
    walk_at "n"
    have nlh : ∀ ts, H16 lh ≠ some (.tup ts) := fun ts w => by
      rw [e16.lst hh2] at w
      cases w
    replace hq : (upd H16 lh (.lst xs)) lq = some (.lst xs) := (upd_ne nqh).trans (e16.lst hq)
    replace hR2 := (hR2.mono e16).chg (o := .lst xs) nlh
    have hh3 : upd H16 lh (.lst xs) lh = some (.lst xs) := upd_same
    clear hh2 e16 nlh
    generalize upd H16 lh (.lst xs) = Hn at hq hR2 hh3 ⊢
    refine B_set (v_call (five rfl rfl rfl rfl rfl) (spN hh3 hR2 (by omega) good)) fun H17 e17 => ?_
    walk_at "n"
    replace hq := e17.lst hq
    replace hh3 := e17.lst hh3
    replace hR2 := hR2.mono e17
    have dD3 := @spD H17 lq xs l hq hR2 (by omega) good
    refine' S_ret (v_and (b := true) (c := true) ?eq3 (fun _ => ?pl3)) (fun H18 e18 => q _)
    case eq3 =>
      exact Vl.is (v_op (v_slot rfl) (v_slot rfl) (bi_eqD (.lst (SqL.of hh3) hR2.dps) (.lst (SqL.of hq) hR2.dps) sh sh)) (by rw [eqv_self sh])
    case pl3 =>
      refine Vl.is (v_call (g_cons (v_slot rfl) (g_cons (v_call (five rfl rfl rfl rfl rfl) dD3) g_nil)) spP) ?_
      rw [due_l, decide_eq_true rfl]
end
def dCan : He.DefD := ⟨("can_begin", none), "can_begin", "can_begin", defArgs sCan, defBody sCan, defScope sCan, [], []⟩
def dFirst : He.DefD := ⟨("first_reader", none), "first_reader", "first_reader", defArgs sFirst, defBody sFirst, defScope sFirst, [], []⟩
def dNext : He.DefD := ⟨("next_place", none), "next_place", "next_place", defArgs sNext, defBody sNext, defScope sNext, [], []⟩
def dCell : He.DefD := ⟨("_law_cell_at", none), "_law_cell_at", "_law_cell_at", defArgs sCell, defBody sCell, defScope sCell, [], []⟩
def dWhole : He.DefD := ⟨("_law_whole", none), "_law_whole", "_law_whole", defArgs sWhole, defBody sWhole, defScope sWhole, [], []⟩
def dNum : He.DefD := ⟨("_law_number_by", none), "_law_number_by", "_law_number_by", defArgs sNum, defBody sNum, defScope sNum, [], []⟩
def dPeople : He.DefD := ⟨("_law_people", none), "_law_people", "_law_people", defArgs sPeople, defBody sPeople, defScope sPeople, [], []⟩
def dLine : He.DefD := ⟨("_law_line_by", none), "_law_line_by", "_law_line_by", defArgs sLine, defBody sLine, defScope sLine, [], []⟩
def dDue : He.DefD := ⟨("_law_due", none), "_law_due", "_law_due", defArgs sDue, defBody sDue, defScope sDue, [], []⟩
def dPlace : He.DefD := ⟨("_law_place", none), "_law_place", "_law_place", defArgs sPlace, defBody sPlace, defScope sPlace, [], []⟩
def dLaw : He.DefD := ⟨("law", none), "law", "law", defArgs sLaw, defBody sLaw, defScope sLaw, [], []⟩
def fns : List He.DefD := [dCan, dFirst, dNext, dCell, dWhole, dNum, dPeople, dLine, dDue, dPlace, dLaw]
def fas : List He.Fa := [.glo "can_begin", .glo "first_reader", .glo "next_place", .glo "_law_cell_at", .glo "_law_whole", .glo "_law_number_by", .glo "_law_people", .glo "_law_line_by", .glo "_law_due", .glo "_law_place", .glo "law", .free "bool", .free "enumerate", .free "int", .free "isinstance", .free "len", .free "list", .free "max", .free "min", .free "range", .free "str", .str "READ" "read", .str "WRITE" "write"]
def tfs : List He.Defn := []
abbrev Rw : PySem.W.OpenRow := PySem.W.OpenLaw.row PySem.Challenge.rw_readwriteroom_k02_next_place
abbrev hk : PySem.W.Hook := He.hookX 6 fas fns [] tfs (fun _ => true)
def ob (s : PySem.W.SharedT) : He.AlX := He.obsX 6 fas fns [] tfs (fun _ => true) (HandSHeadRun.getT s)
theorem ob_is (s : PySem.W.SharedT) : ob s = hk.obs s.abs := He.obsX_eq (HandSHeadRun.getT_eq s)
def loose : List PySem.Str := ["READ", "WRITE", "can_begin", "first_reader", "next_place", "_law_cell_at", "_law_whole", "_law_number_by", "_law_people", "_law_line_by", "_law_due", "_law_place"]
set_option maxHeartbeats 0 in
theorem run (w : World) : HandSHeadRun.RunEq Rw (PySem.W.view Rw.prog [14]) hk ob 3000 loose w := by
  intro os
  kernel_rfl
theorem fun_of {K : PySem.W.Frag} {x z : Str} {st : Stmt} {f : Addr} {fd : FuncData} (F : L2.FunD K x z (defArgs st) (defBody st) (defScope st) [] [] f fd) : Fun K x z st f fd := by
  obtain ⟨oc, od, dV, kV, doc, pm, an, cdv, ct, osl, e, lk, hcd, hD, _⟩ := F.ex
  rcases hD with ⟨_, rfl⟩ | ⟨n, _⟩
  · exact ⟨⟨oc, od, kV, doc, pm, an, cdv, ct, osl, e, lk, hcd⟩, F.kp⟩
  · exact absurd rfl n
theorem code_is {K : PySem.W.Frag} {x z : Str} {st : Stmt} {p : He.Defn} {fd : FuncData} (F : Fun K x z st (He.fAd K p) fd) : fd.code = .ref (He.codeOf K p) := by
  obtain ⟨oc, od, kV, doc, pm, an, cdv, ct, osl, rfl, lk, hcd⟩ := F.ex
  obtain ⟨c, rfl⟩ := He.codeIn_ref hcd
  rw [He.codeOf_eq lk rfl]
theorem tab_is {base : Heap} {mg : Str → Option Value} {p : Addr × Addr} (h : LamX.TabB base mg p.1 p.2) : GxR.TabB base mg p.1 p.2 := ⟨h.code, h.bm, h.gP⟩
theorem facts {P : Program} {w : World} {K : PySem.W.Frag} {h : Heap} {mg : Str → Option Value} {fa : Addr} (X : K.In h) (G : h.Ns mainGlobals mg) (hfa : mg "law" = some (.ref fa)) (c : He.SaysX fas fns [] tfs (fun _ => true) w h K) :
    ∃ (T : Top K mg), T.f_Law = fa ∧ (∀ (s : Shared) (v : Value), BindsTo s T.fd_Law ⟨[v], []⟩ [("_law_script", v)]) := by
  obtain ⟨fd0, D0⟩ := c.t.d.def_ 0 (d := dCan) rfl
  have F0 : Fun K "can_begin" "can_begin" sCan (He.fAd K ("can_begin", none)) fd0 := fun_of D0
  have b0 := F0.binds (ps := ["seats", "reading", "writes", "wish"]) fun _ _ _ _ _ _ us hl => match us, hl with | [_, _, _, _], _ => rfl
  obtain ⟨fd1, D1⟩ := c.t.d.def_ 1 (d := dFirst) rfl
  have F1 : Fun K "first_reader" "first_reader" sFirst (He.fAd K ("first_reader", none)) fd1 := fun_of D1
  have b1 := F1.binds (ps := ["line", "patience"]) fun _ _ _ _ _ _ us hl => match us, hl with | [_, _], _ => rfl
  obtain ⟨fd2, D2⟩ := c.t.d.def_ 2 (d := dNext) rfl
  have F2 : Fun K "next_place" "next_place" sNext (He.fAd K ("next_place", none)) fd2 := fun_of D2
  have b2 := F2.binds (ps := ["line", "seats", "patience", "reading", "writes"]) fun _ _ _ _ _ _ us hl => match us, hl with | [_, _, _, _, _], _ => rfl
  obtain ⟨fd3, D3⟩ := c.t.d.def_ 3 (d := dCell) rfl
  have F3 : Fun K "_law_cell_at" "_law_cell_at" sCell (He.fAd K ("_law_cell_at", none)) fd3 := fun_of D3
  have b3 := F3.binds (ps := ["_law_script", "_law_k"]) fun _ _ _ _ _ _ us hl => match us, hl with | [_, _], _ => rfl
  obtain ⟨fd4, D4⟩ := c.t.d.def_ 4 (d := dWhole) rfl
  have F4 : Fun K "_law_whole" "_law_whole" sWhole (He.fAd K ("_law_whole", none)) fd4 := fun_of D4
  have b4 := F4.binds (ps := ["_law_found"]) fun _ _ _ _ _ _ us hl => match us, hl with | [_], _ => rfl
  obtain ⟨fd5, D5⟩ := c.t.d.def_ 5 (d := dNum) rfl
  have F5 : Fun K "_law_number_by" "_law_number_by" sNum (He.fAd K ("_law_number_by", none)) fd5 := fun_of D5
  have b5 := F5.binds (ps := ["_law_cell", "_law_least"]) fun _ _ _ _ _ _ us hl => match us, hl with | [_, _], _ => rfl
  obtain ⟨fd6, D6⟩ := c.t.d.def_ 6 (d := dPeople) rfl
  have F6 : Fun K "_law_people" "_law_people" sPeople (He.fAd K ("_law_people", none)) fd6 := fun_of D6
  have b6 := F6.binds (ps := ["_law_cell", "_law_many"]) fun _ _ _ _ _ _ us hl => match us, hl with | [_, _], _ => rfl
  obtain ⟨fd7, D7⟩ := c.t.d.def_ 7 (d := dLine) rfl
  have F7 : Fun K "_law_line_by" "_law_line_by" sLine (He.fAd K ("_law_line_by", none)) fd7 := fun_of D7
  have b7 := F7.binds (ps := ["_law_script", "_law_patience"]) fun _ _ _ _ _ _ us hl => match us, hl with | [_, _], _ => rfl
  obtain ⟨fd8, D8⟩ := c.t.d.def_ 8 (d := dDue) rfl
  have F8 : Fun K "_law_due" "_law_due" sDue (He.fAd K ("_law_due", none)) fd8 := fun_of D8
  have b8 := F8.binds (ps := ["_law_line", "_law_seats", "_law_patience", "_law_reading", "_law_writes"]) fun _ _ _ _ _ _ us hl => match us, hl with | [_, _, _, _, _], _ => rfl
  obtain ⟨fd9, D9⟩ := c.t.d.def_ 9 (d := dPlace) rfl
  have F9 : Fun K "_law_place" "_law_place" sPlace (He.fAd K ("_law_place", none)) fd9 := fun_of D9
  have b9 := F9.binds (ps := ["_law_found", "_law_due_here"]) fun _ _ _ _ _ _ us hl => match us, hl with | [_, _], _ => rfl
  obtain ⟨fd10, D10⟩ := c.t.d.def_ 10 (d := dLaw) rfl
  have F10 : Fun K "law" "law" sLaw (He.fAd K ("law", none)) fd10 := fun_of D10
  have b10 := F10.binds (ps := ["_law_script"]) fun _ _ _ _ _ _ us hl => match us, hl with | [_], _ => rfl
  obtain ⟨t_READ, y_READ⟩ := He.str_ok X G (c.t.d.fact 21 (f := .str "READ" "read") rfl)
  obtain ⟨t_WRITE, y_WRITE⟩ := He.str_ok X G (c.t.d.fact 22 (f := .str "WRITE" "write") rfl)
  have e := hfa.symm.trans (He.glo_ok X G (c.t.d.fact 10 (f := .glo "law") rfl))
  have b := FunD.bindsA (ps := ["_law_script"]) D10 fun _ _ _ _ _ _ us hl => match us, hl with | [_], _ => rfl
  exact ⟨⟨_, fd0, F0, b0, He.glo_ok X G (c.t.d.fact 0 (f := .glo "can_begin") rfl), _, fd1, F1, b1, He.glo_ok X G (c.t.d.fact 1 (f := .glo "first_reader") rfl), _, fd2, F2, b2, He.glo_ok X G (c.t.d.fact 2 (f := .glo "next_place") rfl), _, fd3, F3, b3, He.glo_ok X G (c.t.d.fact 3 (f := .glo "_law_cell_at") rfl), _, fd4, F4, b4, He.glo_ok X G (c.t.d.fact 4 (f := .glo "_law_whole") rfl), _, fd5, F5, b5, He.glo_ok X G (c.t.d.fact 5 (f := .glo "_law_number_by") rfl), _, fd6, F6, b6, He.glo_ok X G (c.t.d.fact 6 (f := .glo "_law_people") rfl), _, fd7, F7, b7, He.glo_ok X G (c.t.d.fact 7 (f := .glo "_law_line_by") rfl), _, fd8, F8, b8, He.glo_ok X G (c.t.d.fact 8 (f := .glo "_law_due") rfl), _, fd9, F9, b9, He.glo_ok X G (c.t.d.fact 9 (f := .glo "_law_place") rfl), _, fd10, F10, b10, He.glo_ok X G (c.t.d.fact 10 (f := .glo "law") rfl), He.free_ok X G (c.t.d.fact 11 (f := .free "bool") rfl), He.free_ok X G (c.t.d.fact 12 (f := .free "enumerate") rfl), He.free_ok X G (c.t.d.fact 13 (f := .free "int") rfl), He.free_ok X G (c.t.d.fact 14 (f := .free "isinstance") rfl), He.free_ok X G (c.t.d.fact 15 (f := .free "len") rfl), He.free_ok X G (c.t.d.fact 16 (f := .free "list") rfl), He.free_ok X G (c.t.d.fact 17 (f := .free "max") rfl), He.free_ok X G (c.t.d.fact 18 (f := .free "min") rfl), He.free_ok X G (c.t.d.fact 19 (f := .free "range") rfl), He.free_ok X G (c.t.d.fact 20 (f := .free "str") rfl), t_READ, y_READ, t_WRITE, y_WRITE⟩, (Value.ref.inj (Option.some.inj e)).symm, fun s v => b s [v] rfl⟩
end RR
open PySem PySem.W PySem.Calls PyProof.Rows in
set_option maxHeartbeats 0 in
theorem PySem.Challenge.cw_readwriteroom_k02_next_place_holds : PySem.Challenge.rw_readwriteroom_k02_next_place.Holds := by
  w_on; o_law
  refine HandSHeadRun.head_any (r := RR.Rw) (q := view (RR.Rw).prog [14]) (H := RR.hk) (ob := RR.ob) (M := 3000) (loose := RR.loose) (d := HandSHeadRun.topDef (RR.Rw).prog 14) (kwd := []) RR.ob_is
    (by kernel_rfl) (fun s => by kernel_rfl) RR.run (by kernel_rfl) (by kernel_rfl) (by kernel_rfl) (by rfl) (by first | assumption | decide +kernel) (by decide +kernel) ⟨rfl, rfl, rfl, rfl, rfl, by decide +kernel⟩ ?hw ?hc
  case hw => w_witness2
  case hc =>
    refine LamX.walk_ofTsE (l := PySem.Challenge.rw_readwriteroom_k02_next_place) (n := 63) (k := 3) (x := "_law_script") (CX := fun _ => L2.CX0) rfl (by decide) (by kernel_rfl) ⟨rfl, by decide, by decide⟩ ?F (fun _ _ _ _ _ z => z)
    intro w mg fa h Y G hmg0
    obtain ⟨K, KX, c⟩ := Y
    have hmg : mg ("law" : PySem.Str) = some (.ref fa) := by
      have e : (HandSHeadRun.topDef (RR.Rw).prog 14).name = ("law" : PySem.Str) := by kernel_rfl
      rw [← e]
      exact hmg0
    obtain ⟨T, rfl, hb⟩ := RR.facts (P := (PySem.Challenge.rw_readwriteroom_k02_next_place).prog) (w := w) KX G hmg c
    have mem : ∀ p ∈ ([] : List (Addr × Addr)), ∃ z ∈ RR.tfs, p = He.cT K z := by
      intro p hp
      exact absurd hp List.not_mem_nil
    refine ⟨K, KX, T.fd_Law, [], RR.spLaw K, fun p hp => ?_, fun p hp => ?_, fun p hp => ?_, hb, fun H a ns hl _ hT hS => ?_, fun base _ _ TB => ?_⟩
    · obtain ⟨z, hz, rfl⟩ := mem p hp
      exact c.empty z hz
    · obtain ⟨z, hz, rfl⟩ := mem p hp
      exact c.out z hz
    · obtain ⟨z, hz, rfl⟩ := mem p hp
      exact codeHd_of_K KX (c.hd z hz)
    · exact RR.law_pre T H a ns hl hS (fun p hp => ⟨#[], hT p hp, trivial⟩)
    · exact RR.ok_Law T

