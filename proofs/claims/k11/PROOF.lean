import PyProof.Rows.All
import HandS.ForMost
import HandS.ExcInit
import HandS.ExcField
import HandS.ExcValue
import HandS.ExcIs
import HandS.FStr
import HandS.ClsMeth
import HandS.Ends
import PyProof.ReprRoads
import KE.KExcIs
import KE.KIsAll
import HandS.HeadHook4
import HandS.HeadWalk
import HandS.Head2
import HandS.AnyAll
import HandS.StrMore
import HandS.IsInst
import HandS.More
import HandS.Flow
import HandS.Style
import HandS.WideBits
import HandS.Text
import HandS.TupLe
import HandS.Star
import HandS.CallLocal
import KE.DatumOrd
import PyProof.ReprBulk
import HandS.Walk
import HandS.NoneIn
import HandS.Conv
import HandS.DictComp
import HandS.Finally
import PySem.Challenge.RW_bitneed_k11_whole_facts_of_each_expr
set_option Elab.async false
set_option linter.all false
set_option maxRecDepth 100000
set_option maxHeartbeats 2000000
namespace K11
open PySem PySem.Spec PyProof.Rows L2
/-! ### the text -/
def top (i : Nat) : Stmt := PySem.Challenge.pw_bitneed_k11_whole_facts_of_each_expr.main.body.getD i (.Pass ⟨0, 0, 0, 0⟩)
abbrev FnP (K : PySem.W.Frag) (x : PySem.Str) (st : Stmt) (f : Addr) (fd : FuncData) : Prop := FunD K x x (defArgs st) (defBody st) (defScope st) [] [] f fd
/-! ### rules of our own -/
section
variable {X : Cx}
/-- a list that is only read, and a new one behind it -/
theorem op_catR : OpR X (binaryOp .Add) (fun x y H Q => ∃ l b xs zs, x = .ref l ∧ y = .ref b ∧ SqL X.K H l xs ∧ H b = some (.lst zs) ∧ xs.length + zs.length ≤ sizeLine ∧ ∀ p, H p = none → Q (.ref p) (upd H p (.lst (xs ++ zs)))) := by
  intro pins s σ H x y v u Q I rx ry h
  obtain ⟨l, b, xs, zs, rfl, rfl, hs, hB, hz, q⟩ := h
  cases rx
  cases ry
  obtain ⟨its, rv, ⟨o, n, ho, hc, hdn, hd⟩, hlen⟩ := I.list hs
  obtain ⟨cls, dd, data, sl⟩ := o
  obtain rfl : cls = Value.type "list" := hc
  obtain rfl : data = Data.seq its.toArray n := hd
  obtain ⟨z2, its2, n2, r2, hl2, e2⟩ := I.lstM hB
  have hl := rv.length
  have ea : its.toArray ++ its2.toArray = (its ++ its2).toArray := by simp
  refine concat_meets ⟨_, ho, rfl⟩ ⟨_, e2, rfl⟩ noFill_list_add seq_list_add PySem.F.slot_list_add PySem.F.entry_list_add (PySem.F.args_list_add_2 _ _)
    (list_addW l b its.toArray its2.toArray n n2 dd none sl #[] (by rw [List.size_toArray, List.size_toArray, ← hl, ← hl2]; exact hz)) ⟨ho, e2, ?_⟩
  rw [ea]
  exact ⟨.ref _, _, I.lnew (t' := s.toks) (rv.append r2) (by rw [List.length_append]; exact hz), rfl, q _ I.fresh⟩
end
/-- a def whose code object is told -/
theorem okC {P : Program} {w : World} {K : PySem.W.Frag} {mg : PySem.Str → Option Value} {base : Heap} {x : PySem.Str} {st : Stmt} {fd : FuncData} {N ps : List PySem.Str} {k : Nat} {sp : Sp} {p : PySem.Str × Option PySem.Str} (F : FnP K x st (He.fAd K p) fd) (S : FnScope N ps (defScope st))
    (len : ∀ vs H Q E, sp vs H Q E → vs.length = ps.length)
    (hbody : ∀ (A : Around) (outer : List Env) (s : Shared) (H : Hp) (vs : List V) (Q : VK) (E : XK), Room k (A.deeper (envOfC x (defScope st) s.heap.objs.size (He.fAd K p) (.ref (He.codeOf K p)))) → sp vs H Q E →
      ∃ t, PSs (cxOf CX0 P w K mg base N x (defScope st) (He.fAd K p) (.ref (He.codeOf K p)) A outer s H E).nox (defBody st) t ∧ t { nx := fun _ H' => Q .non H', rt := Q } (start N vs) H) : FnOk P w K mg base CX0 (k + 1) (He.fAd K p) fd ps sp := by
  obtain ⟨oc, od, dV, kV, doc, pm, an, cdv, ct, osl, rfl, lk, hcd, _, _⟩ := F.ex
  obtain ⟨c, rfl⟩ := He.codeIn_ref hcd
  have e : He.codeOf K p = c := He.codeOf_eq lk rfl
  subst e
  refine fn_of lk hcd S len fun A outer s H vs Q E hr hsp => ?_
  obtain ⟨t, h, q⟩ := hbody A outer s H vs Q E hr hsp
  exact ⟨t, h.nox, q⟩
/-! ### what stays -/
/-- an object of the heap ahead, as it may stand behind: tables may have grown -/
def Ko (o : HO) (x : Option HO) : Prop := match o with
  | .tbl ps => ∃ qs, x = some (.tbl qs) ∧ (TriplesOk ps.toList → TriplesOk qs.toList)
  | o => x = some o
theorem ko_refl (o : HO) : Ko o (some o) := by
  cases o <;> first | rfl | exact ⟨_, rfl, fun h => h⟩
theorem ko_some {o : HO} {x : Option HO} (h : Ko o x) : ∃ u, x = some u := by
  cases o <;> first | exact ⟨_, h⟩ | (obtain ⟨qs, e, _⟩ := h; exact ⟨_, e⟩)
theorem ko_trans {o : HO} {x y : Option HO} (h : Ko o x) (k : ∀ u, x = some u → Ko u y) : Ko o y := by
  cases o <;> first | exact k _ h | (obtain ⟨qs, e, z⟩ := h; obtain ⟨rs, e2, z2⟩ := k _ e; exact ⟨rs, e2, fun q => z2 (z q)⟩)
/-- all that was tracked stands, but what stands at the addresses for which D holds -/
def Kept (D : Addr → Prop) (H H' : Hp) : Prop := ∀ b o, H b = some o → ¬ D b → Ko o (H' b)
theorem Kept.refl {D : Addr → Prop} {H : Hp} : Kept D H H := fun b o e _ => by rw [e]; exact ko_refl o
theorem Kept.trans {D : Addr → Prop} {H H1 H2 : Hp} (a : Kept D H H1) (b : Kept D H1 H2) : Kept D H H2 := fun c o e n => ko_trans (a c o e n) fun u q => b c u q n
theorem Kept.weak {D D' : Addr → Prop} {H H1 : Hp} (a : Kept D H H1) (h : ∀ b, D b → D' b) : Kept D' H H1 := fun c o e n => a c o e fun d => n (h c d)
theorem Kept.new {D : Addr → Prop} {H H1 : Hp} {p : Addr} {o : HO} (a : Kept D H H1) (n : H p = none) : Kept D H (upd H1 p o) := fun c u e d => by
  rw [upd_ne (ne_of_none e n)]
  exact a c u e d
theorem Kept.upd {D : Addr → Prop} {H H1 : Hp} {p : Addr} {o : HO} (a : Kept D H H1) (d : D p) : Kept D H (upd H1 p o) := fun c u e n => by
  rw [upd_ne (fun z => n (by rw [z]; exact d))]
  exact a c u e n
abbrev None : Addr → Prop := fun _ => False
theorem Kept.free {H H1 : Hp} (a : Kept None H H1) {p : Addr} (h : H1 p = none) : H p = none := by
  cases e : H p with
  | none => rfl
  | some o =>
    obtain ⟨u, q⟩ := ko_some (a p o e (fun z => z))
    rw [h] at q
    cases q
theorem Kept.lst {D : Addr → Prop} {H H1 : Hp} (a : Kept D H H1) {p : Addr} {xs : List V} (h : H p = some (.lst xs)) (n : ¬ D p) : H1 p = some (.lst xs) := a p _ h n
theorem Kept.tup {D : Addr → Prop} {H H1 : Hp} (a : Kept D H H1) {p : Addr} {xs : List V} (h : H p = some (.tup xs)) (n : ¬ D p) : H1 p = some (.tup xs) := a p _ h n
theorem Kept.dK {D : Addr → Prop} {H H1 : Hp} (a : Kept D H H1) {p : Addr} {kvs : List (Key × V)} (h : H p = some (.dK kvs)) (n : ¬ D p) : H1 p = some (.dK kvs) := a p _ h n
theorem Kept.frz {D : Addr → Prop} {H H1 : Hp} (a : Kept D H H1) {p : Addr} {o : Obj} {u : HO} (h : H p = some (.frz o u)) (n : ¬ D p) : H1 p = some (.frz o u) := a p _ h n
theorem Kept.tab {D : Addr → Prop} {H H1 : Hp} (a : Kept D H H1) {p : Addr} (h : GxR.TabG H p) (n : ¬ D p) : GxR.TabG H1 p := by
  obtain ⟨ps, e, z⟩ := h
  obtain ⟨qs, e2, z2⟩ := a p _ e n
  exact ⟨qs, e2, z2 z⟩
theorem Kept.sql {K : PySem.W.Frag} {D : Addr → Prop} {H H1 : Hp} (a : Kept D H H1) {p : Addr} {xs : List V} (h : SqL K H p xs) (n : ¬ D p) : SqL K H1 p xs := by
  rcases h with (h | ⟨o, h⟩) | h
  · exact .inl (.inl (a.lst h n))
  · exact .inl (.inr ⟨o, a.frz h n⟩)
  · exact .inr h
theorem Kept.of_tabbed {P : Addr} {H H1 : Hp} (t : GxR.TabG H P) (h : GxR.Tabbed P H H1) : Kept None H H1 := fun b o e _ => by
  by_cases hb : b = P
  · subst hb
    obtain ⟨ps, e1, z1⟩ := t
    obtain ⟨⟨qs, e2, z2⟩, _⟩ := h
    rw [e1] at e
    cases e
    exact ⟨qs, e2, fun _ => z2⟩
  · rw [h.2 b hb, e]
    exact ko_refl o
end K11

set_option Elab.async false
set_option linter.all false
set_option maxRecDepth 100000
set_option maxHeartbeats 2000000
namespace K11
open PySem PySem.Spec PyProof.Rows L2
/-! ### the draws -/
abbrev sBegin : Stmt := top 28
abbrev sMixed : Stmt := top 29
abbrev sNext : Stmt := top 30
theorem scBegin : FnScope ["script"] ["script"] (defScope sBegin) := ⟨rfl, rfl, rfl, by decide +kernel, rfl, by decide +kernel, by decide +kernel⟩
theorem scMixed : FnScope ["cell", "k", "number"] ["cell", "k"] (defScope sMixed) := ⟨rfl, rfl, rfl, by decide +kernel, rfl, by decide +kernel, by decide +kernel⟩
theorem scNext : FnScope ["draw", "many", "found", "cells", "cell"] ["draw", "many"] (defScope sNext) := ⟨rfl, rfl, rfl, by decide +kernel, rfl, by decide +kernel, by decide +kernel⟩
/-- the draw's pairs -/
def drK (c : Addr) (a l u : Int) : List (Key × V) := [(.inr "cells", .ref c), (.inr "at", .int a), (.inr "left", .int l), (.inr "used", .int u)]
theorem kn {x y : PySem.Str} (h : ¬ x = y) : ¬ (Sum.inr x : Key) = Sum.inr y := fun e => h (Sum.inr.inj e)
theorem n1 : ¬ (("cells" : PySem.Str) = "at") := by decide +kernel
theorem n2 : ¬ (("cells" : PySem.Str) = "left") := by decide +kernel
theorem n3 : ¬ (("cells" : PySem.Str) = "used") := by decide +kernel
theorem n4 : ¬ (("at" : PySem.Str) = "left") := by decide +kernel
theorem n5 : ¬ (("at" : PySem.Str) = "used") := by decide +kernel
theorem n6 : ¬ (("left" : PySem.Str) = "used") := by decide +kernel
theorem g_cells (c : Addr) (a l u : Int) : valV (drK c a l u) (Sum.inr "cells" : Key) = some (.ref c) := valV_pos rfl
theorem g_at (c : Addr) (a l u : Int) : valV (drK c a l u) (Sum.inr "at" : Key) = some (.int a) := (valV_neg (kn n1)).trans (valV_pos rfl)
theorem g_left (c : Addr) (a l u : Int) : valV (drK c a l u) (Sum.inr "left" : Key) = some (.int l) := (valV_neg (kn n2)).trans ((valV_neg (kn n4)).trans (valV_pos rfl))
theorem g_used (c : Addr) (a l u : Int) : valV (drK c a l u) (Sum.inr "used" : Key) = some (.int u) := (valV_neg (kn n3)).trans ((valV_neg (kn n5)).trans ((valV_neg (kn n6)).trans (valV_pos rfl)))
theorem p_at (c : Addr) (a l u z : Int) : putK (drK c a l u) (Sum.inr "at" : Key) (.int z) = drK c z l u := by
  unfold putK
  rw [if_pos (by rw [valV_any, g_at]; rfl)]
  unfold drK
  simp only [List.map_cons, List.map_nil, if_neg (kn n1), if_pos rfl, if_neg (kn (fun e => n4 e.symm)), if_neg (kn (fun e => n5 e.symm))]
  rfl
theorem p_left (c : Addr) (a l u z : Int) : putK (drK c a l u) (Sum.inr "left" : Key) (.int z) = drK c a z u := by
  unfold putK
  rw [if_pos (by rw [valV_any, g_left]; rfl)]
  unfold drK
  simp only [List.map_cons, List.map_nil, if_neg (kn n2), if_pos rfl, if_neg (kn n4), if_neg (kn (fun e => n6 e.symm))]
  rfl
theorem p_used (c : Addr) (a l u z : Int) : putK (drK c a l u) (Sum.inr "used" : Key) (.int z) = drK c a l z := by
  unfold putK
  rw [if_pos (by rw [valV_any, g_used]; rfl)]
  unfold drK
  simp only [List.map_cons, List.map_nil, if_neg (kn n3), if_pos rfl, if_neg (kn n5), if_neg (kn n6)]
  rfl
/-- a draw at d, its cells at c, at most n numbers drawn -/
structure Dr (H : Hp) (d c : Addr) (ns : List Int) (n : Nat) : Prop where
  at_ : ∃ a l u : Int, H d = some (.dK (drK c a l u)) ∧ 0 ≤ a ∧ a ≤ (n : Int) ∧ 0 ≤ l ∧ 0 ≤ u ∧ u ≤ (n : Int)
  cs : H c = some (.lst (ns.map V.int))
  ne : 1 ≤ ns.length ∧ ns.length ≤ 64
theorem Dr.dc {H : Hp} {d c : Addr} {ns : List Int} {n : Nat} (D : Dr H d c ns n) : c ≠ d := by
  obtain ⟨a, l, u, h, _⟩ := D.at_
  exact ne_of D.cs h (by intro z; cases z)
/-- only the draw may change -/
abbrev At (d : Addr) : Addr → Prop := fun b => b = d
theorem Dr.stay {H H1 : Hp} {d c : Addr} {ns : List Int} {n : Nat} (D : Dr H d c ns n) (k : Kept None H H1) : Dr H1 d c ns n := by
  obtain ⟨a, l, u, h, r⟩ := D.at_
  exact ⟨⟨a, l, u, k.dK h (fun z => z), r⟩, k.lst D.cs (fun z => z), D.ne⟩
theorem Dr.more {H : Hp} {d c : Addr} {ns : List Int} {n m : Nat} (D : Dr H d c ns n) (h : n ≤ m) : Dr H d c ns m := by
  obtain ⟨a, l, u, e, h1, h2, h3, h4, h5⟩ := D.at_
  exact ⟨⟨a, l, u, e, h1, by omega, h3, h4, by omega⟩, D.cs, D.ne⟩
theorem Dr.new {H : Hp} {d c p : Addr} {o : HO} {ns : List Int} {n : Nat} (D : Dr H d c ns n) (h : H p = none) : Dr (upd H p o) d c ns n := D.stay (Kept.refl.new h)
/-- a new address is new for what stood ahead, too -/
theorem At.free {H H1 : Hp} {d c : Addr} {ns : List Int} {n : Nat} (k : Kept (At d) H H1) (D : Dr H1 d c ns n) {p : Addr} (h : H1 p = none) : H p = none := by
  cases e : H p with
  | none => rfl
  | some o =>
    have hp : ¬ p = d := fun z => by
      obtain ⟨a, l, u, q, _⟩ := D.at_
      rw [z, q] at h
      cases h
    obtain ⟨u, q⟩ := ko_some (k p o e hp)
    rw [h] at q
    cases q
def spBegin (K : PySem.W.Frag) : Sp := fun vs H Q _ => ∃ (a : Addr) (ns : List Int), vs = [.ref a] ∧ SqL K H a (ns.map V.int) ∧ ns.length ≤ 63 ∧ ∀ d c H', H d = none → Kept None H H' → Dr H' d c (ns ++ [0]) 0 → Q (.ref d) H'
def spMixed : Sp := fun vs H Q _ => ∃ (x k : Int), vs = [.int x, .int k] ∧ 0 ≤ k ∧ k ≤ 1152921504606846976 ∧ ∀ r : Int, 0 ≤ r → Q (.int r) H
def spNext : Sp := fun vs H Q _ => ∃ (d c : Addr) (ns : List Int) (n : Nat) (m : Int), vs = [.ref d, .int m] ∧ Dr H d c ns n ∧ n ≤ 1000000000 ∧ 1 ≤ m ∧ m < 1073741824 ∧ ∀ (r : Int) H', 0 ≤ r → r < m → Kept (At d) H H' → Dr H' d c ns (n + 1) → Q (.int r) H'
section
variable {P : Program} {w : World} {K : PySem.W.Frag} {mg : PySem.Str → Option Value} {base : Heap} {f fM fN : Addr} {fd fdM fdN : FuncData}
theorem ok_begin (F : FnP K "_law_begin" sBegin f fd) : FnOk P w K mg base CX0 1 f fd ["script"] (spBegin K) := by
  refine F.ok (k := 0) scBegin (fun vs H Q E h => ?_) (fun cdv A outer s H vs Q E hr h => ?_)
  · obtain ⟨a, ns, rfl, _⟩ := h
    rfl
  · obtain ⟨a, ns, rfl, hS, hl, q⟩ := h
    refine ⟨_, PSs.nox (pss_one (ps_ret (pe_disp (pps_cons pe_str (pe_op op_catR (pv 0) (pe_lst (pa_cons pe_int pa_nil))) (pps_cons pe_str pe_int (pps_cons pe_str pe_int (pps_cons pe_str pe_int pps_nil)))) (by rfl) (by rfl) (fun z => by cases z) (by decide)))), ?_⟩
    refine fun d hd => ⟨.ref a, rfl, by show 1 ≤ sizeLine; decide, fun b hb => ?_⟩
    have k1 : Kept None H (upd H d (.dK [])) := Kept.refl.new hd
    have k2 : Kept None (upd H d (.dK [])) (upd (upd H d (.dK [])) b (.lst [.int 0])) := Kept.refl.new hb
    refine ⟨a, b, ns.map V.int, [.int 0], rfl, rfl, (k1.trans k2).sql hS (fun z => z), upd_same, ?_, fun c hc => ?_⟩
    · rw [List.length_map, sizeLine_eq]
      simp only [List.length_cons, List.length_nil]
      omega
    · have hdb : d ≠ b := fun e => by
        rw [← e, upd_same] at hb
        cases hb
      have hdc : d ≠ c := fun e => by
        rw [← e, upd_ne hdb, upd_same] at hc
        cases hc
      have k3 : Kept None (upd (upd H d (.dK [])) b (.lst [.int 0])) (upd (upd (upd H d (.dK [])) b (.lst [.int 0])) c (.lst (ns.map V.int ++ [.int 0]))) := Kept.refl.new hc
      refine ⟨by rw [upd_ne hdc, upd_ne hdb, upd_same], drK c 0 0 0, rfl, by show 4 ≤ 15; decide, ?_⟩
      have em : mergeK [] (drK c 0 0 0) = drK c 0 0 0 := by
        unfold mergeK drK
        simp [putK, kn n1, kn n2, kn n3, kn n4, kn n5, kn n6, n1, n2, n3, n4, n5, n6]
      rw [em]
      refine q d c _ hd ?_ ⟨⟨0, 0, 0, upd_same, by omega, by omega, by omega, by omega, by omega⟩, ?_, by rw [List.length_append]; simp only [List.length_cons, List.length_nil]; omega⟩
      · intro x o e n
        have hx : x ≠ d := ne_of_none e hd
        rw [upd_ne hx]
        exact ((k1.trans k2).trans k3) x o e n
      · rw [upd_ne (Ne.symm hdc), upd_same, List.map_append]
        rfl
theorem ok_mixed (F : FnP K "_law_mixed" sMixed f fd) : FnOk P w K mg base CX0 1 f fd ["cell", "k"] spMixed := by
  refine F.ok (k := 0) scMixed (fun vs H Q E h => ?_) (fun cdv A outer s H vs Q E hr h => ?_)
  · obtain ⟨x, k, rfl, _⟩ := h
    rfl
  · obtain ⟨x, k, rfl, h0, h1, q⟩ := h
    refine ⟨_, PSs.nox (pss_cons (ps_set (i := 2) scMixed.nd rfl (Or.inl rfl) (pe_op op_mod (pe_op op_add (pe_op op_add (pe_op op_add (pe_op op_mod (pv 0) pe_int) (pe_op op_mul (pe_op op_mul pe_int (pv 1)) (pv 1))) (pe_op op_mul pe_int (pv 1))) pe_int) pe_int))
      (pss_cons (ps_set (i := 2) scMixed.nd rfl (Or.inl rfl) (pe_op op_mod (pe_op op_mul (pe_op op_mod (pe_op op_mul (pv 2) (pv 2)) pe_int) (pv 2)) pe_int))
      (pss_one (ps_ret (pe_op op_fdiv (pe_op op_mod (pe_op op_mul (pv 2) (pe_op op_add pe_int (pe_op op_mul pe_int (pe_op op_mod (pv 1) pe_int)))) pe_int) pe_int))))), ?_⟩
    refine ⟨.int x, rfl, x, 1000000007, rfl, rfl, (by show (0 : Int) < 1000000007; decide), .int k, rfl, 7919, k, rfl, rfl, .inl ⟨by decide, by decide⟩, .int k, rfl, _, k, rfl, rfl, .inr ⟨by omega, by omega⟩, _, _, rfl, rfl, .int k, rfl, 31, k, rfl, rfl, .inl ⟨by decide, by decide⟩, _, _, rfl, rfl, _, _, rfl, rfl, _, _, rfl, rfl, (by show (0 : Int) < 2147483647; decide), ?_⟩
    dsimp only
    generalize hy : (x % 1000000007 + 7919 * k * k + 31 * k + 7) % 2147483647 = y
    have y0 : 0 ≤ y := by rw [← hy]; exact Int.emod_nonneg _ (by decide)
    have y1 : y < 2147483647 := by rw [← hy]; exact Int.emod_lt_of_pos _ (by decide)
    refine ⟨.int y, rfl, .int y, rfl, y, y, rfl, rfl, .inl ⟨by omega, by omega⟩, _, _, rfl, rfl, (by show (0 : Int) < 2147483647; decide), .int y, rfl, _, y, rfl, rfl, .inr ⟨by omega, by omega⟩, _, _, rfl, rfl, (by show (0 : Int) < 2147483629; decide), ?_⟩
    dsimp only
    generalize hz : (y * y % 2147483647 * y) % 2147483629 = z
    have z0 : 0 ≤ z := by rw [← hz]; exact Int.emod_nonneg _ (by decide)
    have z1 : z < 2147483629 := by rw [← hz]; exact Int.emod_lt_of_pos _ (by decide)
    refine ⟨.int z, rfl, .int k, rfl, k, 1000, rfl, rfl, (by show (0 : Int) < 1000; decide), 2, _, rfl, rfl, .inl ⟨by decide, by decide⟩, _, _, rfl, rfl, z, _, rfl, rfl, .inl ⟨by omega, by omega⟩, _, _, rfl, rfl, (by show (0 : Int) < 2147483647; decide), _, _, rfl, rfl, ⟨by show (0 : Int) < 7; decide, by show (7 : Int) < 1073741824; decide⟩, ?_⟩
    exact q _ (Int.ediv_nonneg (Int.emod_nonneg _ (by decide)) (by decide))
end
end K11

set_option Elab.async false
set_option linter.all false
set_option maxRecDepth 100000
set_option maxHeartbeats 2000000
namespace K11
open PySem PySem.Spec PyProof.Rows L2
section
variable {H : Hp} {d c : Addr} {a l u z : Int}
theorem gd_cells (h : H d = some (.dK (drK c a l u))) : DGet H d (.str "cells") (some (.ref c)) := by rw [← g_cells c a l u]; exact DGet.k (k := Sum.inr "cells") h
theorem gd_at (h : H d = some (.dK (drK c a l u))) : DGet H d (.str "at") (some (.int a)) := by rw [← g_at c a l u]; exact DGet.k (k := Sum.inr "at") h
theorem gd_left (h : H d = some (.dK (drK c a l u))) : DGet H d (.str "left") (some (.int l)) := by rw [← g_left c a l u]; exact DGet.k (k := Sum.inr "left") h
theorem gd_used (h : H d = some (.dK (drK c a l u))) : DGet H d (.str "used") (some (.int u)) := by rw [← g_used c a l u]; exact DGet.k (k := Sum.inr "used") h
theorem four : (drK c a l u).length < sizeLine := by show 4 < sizeLine; decide
theorem pd_at (h : H d = some (.dK (drK c a l u))) : DPut H d (.str "at") (.int z) (upd H d (.dK (drK c z l u))) := by rw [← p_at c a l u z]; exact DPut.k (k := Sum.inr "at") h four
theorem pd_left (h : H d = some (.dK (drK c a l u))) : DPut H d (.str "left") (.int z) (upd H d (.dK (drK c a z u))) := by rw [← p_left c a l u z]; exact DPut.k (k := Sum.inr "left") h four
theorem pd_used (h : H d = some (.dK (drK c a l u))) : DPut H d (.str "used") (.int z) (upd H d (.dK (drK c a l z))) := by rw [← p_used c a l u z]; exact DPut.k (k := Sum.inr "used") h four
end
section
variable {P : Program} {w : World} {K : PySem.W.Frag} {mg : PySem.Str → Option Value} {base : Heap} {f fM fN : Addr} {fd fdM fdN : FuncData}
theorem ok_next (F : FnP K "_law_next" sNext f fd) (GM : FnOk P w K mg base CX0 1 fM fdM ["cell", "k"] spMixed) (bM : Binds K fdM ["cell", "k"] []) (kM : PySem.W.keepIn K (.ref fM) = true) (gM : mg "_law_mixed" = some (.ref fM)) (m1 : mg "len" = none) :
    FnOk P w K mg base CX0 2 f fd ["draw", "many"] spNext := by
  refine F.ok (k := 1) scNext (fun vs H Q E h => ?_) (fun cdv A outer s H vs Q E hr h => ?_)
  · obtain ⟨d, c, ns, n, m, rfl, _⟩ := h
    rfl
  · obtain ⟨d, c, ns, n, m, rfl, D, hn, m0, m1', q⟩ := h
    have hu := hu_of hr
    refine ⟨_, PSs.nox (pss_cons (ps_if (pt_cmpR op_gt (pe_dget hu (pv 0) pe_str (fun _ _ => rfl)) pe_int (nomark _))
        (pss_cons (ps_set (i := 2) scNext.nd rfl (Or.inl rfl) (pe_op op_mod (pe_dget hu (pv 0) pe_str (fun _ _ => rfl)) (pv 1)))
        (pss_cons (ps_dput hu (pv 0) pe_str (pe_op op_fdiv (pe_dget hu (pv 0) pe_str (fun _ _ => rfl)) (pv 1)) rfl)
        (pss_one (ps_ret (pv 2))))) pss_nil)
      (pss_cons (ps_set (i := 3) scNext.nd rfl (Or.inl rfl) (pe_dget hu (pv 0) pe_str (fun _ _ => rfl)))
      (pss_cons (ps_set (i := 4) scNext.nd rfl (Or.inl rfl) (pe_ix ix_list (pv 3) (pe_op op_mod (pe_dget hu (pv 0) pe_str (fun _ _ => rfl)) (pe_callB call_len_seq (by rfl) m1 PySem.boot_len (pa_cons (pv 3) pa_nil))) (fun _ _ => rfl)))
      (pss_cons (ps_dput hu (pv 0) pe_str (pe_op op_add (pe_dget hu (pv 0) pe_str (fun _ _ => rfl)) pe_int) rfl)
      (pss_cons (ps_if (PW.pt (pw_and (pt_cmpR op_ge (pv 4) (pe_op op_pow pe_int pe_int) (nomark _)) (pw_and1 (pt_cmpR op_le (pe_dget hu (pv 0) pe_str (fun _ _ => rfl)) (pe_callB call_len_seq (by rfl) m1 PySem.boot_len (pa_cons (pv 3) pa_nil)) (nomark _)))))
        (pss_cons (ps_dput hu (pv 0) pe_str (pe_op op_fdiv (pv 4) (pv 1)) rfl) (pss_one (ps_ret (pe_op op_mod (pv 4) (pv 1))))) pss_nil)
      (pss_cons (ps_dput hu (pv 0) pe_str (pe_op op_add (pe_dget hu (pv 0) pe_str (fun _ _ => rfl)) pe_int) rfl)
      (pss_one (ps_ret (pe_op op_mod (pe_call GM hr (by rfl) gM kM bM .nil pass0 (pa_cons (by exact (pe_call GM hr (by rfl) gM kM bM .nil pass0 (pa_cons (pv 4) (pa_cons (pe_dget hu (pv 0) pe_str (fun _ _ => rfl)) pa_nil)))) (pa_cons (pe_dget hu (pv 0) pe_str (fun _ _ => rfl)) pa_nil))) (pv 1)))))))))), ?_⟩
    obtain ⟨a, l, u, hd, a0, a1, l0, u0, u1⟩ := D.at_
    have dc := D.dc
    refine ⟨.ref d, rfl, d, .int l, rfl, gd_left hd, l, 0, rfl, rfl, _, rfl, ite2 (fun hl => ?_) (fun hl => ?_)⟩
    · have hl' : 0 < l := of_decide_eq_true hl
      refine ⟨.ref d, rfl, d, .int l, rfl, gd_left hd, .int m, rfl, l, m, rfl, rfl, (by show 0 < m; omega), ?_⟩
      refine ⟨.ref d, rfl, d, .int l, rfl, gd_left hd, .int m, rfl, l, m, rfl, rfl, ⟨by omega, by omega⟩, .ref d, rfl, d, _, rfl, pd_left hd, ?_⟩
      refine ⟨.int (l % m), rfl, ?_⟩
      refine q (l % m) _ (Int.emod_nonneg _ (by omega)) (Int.emod_lt_of_pos _ (by omega)) (Kept.refl.upd rfl) ⟨⟨a, l / m, u, upd_same, a0, by omega, Int.ediv_nonneg l0 (by omega), u0, by omega⟩, by rw [upd_ne dc]; exact D.cs, D.ne⟩
    · have hL : (ns.map V.int).length = ns.length := List.length_map ..
      obtain ⟨h1, h64⟩ := D.ne
      refine ⟨.ref d, rfl, d, .ref c, rfl, gd_cells hd, ?_⟩
      have j0 : 0 ≤ a % (ns.length : Int) := Int.emod_nonneg _ (by omega)
      have j1 : a % (ns.length : Int) < (ns.length : Int) := Int.emod_lt_of_pos _ (by omega)
      obtain ⟨j, hj⟩ : ∃ j : Nat, a % (ns.length : Int) = (j : Int) := ⟨(a % (ns.length : Int)).toNat, by omega⟩
      have hjl : j < ns.length := by omega
      have hat : atI (ns.map V.int) (a % (((ns.map V.int).length : Nat) : Int)) = some (.int ns[j]) := by
        rw [hL, hj]
        exact atI_nat (j := j) (by rw [List.getElem?_map, List.getElem?_eq_getElem hjl]; rfl)
      refine ⟨.ref c, rfl, .ref d, rfl, d, .int a, rfl, gd_at hd, .ref c, rfl, c, ns.map V.int, rfl, .inl (.inl (.inl D.cs)), a, _, rfl, rfl, (by rw [hL]; omega), c, ns.map V.int, _, .int ns[j], rfl, rfl, .inl (.inl D.cs), hat, ?_⟩
      refine ⟨.ref d, rfl, d, .int a, rfl, gd_at hd, a, 1, rfl, rfl, .ref d, rfl, d, _, rfl, pd_at hd, ?_⟩
      have hd1 : upd H d (.dK (drK c (a + 1) l u)) d = some (.dK (drK c (a + 1) l u)) := upd_same
      have hc1 : upd H d (.dK (drK c (a + 1) l u)) c = some (.lst (ns.map V.int)) := by rw [upd_ne dc]; exact D.cs
      have kk1 : Kept (At d) H (upd H d (.dK (drK c (a + 1) l u))) := Kept.refl.upd rfl
      generalize upd H d (.dK (drK c (a + 1) l u)) = H1 at hd1 hc1 kk1 ⊢
      -- the last way
      have last : tSeq (sDPut (tVar 0) (tC (.str "used")) (tOp (rI0 fun i j => .int (i + j)) (tDGet (tVar 0) (tC (.str "used"))) (tC (.int 1)))) (tRet (tOp (rI (fun _ j => 0 < j) fun i j => .int (i % j)) (tCall spMixed [] E0 (tCons (tCall spMixed [] E0 (tCons (tVar 4) (tCons (tDGet (tVar 0) (tC (.str "at"))) tNil))) (tCons (tDGet (tVar 0) (tC (.str "used"))) tNil))) (tVar 1)))
          { nx := fun _ H' => Q .non H', rt := Q } [some (.ref d), some (.int m), none, some (.ref c), some (.int ns[j])] H1 := by
        refine ⟨.ref d, rfl, d, .int u, rfl, gd_used hd1, u, 1, rfl, rfl, .ref d, rfl, d, _, rfl, pd_used hd1, ?_⟩
        have hd2 : upd H1 d (.dK (drK c (a + 1) l (u + 1))) d = some (.dK (drK c (a + 1) l (u + 1))) := upd_same
        have hc2 : upd H1 d (.dK (drK c (a + 1) l (u + 1))) c = some (.lst (ns.map V.int)) := by rw [upd_ne dc]; exact hc1
        have kk2 : Kept (At d) H (upd H1 d (.dK (drK c (a + 1) l (u + 1)))) := kk1.upd rfl
        generalize upd H1 d (.dK (drK c (a + 1) l (u + 1))) = H2 at hd2 hc2 kk2 ⊢
        refine ⟨.int ns[j], rfl, .ref d, rfl, d, .int (a + 1), rfl, gd_at hd2, ns[j], a + 1, rfl, by omega, by omega, fun r1 hr1 => ?_⟩
        refine ⟨.ref d, rfl, d, .int (u + 1), rfl, gd_used hd2, r1, u + 1, rfl, by omega, by omega, fun r2 hr2 => ?_⟩
        refine ⟨.int m, rfl, r2, m, rfl, rfl, (by show 0 < m; omega), ?_⟩
        exact q (r2 % m) H2 (Int.emod_nonneg _ (by omega)) (Int.emod_lt_of_pos _ (by omega)) kk2 ⟨⟨a + 1, l, u + 1, hd2, by omega, by omega, l0, by omega, by omega⟩, hc2, D.ne⟩
      refine ⟨.int ns[j], rfl, 10, 18, rfl, rfl, ⟨by decide, by decide, by decide⟩, ns[j], _, rfl, rfl, _, rfl, ite2 (fun hge => ?_) (fun hge => ?_)⟩
      · refine ⟨.ref d, rfl, d, .int (a + 1), rfl, gd_at hd1, .ref c, rfl, c, ns.map V.int, rfl, .inl (.inl (.inl hc1)), a + 1, _, rfl, rfl, _, rfl, ite2 (fun hle => ?_) (fun hle => ?_)⟩
        · have hbig : (10 : Int) ^ (18 : Int).toNat ≤ ns[j] := of_decide_eq_true hge
          have hpos : (0 : Int) ≤ ns[j] := Int.le_trans (by decide) hbig
          refine ⟨.int ns[j], rfl, .int m, rfl, ns[j], m, rfl, rfl, ⟨by omega, by omega⟩, .ref d, rfl, d, _, rfl, pd_left hd1, ?_⟩
          refine ⟨.int ns[j], rfl, .int m, rfl, ns[j], m, rfl, rfl, (by show 0 < m; omega), ?_⟩
          exact q (ns[j] % m) _ (Int.emod_nonneg _ (by omega)) (Int.emod_lt_of_pos _ (by omega)) (kk1.upd rfl) ⟨⟨a + 1, ns[j] / m, u, upd_same, by omega, by omega, Int.ediv_nonneg hpos (by omega), u0, by omega⟩, by rw [upd_ne dc]; exact hc1, D.ne⟩
        · exact last
      · exact iteF last
end
end K11

set_option Elab.async false
set_option linter.all false
set_option maxRecDepth 100000
set_option maxHeartbeats 2000000
namespace K11
open PySem PySem.Spec PyProof.Rows L2
section
variable {X : Cx}
/-- repr(x), x a list or a tuple -/
def rRepr (K : PySem.W.Frag) : List V → Hp → VK → Prop := fun xs H Q => ∃ (a : Addr) (d : PyData), xs = [.ref a] ∧ Dp K H (.ref a) d ∧ d.showable = true ∧ d.hasDict = false ∧ d.depth ≤ 100 ∧ d.shown.length ≤ sizeLine ∧ Q (.str d.shown) H
theorem call_reprL (hg : X.A.guards = some []) {k : Nat} (hr : Room k X.A) : CallR X (.builtin "repr") (rRepr X.K) := by
  intro pins s σ H xs us Q I r h
  obtain ⟨a, d, rfl, hD, hs, hn, h1, hz, q⟩ := h
  cases r with
  | cons rx rr =>
    cases rr
    cases rx
    obtain ⟨as, R⟩ := Dp.reads I d _ _ hD rfl
    refine repr_of_reads' R hs (fun z => by rw [hn] at z; cases z) hg (by have := hr.un; omega) (fun _ _ z => z) (fun h' u tk kp => ?_) hz
    exact ⟨.str d.shown, H, I.kept (t' := tk) kp, ⟨_, rfl⟩, q⟩
end
end K11

set_option Elab.async false
set_option linter.all false
set_option maxRecDepth 100000
set_option maxHeartbeats 2000000
namespace K11
open PySem PySem.Spec PyProof.Rows L2
/-! ### defs whose promise wants that no text of a thing is under way (repr) -/
structure FnG (P : Program) (w : World) (K : PySem.W.Frag) (mg : PySem.Str → Option Value) (base : Heap) (k : Nat) (f : Addr) (fd : FuncData) (ps : List PySem.Str) (sp : Sp) : Prop where
  len : ∀ vs H Q E, sp vs H Q E → vs.length = ps.length
  go : ∀ (A : Around) (outer : List Env) (s : Shared) (H : Hp) (ar : Args) (us : List Value) (vs : List V) (Q : VK) (E : XK), A.guards = some [] → Room k A → Env0 P w K mg base A outer s H → BindsTo s fd ar (ps.zip us) → Vals vs us → sp vs H Q E →
    codeAny (model P w) A (.call (.ref f) ar) (CR CX0 outer P w H s Q E) s
/-- by the body -/
theorem fnG_of {P : Program} {w : World} {K : PySem.W.Frag} {mg : PySem.Str → Option Value} {base : Heap} {x : PySem.Str} {st : Stmt} {f : Addr} {fd : FuncData} {N ps : List PySem.Str} {k : Nat} {sp : Sp} (F : FnP K x st f fd) (S : FnScope N ps (defScope st))
    (len : ∀ vs H Q E, sp vs H Q E → vs.length = ps.length)
    (body : ∀ (cdv : Value) (A : Around) (outer : List Env) (s : Shared) (H : Hp) (vs : List V) (Q : VK) (E : XK), A.guards = some [] → Room k (A.deeper (envOfC x (defScope st) s.heap.objs.size f cdv)) → sp vs H Q E →
      ∃ t, PSs (cxOf CX0 P w K mg base N x (defScope st) f cdv A outer s H E) (defBody st) t ∧ t { nx := fun _ H' => Q .non H', rt := Q } (start N vs) H) : FnG P w K mg base (k + 1) f fd ps sp := by
  obtain ⟨oc, od, dV, kV, doc, pm, an, cdv, ct, osl, rfl, look, code, _, _⟩ := F.ex
  refine ⟨len, fun A outer s H ar us vs Q E gd room e0 bnd rel spq => ?_⟩
  have inK : K.In s.heap := e0.mod.kin.keeps fun b o z => (e0.bs b o z).1
  have kinds : ∀ y ∈ ps.zip us, (defScope st).names.lookup y.1 = some .local ∨ ((defScope st).names.lookup y.1 = some .cell ∧ ((cellsFrom (s.heap.objs.size + 1) (defScope st).names []).lookup y.1).isSome = true) := by
    rintro ⟨n, v⟩ hy
    rcases S.par n (List.of_mem_zip hy).1 with z | z
    · exact .inl z
    · exact .inr ⟨z, PySem.W.cellsFrom_some _ _ _ (.inl z)⟩
  refine codeAny_call_function room.depth (inK _ _ look) rfl S.co S.gen rfl (PySem.W.codeRec_of inK code) (bnd _ _ _ _ ?_)
  refine wpAny_newFunctionEnv_cells S.kind kinds fun env ee s1 entered => ?_
  subst ee
  refine ⟨(e0.mod.nolimit.keeps fun b o z => (e0.bs b o z).1).keeps entered.toInCall.keep, codeAny_func ?_⟩
  obtain ⟨t, ht, z0⟩ := body cdv A outer s H vs Q E gd (room.deeper _) spq
  refine wpAny_mono (ht.run [] s1 (start N vs) H _ (inv_start S room.hd e0 (len _ _ _ _ spq) rel entered) z0) (fun fl s' out => ?_) fun _ _ z => z
  match fl, out with
  | .ret u, ⟨v, _, H', J, rv, z⟩ => exact ⟨v, H', J.os, J.bare, J.base, J.hok, rv, z⟩
  | .next, ⟨_, H', J, z⟩ => exact ⟨.non, H', J.os, J.bare, J.base, J.hok, rfl, z⟩
  | .brk, ⟨_, _, _, z⟩ => exact z.elim
  | .cont, ⟨_, _, _, z⟩ => exact z.elim
section
variable {X : Cx} {k : Nat} {f : Addr} {fd : FuncData} {ps : List PySem.Str} {sp : Sp} {E : XK} {x : PySem.Str} {p pos : Pos} {e : Expr} {es : List Expr} {t : TA}
/-- f(e, ..) -/
theorem pe_callG (F : FnG X.prog X.w X.K X.mg X.base k f fd ps sp) (gd : X.A.guards = some []) (room : Room k X.A) (gl : Gl X x) (gm : X.mg x = some (.ref f)) (kp : PySem.W.keepIn X.K (.ref f) = true) (bi : Binds X.K fd ps []) (px : Passes CX0 X E)
    (ha : PA X (e :: es) t) (db : (x == ("__debug__" : PySem.Str)) = false := by decide) (st : starEach (e :: es) X.env = (false, eval e X.env) :: starEach es X.env := by rfl) (pl : (backTo pos (starEach es X.env)).any (·.1) = false := by rfl) :
    PE X (.Call (.Name x p) (e :: es) [] pos) (tCall sp [] E t) := by
  refine ⟨fun pins s σ H Q I h => wpAny_Call_Name_kw (ld_glob I gl gm ?_ db)⟩
  refine PySem.W.callWith_K (h₀ := X.base) I.ok.mod.kin kp (thn (ha.run pos pins s σ H _ I h) fun us s1 ⟨vs, H1, I1, rel, z⟩ => ⟨I1.kIn, ?_⟩) st pl
  have z : sp (vs ++ []) H1 Q E := z
  rw [List.append_nil] at z
  have n1 : us.length = ps.length := (rel.length.symm).trans (F.len _ _ _ _ z)
  have bnd := bi s1 us I1.kIn (by rw [List.append_nil]; exact n1)
  rw [List.append_nil] at bnd
  refine wpAny_call (codeAny_mono (F.go X.A X.stack s1 H1 ⟨us, []⟩ us vs Q E gd room I1.env0 bnd rel z) fun r s' out => ?_)
  match r, out with
  | .error er, out => exact px pins σ H1 s1 er s' I1 out
  | .ok (.ret u), out => exact I1.after out
  | .ok .next, out => exact out.elim
  | .ok .brk, out => exact out.elim
  | .ok .cont, out => exact out.elim
end
/-- the law's own call -/
theorem goG {P : Program} {w : World} {K : PySem.W.Frag} {mg mb : PySem.Str → Option Value} {k : Nat} {f a : Addr} {fd : FuncData} {x : PySem.Str} {sp : Sp} {s : Shared} {us : List Value} {ns : List Int}
    (inK : K.In s.heap) (nG : s.heap.Ns mainGlobals mg) (nB : s.heap.Ns builtinsNs mb) (isB : ∀ y : PySem.Str, y ≠ "__name__" → mb y = bootBuiltins y) (lim : s.heap.NoLimit) (gens : s.gens = #[])
    (scr : s.heap.get? a = some { cls := .type "list", data := .seq us.toArray }) (iv : IntsAre us ns) (few : ns.length ≤ sizeLine) (room : Room k callerA)
    (F : ∀ base : Heap, K.In base → base.Ns mainGlobals mg → FnG P w K mg base k f fd [x] sp) (bi : ∀ (s : Shared) (u : Value), BindsTo s fd ⟨[u], []⟩ [(x, u)])
    (spq : ∀ H : Hp, Only H → SqL K H a (ns.map V.int) → sp [.ref a] H (fun v _ => v = .bl true) fun _ _ _ => False) :
    codeAny (model P w) callerA (.call (.ref f) ⟨[.ref a], []⟩) (fun r s' => r = .ok (.ret (.bool true)) ∧ OldK s.heap s'.heap ∧ s'.os = s.os ∧ AllBare s'.gens) s := by
  have main : ∀ H : Hp, Only H → SqL K H a (ns.map V.int) → HOk P w H s.heap → (∀ b, H b ≠ none → b = a ∧ K.lookup a = none) →
      codeAny (model P w) callerA (.call (.ref f) ⟨[.ref a], []⟩) (fun r s' => r = .ok (.ret (.bool true)) ∧ OldK s.heap s'.heap ∧ s'.os = s.os ∧ AllBare s'.gens) s := fun H only seq ok just => by
    have isNone : ∀ {b : Addr}, (b = a → K.lookup a = none → False) → H b = none := fun {b} no => by
      cases z : H b with
      | none => rfl
      | some u => exact (no (just b (by rw [z]; exact fun q => nomatch q)).1 (just b (by rw [z]; exact fun q => nomatch q)).2).elim
    have dictN : ∀ {b : Addr} {m : PySem.Str → Option Value}, s.heap.Ns b m → (hidT s.heap H).Ns b m := fun {b m} ⟨o, es, ep, at_, dat, more⟩ =>
      ⟨o, es, ep, hidT_get at_ (isNone fun eb _ => by
        subst eb
        have z := congrArg Obj.data (Option.some.inj (scr.symm.trans at_))
        have z' : Data.seq us.toArray _ = Data.dict es ep := z.trans dat
        cases z'), dat, more⟩
    have inK' : K.In (hidT s.heap H) := fun b o at_ => hidT_get (inK b o at_) (isNone fun eb no => by
      subst eb
      rw [no] at at_
      cases at_)
    have env : Env0 P w K mg (hidT s.heap H) callerA [] s H := by
      obtain ⟨mc, l1, l2⟩ := lim
      exact ⟨rfl, ⟨inK', dictN nG, ⟨mb, dictN nB, isB⟩, ⟨mc, dictN l1, l2⟩⟩, fun _ _ z => of_hidT z, Nat.le_of_eq (hidT_size _ _), trivial, fun b hb => (nomatch (show b ∈ ([] : List Addr) from hb)), ok, .of_eq gens⟩
    refine codeAny_mono ((F _ inK' (dictN nG)).go callerA [] s H ⟨[.ref a], []⟩ [.ref a] [.ref a] _ _ rfl room env (bi s (.ref a)) (.cons rfl .nil) (spq H only seq)) fun r s' out => ?_
    match r, out with
    | .error er, out => exact False.elim out
    | .ok .next, out => exact False.elim out
    | .ok .brk, out => exact False.elim out
    | .ok .cont, out => exact False.elim out
    | .ok (.ret u), ⟨v, H', os, bare, un, ok', rv, ev⟩ =>
      have ev' : v = .bl true := ev
      subst ev'
      obtain rfl : u = Value.bool true := rv
      refine ⟨rfl, OldK.of_keep fun b o at_ => ?_, os, bare⟩
      cases z : H b with
      | none => exact un.keep b o at_ z (fun q => (nomatch (show b ∈ ([] : List Addr) from q))) (fun q => nomatch q)
      | some u =>
        rcases only b with z' | ⟨ob, xs, z'⟩
        · rw [z] at z'
          cases z'
        · have one := (ok b _ z').1
          have two := (ok' b _ (un.frzs b ob _ z')).1
          rw [at_] at one
          cases one
          exact two
  have rel := vals_ints iv
  cases look : K.lookup a with
  | some o =>
    have eo := Option.some.inj (scr.symm.trans (inK a o look))
    subst eo
    exact main (fun _ => none) (fun _ => .inl rfl) (.inr ⟨_, us.toArray, _, look, rfl, rfl, rfl, by rw [List.size_toArray, iv.length]; exact few, by simpa using rel⟩) (fun b u z => by
      have z' : (none : Option HO) = some u := z
      cases z') fun b z => (z rfl).elim
  | none =>
    have on : ∀ b u, (if b = a then some (HO.frz { cls := .type "list", data := .seq us.toArray } (.lst (ns.map V.int))) else none) = some u → b = a ∧ u = HO.frz { cls := .type "list", data := .seq us.toArray } (.lst (ns.map V.int)) := fun b u z => by
      by_cases eb : b = a
      · rw [if_pos eb] at z
        exact ⟨eb, (Option.some.inj z).symm⟩
      · rw [if_neg eb] at z
        cases z
    refine main (fun b => if b = a then some (.frz { cls := .type "list", data := .seq us.toArray } (.lst (ns.map V.int))) else none) (fun b => ?_) (.inl (.inr ⟨_, if_pos rfl⟩)) (fun b u z => ?_) (fun b z => ?_)
    · by_cases eb : b = a
      · exact .inr ⟨_, _, if_pos eb⟩
      · exact .inl (if_neg eb)
    · obtain ⟨eb, eu⟩ := on b u z
      subst eb eu
      exact ⟨scr, by rw [List.length_map]; exact few, us, _, rel, scr⟩
    · by_cases eb : b = a
      · exact ⟨eb, look⟩
      · exact (z (if_neg eb)).elim
/-- the end -/
theorem walkG {l : PySem.W.OpenLaw} {n k : Nat} {q : Program} {loose : List PySem.Str} {XP : (PySem.Str → Option Value) → Heap → Prop} {YP : World → Heap → Prop} {d : DefRec} {x : PySem.Str} (most : l.most = some n) (small : n ≤ sizeLine) (nodf : d.params.defaults = []) (room : Room k callerA)
    (F : ∀ (w : World) (mg : PySem.Str → Option Value) (f : Addr) (h : Heap), YP w h → h.Ns mainGlobals mg → mg d.name = some (.ref f) → ∃ (K : PySem.W.Frag) (fd : FuncData) (sp : Sp), K.In h ∧ (∀ (s : Shared) (u : Value), BindsTo s fd ⟨[u], []⟩ [(x, u)]) ∧
      (∀ base : Heap, K.In base → base.Ns mainGlobals mg → FnG l.prog w K mg base k f fd [x] sp) ∧ ∀ (H : Hp) (a : Addr) (ns : List Int), ns.length ≤ n → SqL K H a (ns.map V.int) → sp [.ref a] H (fun v _ => v = .bl true) fun _ _ _ => False) :
    PySem.W.WalkO q loose XP YP l.row.toRowW d [] (fun f vs => PySem.call f vs) := by
  refine Att.attach_call most nodf fun w s0 s1 mg mb f o pm cd doc a us ns G Y _ _ _ hmg scr iv few gens => ?_
  obtain ⟨K, fd, sp, inK, bi, hF, spq⟩ := F w mg f _ Y G.T.g hmg
  exact goG inK G.T.g G.T.b G.T.builtins G.T.nolimit gens scr iv (Nat.le_trans few small) room hF bi fun H _ seq => spq H a ns few seq
end K11

set_option Elab.async false
set_option linter.all false
set_option maxRecDepth 100000
set_option maxHeartbeats 4000000
namespace K11
open PySem
/-! ### the mathematics -/
theorem bA (a b : Nat) : Builtin.bitAnd (a : Int) (b : Int) = ((a &&& b : Nat) : Int) := by
  rw [PyProof.Rows.bitAnd_pp (Int.natCast_nonneg a) (Int.natCast_nonneg b), Int.toNat_natCast, Int.toNat_natCast]
theorem bO (a b : Nat) : Builtin.bitOr (a : Int) (b : Int) = ((a ||| b : Nat) : Int) := by
  rw [Bits.bitOr_pp (Int.natCast_nonneg a) (Int.natCast_nonneg b), Int.toNat_natCast, Int.toNat_natCast]
theorem bX (a b : Nat) : Builtin.bitXor (a : Int) (b : Int) = ((a ^^^ b : Nat) : Int) := by
  rw [Bits.bitXor_pp (Int.natCast_nonneg a) (Int.natCast_nonneg b), Int.toNat_natCast, Int.toNat_natCast]
section
open PySem.Spec PyProof.Rows L2
variable {X : Cx}
def rAndN : R2 := fun x y H Q => ∃ n m : Nat, x = .int (n : Int) ∧ y = .int (m : Int) ∧ Q (.int ((n &&& m : Nat) : Int)) H
def rOrN : R2 := fun x y H Q => ∃ n m : Nat, x = .int (n : Int) ∧ y = .int (m : Int) ∧ Q (.int ((n ||| m : Nat) : Int)) H
def rXorN : R2 := fun x y H Q => ∃ n m : Nat, x = .int (n : Int) ∧ y = .int (m : Int) ∧ Q (.int ((n ^^^ m : Nat) : Int)) H
def rShlN : R2 := fun x y H Q => ∃ n k : Nat, x = .int (n : Int) ∧ y = .int (k : Int) ∧ (n ≤ 1073741824 ∧ k ≤ 1000000) ∧ Q (.int ((n * 2 ^ k : Nat) : Int)) H
def rBit : R2 := fun x y H Q => ∃ k : Nat, x = .int 1 ∧ y = .int (k : Int) ∧ k ≤ 1000000 ∧ Q (.int ((2 ^ k : Nat) : Int)) H
def rShrN : R2 := fun x y H Q => ∃ n k : Nat, x = .int (n : Int) ∧ y = .int (k : Int) ∧ Q (.int ((n >>> k : Nat) : Int)) H
def rEqN : R2 := fun x y H Q => ∃ n m : Nat, x = .int (n : Int) ∧ y = .int (m : Int) ∧ Q (.bl (decide (n = m))) H
def rLtN : R2 := fun x y H Q => ∃ n m : Nat, x = .int (n : Int) ∧ y = .int (m : Int) ∧ Q (.bl (decide (n < m))) H
def rGtN : R2 := fun x y H Q => ∃ n m : Nat, x = .int (n : Int) ∧ y = .int (m : Int) ∧ Q (.bl (decide (m < n))) H
def rSubN : R2 := fun x y H Q => ∃ n m : Nat, x = .int (n : Int) ∧ y = .int (m : Int) ∧ m ≤ n ∧ Q (.int ((n - m : Nat) : Int)) H
def rAddN : R2 := fun x y H Q => ∃ n m : Nat, x = .int (n : Int) ∧ y = .int (m : Int) ∧ Q (.int ((n + m : Nat) : Int)) H
theorem n_sub : OpR X (binaryOp .Sub) rSubN := op_subN
theorem n_add : OpR X (binaryOp .Add) rAddN := op_addN
theorem n_and : OpR X (binaryOp .BitAnd) rAndN := by
  intro pins s σ H x y v u Q I rx ry h
  obtain ⟨n, m, rfl, rfl, q⟩ := h
  rw [← bA] at q
  exact op_and pins s σ H _ _ v u Q I rx ry ⟨_, _, rfl, rfl, q⟩
theorem n_or : OpR X (binaryOp .BitOr) rOrN := by
  intro pins s σ H x y v u Q I rx ry h
  obtain ⟨n, m, rfl, rfl, q⟩ := h
  rw [← bO] at q
  exact op_or pins s σ H _ _ v u Q I rx ry ⟨_, _, rfl, rfl, q⟩
theorem n_xor : OpR X (binaryOp .BitXor) rXorN := by
  intro pins s σ H x y v u Q I rx ry h
  obtain ⟨n, m, rfl, rfl, q⟩ := h
  rw [← bX] at q
  exact op_xor pins s σ H _ _ v u Q I rx ry ⟨_, _, rfl, rfl, q⟩
theorem n_shl : OpR X (binaryOp .LShift) rShlN := by
  intro pins s σ H x y v u Q I rx ry h
  obtain ⟨n, k, rfl, rfl, ⟨c1, c2⟩, q⟩ := h
  have e : ((n * 2 ^ k : Nat) : Int) = (n : Int) * 2 ^ ((k : Int)).toNat := by rw [Int.toNat_natCast]; simp
  rw [e] at q
  exact op_shl pins s σ H _ _ v u Q I rx ry ⟨_, _, rfl, rfl, ⟨Int.natCast_nonneg k, by omega, by omega⟩, q⟩
theorem n_bit : OpR X (binaryOp .LShift) rBit := by
  intro pins s σ H x y v u Q I rx ry h
  obtain ⟨k, rfl, rfl, c, q⟩ := h
  have e : ((2 ^ k : Nat) : Int) = (1 : Int) * 2 ^ ((k : Int)).toNat := by rw [Int.toNat_natCast]; simp
  rw [e] at q
  exact op_shl pins s σ H _ _ v u Q I rx ry ⟨_, _, rfl, rfl, ⟨Int.natCast_nonneg k, by omega, by decide⟩, q⟩
theorem n_shr : OpR X (binaryOp .RShift) rShrN := by
  intro pins s σ H x y v u Q I rx ry h
  obtain ⟨n, k, rfl, rfl, q⟩ := h
  have e : ((n >>> k : Nat) : Int) = (n : Int) / 2 ^ ((k : Int)).toNat := by rw [Int.toNat_natCast, Nat.shiftRight_eq_div_pow]; simp
  rw [e] at q
  exact op_shr pins s σ H _ _ v u Q I rx ry ⟨_, _, rfl, rfl, Int.natCast_nonneg k, q⟩
theorem n_eq : OpR X (compareOp .Eq) rEqN := by
  intro pins s σ H x y v u Q I rx ry h
  obtain ⟨n, m, rfl, rfl, q⟩ := h
  refine op_eq pins s σ H _ _ v u Q I rx ry ⟨rfl, ?_⟩
  rw [show decide (V.int (n : Int) = V.int (m : Int)) = decide (n = m) from decide_eq_decide.mpr ⟨fun z => by have := V.int.inj z; omega, fun z => by rw [z]⟩]
  exact q
theorem n_lt : OpR X (compareOp .Lt) rLtN := by
  intro pins s σ H x y v u Q I rx ry h
  obtain ⟨n, m, rfl, rfl, q⟩ := h
  refine op_lt pins s σ H _ _ v u Q I rx ry ⟨_, _, rfl, rfl, ?_⟩
  show Q (.bl (decide ((n : Int) < (m : Int)))) H
  rw [show decide ((n : Int) < (m : Int)) = decide (n < m) from decide_eq_decide.mpr (by omega)]
  exact q
theorem n_gt : OpR X (compareOp .Gt) rGtN := by
  intro pins s σ H x y v u Q I rx ry h
  obtain ⟨n, m, rfl, rfl, q⟩ := h
  refine op_gt pins s σ H _ _ v u Q I rx ry ⟨_, _, rfl, rfl, ?_⟩
  show Q (.bl (decide ((m : Int) < (n : Int)))) H
  rw [show decide ((m : Int) < (n : Int)) = decide (m < n) from decide_eq_decide.mpr (by omega)]
  exact q
def rNeN : R2 := fun x y H Q => ∃ n m : Nat, x = .int (n : Int) ∧ y = .int (m : Int) ∧ Q (.bl (!decide (n = m))) H
theorem n_ne : OpR X (compareOp .NotEq) rNeN := by
  intro pins s σ H x y v u Q I rx ry h
  obtain ⟨n, m, rfl, rfl, q⟩ := h
  refine op_ne pins s σ H _ _ v u Q I rx ry ⟨rfl, ?_⟩
  rw [show decide (V.int (n : Int) = V.int (m : Int)) = decide (n = m) from decide_eq_decide.mpr ⟨fun z => by have := V.int.inj z; omega, fun z => by rw [z]⟩]
  exact q
def rGeN : R2 := fun x y H Q => ∃ n m : Nat, x = .int (n : Int) ∧ y = .int (m : Int) ∧ Q (.bl (decide (m ≤ n))) H
theorem n_ge : OpR X (compareOp .GtE) rGeN := by
  intro pins s σ H x y v u Q I rx ry h
  obtain ⟨n, m, rfl, rfl, q⟩ := h
  refine op_ge pins s σ H _ _ v u Q I rx ry ⟨_, _, rfl, rfl, ?_⟩
  show Q (.bl (decide ((m : Int) ≤ (n : Int)))) H
  rw [show decide ((m : Int) ≤ (n : Int)) = decide (m ≤ n) from decide_eq_decide.mpr (by omega)]
  exact q
def rLeN : R2 := fun x y H Q => ∃ n m : Nat, x = .int (n : Int) ∧ y = .int (m : Int) ∧ Q (.bl (decide (n ≤ m))) H
theorem n_le : OpR X (compareOp .LtE) rLeN := by
  intro pins s σ H x y v u Q I rx ry h
  obtain ⟨n, m, rfl, rfl, q⟩ := h
  refine op_le pins s σ H _ _ v u Q I rx ry ⟨_, _, rfl, rfl, ?_⟩
  show Q (.bl (decide ((n : Int) ≤ (m : Int)))) H
  rw [show decide ((n : Int) ≤ (m : Int)) = decide (n ≤ m) from decide_eq_decide.mpr (by omega)]
  exact q
/-- n & ~m -/
def rAndC : R2 := fun x y H Q => ∃ n m : Nat, x = .int (n : Int) ∧ y = .int (Builtin.bitNot (m : Int)) ∧ Q (.int ((n - (n &&& m) : Nat) : Int)) H
theorem bC (n m : Nat) : Builtin.bitAnd (n : Int) (Builtin.bitNot (m : Int)) = ((n - (n &&& m) : Nat) : Int) := by
  have h1 : decide ((0 : Int) ≤ (n : Int)) = true := decide_eq_true (Int.natCast_nonneg n)
  have h2 : decide ((0 : Int) ≤ Builtin.bitNot (m : Int)) = false := decide_eq_false (by unfold Builtin.bitNot; omega)
  have h3 : (Builtin.bitNot (Builtin.bitNot (m : Int))).toNat = m := by
    unfold Builtin.bitNot
    omega
  unfold Builtin.bitAnd
  rw [h1, h2]
  show (n : Int) - (((n : Int).toNat &&& (Builtin.bitNot (Builtin.bitNot (m : Int))).toNat : Nat) : Int) = _
  rw [h3, Int.toNat_natCast]
  have : n &&& m ≤ n := Nat.and_le_left
  omega
theorem n_andC : OpR X (binaryOp .BitAnd) rAndC := by
  intro pins s σ H x y v u Q I rx ry h
  obtain ⟨n, m, rfl, rfl, q⟩ := h
  rw [← bC] at q
  exact op_and pins s σ H _ _ v u Q I rx ry ⟨_, _, rfl, rfl, q⟩
def rAddE : R2 := fun x y H Q => ∃ i j k : Int, x = .int i ∧ y = .int j ∧ i + j = k ∧ Q (.int k) H
theorem op_addE : OpR X (binaryOp .Add) rAddE := by
  intro pins s σ H x y v u Q I rx ry h
  obtain ⟨i, j, k, rfl, rfl, rfl, q⟩ := h
  exact op_add pins s σ H _ _ v u Q I rx ry ⟨_, _, rfl, rfl, q⟩
def rModN : R2 := fun x y H Q => ∃ n m : Nat, x = .int (n : Int) ∧ y = .int (m : Int) ∧ 0 < m ∧ Q (.int ((n % m : Nat) : Int)) H
theorem n_mod : OpR X (binaryOp .Mod) rModN := by
  intro pins s σ H x y v u Q I rx ry h
  obtain ⟨n, m, rfl, rfl, c, q⟩ := h
  rw [Int.natCast_emod] at q
  exact op_mod pins s σ H _ _ v u Q I rx ry ⟨_, _, rfl, rfl, (by show (0 : Int) < (m : Int); omega), q⟩
def rMulN : R2 := fun x y H Q => ∃ n m : Nat, x = .int (n : Int) ∧ y = .int (m : Int) ∧ n ≤ 4294967296 ∧ Q (.int ((n * m : Nat) : Int)) H
theorem n_mul : OpR X (binaryOp .Mult) rMulN := op_mulN
end
end K11

set_option Elab.async false
set_option linter.all false
set_option maxRecDepth 100000
set_option maxHeartbeats 2000000
namespace K11
open PySem PySem.Spec PyProof.Rows L2
/-! ### helpers: what stays, facts as tuples -/
theorem Kept.sqt {K : PySem.W.Frag} {D : Addr → Prop} {H H1 : Hp} (a : Kept D H H1) {p : Addr} {xs : List V} (h : SqT K H p xs) (n : ¬ D p) : SqT K H1 p xs := by
  rcases h with (h | ⟨o, h⟩) | h
  · exact .inl (.inl (a.tup h n))
  · exact .inl (.inr ⟨o, a.frz h n⟩)
  · exact .inr h
theorem sqt_new {K : PySem.W.Frag} {H : Hp} {p b : Addr} {xs : List V} {o : HO} (h : SqT K H p xs) (n : H b = none) : SqT K (upd H b o) p xs := by
  rcases h with (h | ⟨o', h⟩) | h
  · exact .inl (.inl (by rw [upd_ne (ne_of_none h n)]; exact h))
  · exact .inl (.inr ⟨o', by rw [upd_ne (ne_of_none h n)]; exact h⟩)
  · exact .inr h
theorem sqt_upd {K : PySem.W.Frag} {H : Hp} {p b : Addr} {xs ys zs : List V} (h : SqT K H p xs) (e : H b = some (.lst ys)) : SqT K (upd H b (.lst zs)) p xs := by
  rcases h with (h | ⟨o', h⟩) | h
  · exact .inl (.inl (by rw [upd_ne (ne_of h e (by intro z; cases z))]; exact h))
  · exact .inl (.inr ⟨o', by rw [upd_ne (ne_of h e (by intro z; cases z))]; exact h⟩)
  · exact .inr h
theorem sql_new {K : PySem.W.Frag} {H : Hp} {p b : Addr} {xs : List V} {o : HO} (h : SqL K H p xs) (n : H b = none) : SqL K (upd H b o) p xs := by
  rcases h with (h | ⟨o', h⟩) | h
  · exact .inl (.inl (by rw [upd_ne (ne_of_none h n)]; exact h))
  · exact .inl (.inr ⟨o', by rw [upd_ne (ne_of_none h n)]; exact h⟩)
  · exact .inr h
theorem Kept.nu {H H1 : Hp} {d c p : Addr} {o : HO} {ns : List Int} {n : Nat} (k : Kept (At d) H H1) (D : Dr H1 d c ns n) (h : H1 p = none) : Kept (At d) H (L2.upd H1 p o) := k.new (At.free k D h)
def two (z o : Nat) : List V := [.int (z : Int), .int (o : Int)]
def twoF (f : Nat × Nat) : List V := two f.1 f.2
def most (w : Nat) : Nat := 2 ^ w - 1
theorem pow_bound {w : Nat} (h : w ≤ 12) : (2 : Nat) ^ w ≤ 4096 := Nat.pow_le_pow_right (by decide) h
theorem pow_pos' {w : Nat} : 1 ≤ (2 : Nat) ^ w := Nat.one_le_two_pow
theorem most_pow (w : Nat) : most w + 1 = 2 ^ w := by
  have := pow_pos' (w := w)
  unfold most
  omega
theorem dpTwo {K : PySem.W.Frag} {H : Hp} {p : Addr} {z o : Nat} (h : SqT K H p (two z o)) : Dp K H (.ref p) (.tuple [.int z, .int o]) := .tup h (.cons (.int _) (.cons (.int _) .nil))
def nums (l : List Nat) : List V := l.map fun n : Nat => V.int (n : Int)
def numsD (l : List Nat) : PyData := .list (l.map fun n : Nat => PyData.int (n : Int))
theorem dpNums {K : PySem.W.Frag} {H : Hp} : ∀ l : List Nat, DpAll K H (nums l) (l.map fun n : Nat => PyData.int (n : Int))
  | [] => .nil
  | x :: l => .cons (.int _) (dpNums l)
theorem small_log {i : Int} (h0 : 0 ≤ i) (h1 : i < 1000000000) : i.natAbs.log2 < 1920 := by
  by_cases h : i.natAbs = 0
  · rw [h]; decide
  · exact (Nat.log2_lt h).mpr (Nat.lt_of_lt_of_le (show i.natAbs < 2 ^ 30 by omega) (Nat.pow_le_pow_right (by decide) (by decide)))
theorem short_int {i : Int} (h0 : 0 ≤ i) (h1 : i < 1000000000) : (PyData.int i).leavesShort 2000 = true := by
  have e := int_text_len_1921 (small_log h0 h1)
  exact decide_eq_true (Nat.le_trans (show (PyData.shown (.int i)).length ≤ 1921 from e) (by decide))
theorem show_int {i : Int} (h0 : 0 ≤ i) (h1 : i < 1000000000) : (PyData.int i).showable = true := decide_eq_true (small_log h0 h1)
def dF (z o : Nat) : PyData := .tuple [.int z, .int o]
theorem dF_ok {z o : Nat} (hz : z < 5000) (ho : o < 5000) : (dF z o).showable = true ∧ (dF z o).shown.length ≤ sizeLine := by
  have a := short_int (i := (z : Int)) (by omega) (by omega)
  have b := short_int (i := (o : Int)) (by omega) (by omega)
  have c := show_int (i := (z : Int)) (by omega) (by omega)
  have d := show_int (i := (o : Int)) (by omega) (by omega)
  constructor
  · show (PyData.showable (PyData.int (z : Int)) && (PyData.showable (PyData.int (o : Int)) && true)) = true
    rw [c, d]; rfl
  · have e := PyData.shown_le_bulk 2000 (by decide) (dF z o) (by
      show (PyData.leavesShort 2000 (PyData.int (z : Int)) && (PyData.leavesShort 2000 (PyData.int (o : Int)) && true)) = true
      rw [a, b]; rfl)
    have f : (dF z o).bulk = 2 := rfl
    rw [f] at e
    rw [sizeLine_eq]
    omega
/-- a def that stands, with its promise -/
def Def (P : Program) (w : World) (K : PySem.W.Frag) (mg : PySem.Str → Option Value) (base : Heap) (k : Nat) (x : PySem.Str) (ps : List PySem.Str) (sp : Sp) : Prop := ∃ f fd, FnOk P w K mg base CX0 k f fd ps sp ∧ Binds K fd ps [] ∧ PySem.W.keepIn K (.ref f) = true ∧ mg x = some (.ref f)
def DefG (P : Program) (w : World) (K : PySem.W.Frag) (mg : PySem.Str → Option Value) (base : Heap) (k : Nat) (x : PySem.Str) (ps : List PySem.Str) (sp : Sp) : Prop := ∃ f fd, FnG P w K mg base k f fd ps sp ∧ Binds K fd ps [] ∧ PySem.W.keepIn K (.ref f) = true ∧ mg x = some (.ref f)
end K11

set_option Elab.async false
set_option linter.all false
set_option maxRecDepth 100000
set_option maxHeartbeats 2000000
namespace K11
open PySem PySem.Spec PyProof.Rows L2
/-! ### the program's bits: what comes of each expression -/
abbrev F2 : Type := Nat × Nat
def fCarried (m : Nat) (y z : F2) (c : Nat) : F2 :=
  let least := y.2 + z.2 + c
  let greatest := (m ^^^ y.1) + (m ^^^ z.1) + c
  let k0 := (y.1 ||| y.2) &&& (z.1 ||| z.2)
  let known := k0 - (k0 &&& (least ^^^ greatest))
  (known - (known &&& least), known &&& least)
def fSum (m : Nat) (y z : F2) : F2 := fCarried m y z 0
def fDiff (m : Nat) (y z : F2) : F2 := fCarried m y (z.2, z.1) 1
def fBoth (_ : Nat) (y z : F2) : F2 := (y.1 ||| z.1, y.2 &&& z.2)
def fEither (_ : Nat) (y z : F2) : F2 := (y.1 &&& z.1, y.2 ||| z.2)
def fUnlike (_ : Nat) (y z : F2) : F2 := ((y.1 &&& z.1) ||| (y.2 &&& z.2), (y.1 &&& z.2) ||| (y.2 &&& z.1))
def fTruth (m : Nat) (never always : Bool) : F2 := if never = true then (m, 0) else (m ^^^ 1, if always = true then 1 else 0)
def fSame (m : Nat) (y z : F2) : F2 := fTruth m (!decide ((y.1 &&& z.2) ||| (y.2 &&& z.1) = 0)) (decide ((y.1 &&& z.1) ||| (y.2 &&& z.2) = m))
def fBelow (m : Nat) (y z : F2) : F2 := fTruth m (decide (m ^^^ z.1 ≤ y.2)) (decide (m ^^^ y.1 < z.2))
def fUp (m : Nat) (y : F2) (k : Nat) : F2 := (((y.1 * 2 ^ k) ||| (2 ^ k - 1)) &&& m, (y.2 * 2 ^ k) &&& m)
def fDown (m : Nat) (y : F2) (k : Nat) : F2 := ((y.1 >>> k) ||| (m ^^^ (m >>> k)), y.2 >>> k)
def fCommon (y z : F2) : F2 := (y.1 &&& z.1, y.2 &&& z.2)
def fPick (m : Nat) (c y z : F2) : F2 := if c.2 ≠ 0 then y else if c.1 = m then z else fCommon y z
abbrev sCommon : Stmt := top 9
abbrev sNumberA : Stmt := top 12
abbrev sCopyA : Stmt := top 13
abbrev sSumA : Stmt := top 14
abbrev sDiffA : Stmt := top 15
abbrev sCarried : Stmt := top 16
abbrev sBothA : Stmt := top 17
abbrev sEitherA : Stmt := top 18
abbrev sUnlikeA : Stmt := top 19
abbrev sSameA : Stmt := top 20
abbrev sBelowA : Stmt := top 21
abbrev sTruth : Stmt := top 22
abbrev sUpA : Stmt := top 23
abbrev sDownA : Stmt := top 24
abbrev sPickA : Stmt := top 25
theorem scCommon : FnScope ["one", "other"] ["one", "other"] (defScope sCommon) := ⟨rfl, rfl, rfl, by decide +kernel, rfl, by decide +kernel, by decide +kernel⟩
theorem scNumberA : FnScope ["most", "n"] ["most", "n"] (defScope sNumberA) := ⟨rfl, rfl, rfl, by decide +kernel, rfl, by decide +kernel, by decide +kernel⟩
theorem scCopyA : FnScope ["most", "y"] ["most", "y"] (defScope sCopyA) := ⟨rfl, rfl, rfl, by decide +kernel, rfl, by decide +kernel, by decide +kernel⟩
theorem scSumA : FnScope ["most", "y", "z"] ["most", "y", "z"] (defScope sSumA) := ⟨rfl, rfl, rfl, by decide +kernel, rfl, by decide +kernel, by decide +kernel⟩
theorem scDiffA : FnScope ["most", "y", "z"] ["most", "y", "z"] (defScope sDiffA) := ⟨rfl, rfl, rfl, by decide +kernel, rfl, by decide +kernel, by decide +kernel⟩
theorem scCarried : FnScope ["most", "y", "z", "carry", "least", "greatest", "known"] ["most", "y", "z", "carry"] (defScope sCarried) := ⟨rfl, rfl, rfl, by decide +kernel, rfl, by decide +kernel, by decide +kernel⟩
theorem scBothA : FnScope ["most", "y", "z"] ["most", "y", "z"] (defScope sBothA) := ⟨rfl, rfl, rfl, by decide +kernel, rfl, by decide +kernel, by decide +kernel⟩
theorem scEitherA : FnScope ["most", "y", "z"] ["most", "y", "z"] (defScope sEitherA) := ⟨rfl, rfl, rfl, by decide +kernel, rfl, by decide +kernel, by decide +kernel⟩
theorem scUnlikeA : FnScope ["most", "y", "z"] ["most", "y", "z"] (defScope sUnlikeA) := ⟨rfl, rfl, rfl, by decide +kernel, rfl, by decide +kernel, by decide +kernel⟩
theorem scSameA : FnScope ["most", "y", "z", "never", "always"] ["most", "y", "z"] (defScope sSameA) := ⟨rfl, rfl, rfl, by decide +kernel, rfl, by decide +kernel, by decide +kernel⟩
theorem scBelowA : FnScope ["most", "y", "z", "never", "always"] ["most", "y", "z"] (defScope sBelowA) := ⟨rfl, rfl, rfl, by decide +kernel, rfl, by decide +kernel, by decide +kernel⟩
theorem scTruth : FnScope ["most", "never", "always"] ["most", "never", "always"] (defScope sTruth) := ⟨rfl, rfl, rfl, by decide +kernel, rfl, by decide +kernel, by decide +kernel⟩
theorem scUpA : FnScope ["most", "y", "k", "come_in"] ["most", "y", "k"] (defScope sUpA) := ⟨rfl, rfl, rfl, by decide +kernel, rfl, by decide +kernel, by decide +kernel⟩
theorem scDownA : FnScope ["most", "y", "k", "come_in"] ["most", "y", "k"] (defScope sDownA) := ⟨rfl, rfl, rfl, by decide +kernel, rfl, by decide +kernel, by decide +kernel⟩
theorem scPickA : FnScope ["most", "c", "y", "z"] ["most", "c", "y", "z"] (defScope sPickA) := ⟨rfl, rfl, rfl, by decide +kernel, rfl, by decide +kernel, by decide +kernel⟩
/-- facts are handed back: a tuple, perhaps one that stood there -/
def Gives (K : PySem.W.Frag) (H : Hp) (Q : VK) (f : F2) : Prop := ∀ (t : Addr) (H' : Hp), Kept None H H' → SqT K H' t (twoF f) → Q (.ref t) H'
theorem Gives.new {K : PySem.W.Frag} {H : Hp} {Q : VK} {f : F2} (q : Gives K H Q f) {t : Addr} (h : H t = none) : Q (.ref t) (upd H t (.tup [.int (f.1 : Int), .int (f.2 : Int)])) := q t _ (Kept.refl.new h) (SqT.of upd_same)
def spCommon (K : PySem.W.Frag) : Sp := fun vs H Q _ => ∃ (p r : Addr) (y z : F2), vs = [.ref p, .ref r] ∧ SqT K H p (twoF y) ∧ SqT K H r (twoF z) ∧ Gives K H Q (fCommon y z)
def spNum (K : PySem.W.Frag) : Sp := fun vs H Q _ => ∃ m n : Nat, vs = [.int (m : Int), .int (n : Int)] ∧ Gives K H Q (m ^^^ n, n)
def spCopy (K : PySem.W.Frag) : Sp := fun vs H Q _ => ∃ (m : Nat) (p : Addr) (y : F2), vs = [.int (m : Int), .ref p] ∧ SqT K H p (twoF y) ∧ Gives K H Q y
def spTwo (K : PySem.W.Frag) (g : Nat → F2 → F2 → F2) : Sp := fun vs H Q _ => ∃ (m : Nat) (p r : Addr) (y z : F2), vs = [.int (m : Int), .ref p, .ref r] ∧ SqT K H p (twoF y) ∧ SqT K H r (twoF z) ∧ Gives K H Q (g m y z)
def spCarried (K : PySem.W.Frag) : Sp := fun vs H Q _ => ∃ (m : Nat) (p r : Addr) (y z : F2) (c : Nat), vs = [.int (m : Int), .ref p, .ref r, .int (c : Int)] ∧ SqT K H p (twoF y) ∧ SqT K H r (twoF z) ∧ Gives K H Q (fCarried m y z c)
def spTruth (K : PySem.W.Frag) : Sp := fun vs H Q _ => ∃ (m : Nat) (a b : Bool), vs = [.int (m : Int), .bl a, .bl b] ∧ Gives K H Q (fTruth m a b)
def spShift (K : PySem.W.Frag) (g : Nat → F2 → Nat → F2) : Sp := fun vs H Q _ => ∃ (m : Nat) (p : Addr) (y : F2) (k : Nat), vs = [.int (m : Int), .ref p, .int (k : Int)] ∧ SqT K H p (twoF y) ∧ y.1 < 5000 ∧ y.2 < 5000 ∧ k ≤ 100 ∧ Gives K H Q (g m y k)
def spPick (K : PySem.W.Frag) : Sp := fun vs H Q _ => ∃ (m : Nat) (p r t : Addr) (c y z : F2), vs = [.int (m : Int), .ref p, .ref r, .ref t] ∧ SqT K H p (twoF c) ∧ SqT K H r (twoF y) ∧ SqT K H t (twoF z) ∧ Gives K H Q (fPick m c y z)
section
variable {P : Program} {w : World} {K : PySem.W.Frag} {mg : PySem.Str → Option Value} {base : Heap} {f : Addr} {fd : FuncData}
theorem ok_common (F : FnP K "common_facts" sCommon f fd) : FnOk P w K mg base CX0 1 f fd ["one", "other"] (spCommon K) := by
  refine F.ok (k := 0) scCommon (fun vs H Q E h => ?_) (fun cdv A outer s H vs Q E hr h => ?_)
  · obtain ⟨p, r, y, z, rfl, _⟩ := h
    rfl
  · obtain ⟨p, r, y, z, rfl, h1, h2, q⟩ := h
    refine ⟨_, PSs.nox (pss_one (ps_ret (pe_tup (pa_cons (pe_op n_and (pe_ix ix_tup (pv 0) pe_int (fun _ _ => rfl)) (pe_ix ix_tup (pv 1) pe_int (fun _ _ => rfl))) (pa_cons (pe_op n_and (pe_ix ix_tup (pv 0) pe_int (fun _ _ => rfl)) (pe_ix ix_tup (pv 1) pe_int (fun _ _ => rfl))) pa_nil))))), ?_⟩
    exact ⟨.ref p, rfl, p, twoF y, 0, .int y.1, rfl, rfl, h1, atI_nat (j := 0) rfl, .ref r, rfl, r, twoF z, 0, .int z.1, rfl, rfl, h2, atI_nat (j := 0) rfl, y.1, z.1, rfl, rfl,
      .ref p, rfl, p, twoF y, 1, .int y.2, rfl, rfl, h1, atI_nat (j := 1) rfl, .ref r, rfl, r, twoF z, 1, .int z.2, rfl, rfl, h2, atI_nat (j := 1) rfl, y.2, z.2, rfl, rfl, by show 2 ≤ sizeLine; decide, fun t ht => q.new ht⟩
theorem ok_number (F : FnP K "_number" sNumberA f fd) : FnOk P w K mg base CX0 1 f fd ["most", "n"] (spNum K) := by
  refine F.ok (k := 0) scNumberA (fun vs H Q E h => ?_) (fun cdv A outer s H vs Q E hr h => ?_)
  · obtain ⟨m, n, rfl, _⟩ := h
    rfl
  · obtain ⟨m, n, rfl, q⟩ := h
    refine ⟨_, PSs.nox (pss_one (ps_ret (pe_tup (pa_cons (pe_op n_xor (pv 0) (pv 1)) (pa_cons (pv 1) pa_nil))))), ?_⟩
    exact ⟨.int m, rfl, .int n, rfl, m, n, rfl, rfl, .int n, rfl, by show 2 ≤ sizeLine; decide, fun t ht => q.new ht⟩
theorem ok_copy (F : FnP K "_copy" sCopyA f fd) : FnOk P w K mg base CX0 1 f fd ["most", "y"] (spCopy K) := by
  refine F.ok (k := 0) scCopyA (fun vs H Q E h => ?_) (fun cdv A outer s H vs Q E hr h => ?_)
  · obtain ⟨m, p, y, rfl, _⟩ := h
    rfl
  · obtain ⟨m, p, y, rfl, h1, q⟩ := h
    refine ⟨_, PSs.nox (pss_one (ps_ret (pv 1))), ?_⟩
    exact ⟨.ref p, rfl, q p H Kept.refl h1⟩
theorem ok_carried (F : FnP K "_carried" sCarried f fd) : FnOk P w K mg base CX0 1 f fd ["most", "y", "z", "carry"] (spCarried K) := by
  refine F.ok (k := 0) scCarried (fun vs H Q E h => ?_) (fun cdv A outer s H vs Q E hr h => ?_)
  · obtain ⟨m, p, r, y, z, c, rfl, _⟩ := h
    rfl
  · obtain ⟨m, p, r, y, z, c, rfl, h1, h2, q⟩ := h
    refine ⟨_, PSs.nox (pss_cons (ps_set (i := 4) scCarried.nd rfl (Or.inl rfl) (pe_op n_add (pe_op n_add (pe_ix ix_tup (pv 1) pe_int (fun _ _ => rfl)) (pe_ix ix_tup (pv 2) pe_int (fun _ _ => rfl))) (pv 3)))
      (pss_cons (ps_set (i := 5) scCarried.nd rfl (Or.inl rfl) (pe_op n_add (pe_op n_add (pe_op n_xor (pv 0) (pe_ix ix_tup (pv 1) pe_int (fun _ _ => rfl))) (pe_op n_xor (pv 0) (pe_ix ix_tup (pv 2) pe_int (fun _ _ => rfl)))) (pv 3)))
      (pss_cons (ps_set (i := 6) scCarried.nd rfl (Or.inl rfl) (pe_op n_andC (pe_op n_and (pe_op n_or (pe_ix ix_tup (pv 1) pe_int (fun _ _ => rfl)) (pe_ix ix_tup (pv 1) pe_int (fun _ _ => rfl))) (pe_op n_or (pe_ix ix_tup (pv 2) pe_int (fun _ _ => rfl)) (pe_ix ix_tup (pv 2) pe_int (fun _ _ => rfl)))) (pe_un un_inv (pe_op n_xor (pv 4) (pv 5)))))
      (pss_one (ps_ret (pe_tup (pa_cons (pe_op n_andC (pv 6) (pe_un un_inv (pv 4))) (pa_cons (pe_op n_and (pv 6) (pv 4)) pa_nil)))))))), ?_⟩
    refine ⟨.ref p, rfl, p, twoF y, 1, .int y.2, rfl, rfl, h1, atI_nat (j := 1) rfl, .ref r, rfl, r, twoF z, 1, .int z.2, rfl, rfl, h2, atI_nat (j := 1) rfl, y.2, z.2, rfl, rfl, .int c, rfl, y.2 + z.2, c, rfl, rfl, ?_⟩
    refine ⟨.int m, rfl, .ref p, rfl, p, twoF y, 0, .int y.1, rfl, rfl, h1, atI_nat (j := 0) rfl, m, y.1, rfl, rfl, .int m, rfl, .ref r, rfl, r, twoF z, 0, .int z.1, rfl, rfl, h2, atI_nat (j := 0) rfl, m, z.1, rfl, rfl, m ^^^ y.1, m ^^^ z.1, rfl, rfl, .int c, rfl, (m ^^^ y.1) + (m ^^^ z.1), c, rfl, rfl, ?_⟩
    refine ⟨.ref p, rfl, p, twoF y, 0, .int y.1, rfl, rfl, h1, atI_nat (j := 0) rfl, .ref p, rfl, p, twoF y, 1, .int y.2, rfl, rfl, h1, atI_nat (j := 1) rfl, y.1, y.2, rfl, rfl, .ref r, rfl, r, twoF z, 0, .int z.1, rfl, rfl, h2, atI_nat (j := 0) rfl, .ref r, rfl, r, twoF z, 1, .int z.2, rfl, rfl, h2, atI_nat (j := 1) rfl, z.1, z.2, rfl, rfl, y.1 ||| y.2, z.1 ||| z.2, rfl, rfl,
      _, rfl, _, rfl, y.2 + z.2 + c, (m ^^^ y.1) + (m ^^^ z.1) + c, rfl, rfl, (((y.2 + z.2 + c) ^^^ ((m ^^^ y.1) + (m ^^^ z.1) + c) : Nat) : Int), rfl, (y.1 ||| y.2) &&& (z.1 ||| z.2), (y.2 + z.2 + c) ^^^ ((m ^^^ y.1) + (m ^^^ z.1) + c), rfl, rfl, ?_⟩
    refine ⟨_, rfl, _, rfl, ((y.2 + z.2 + c : Nat) : Int), rfl, _, y.2 + z.2 + c, rfl, rfl, _, rfl, _, rfl, _, y.2 + z.2 + c, rfl, rfl, by show 2 ≤ sizeLine; decide, fun t ht => ?_⟩
    exact Gives.new (f := fCarried m y z c) q ht
end
end K11

set_option Elab.async false
set_option linter.all false
set_option maxRecDepth 100000
set_option maxHeartbeats 2000000
namespace K11
open PySem PySem.Spec PyProof.Rows L2
section
variable {P : Program} {w : World} {K : PySem.W.Frag} {mg : PySem.Str → Option Value} {base : Heap} {f fC : Addr} {fd fdC : FuncData}
theorem ok_sum (F : FnP K "_sum" sSumA f fd) (G : FnOk P w K mg base CX0 1 fC fdC ["most", "y", "z", "carry"] (spCarried K)) (bC : Binds K fdC ["most", "y", "z", "carry"] []) (kC : PySem.W.keepIn K (.ref fC) = true) (gC : mg "_carried" = some (.ref fC)) : FnOk P w K mg base CX0 2 f fd ["most", "y", "z"] (spTwo K fSum) := by
  refine F.ok (k := 1) scSumA (fun vs H Q E h => ?_) (fun cdv A outer s H vs Q E hr h => ?_)
  · obtain ⟨m, p, r, y, z, rfl, _⟩ := h
    rfl
  · obtain ⟨m, p, r, y, z, rfl, h1, h2, q⟩ := h
    refine ⟨_, PSs.nox (pss_one (ps_ret (pe_call G hr (by rfl) gC kC bC .nil pass0 (pa_cons (pv 0) (pa_cons (pv 1) (pa_cons (pv 2) (pa_cons pe_int pa_nil))))))), ?_⟩
    exact ⟨.int m, rfl, .ref p, rfl, .ref r, rfl, m, p, r, y, z, 0, rfl, h1, h2, q⟩
theorem ok_diff (F : FnP K "_difference" sDiffA f fd) (G : FnOk P w K mg base CX0 1 fC fdC ["most", "y", "z", "carry"] (spCarried K)) (bC : Binds K fdC ["most", "y", "z", "carry"] []) (kC : PySem.W.keepIn K (.ref fC) = true) (gC : mg "_carried" = some (.ref fC)) : FnOk P w K mg base CX0 2 f fd ["most", "y", "z"] (spTwo K fDiff) := by
  refine F.ok (k := 1) scDiffA (fun vs H Q E h => ?_) (fun cdv A outer s H vs Q E hr h => ?_)
  · obtain ⟨m, p, r, y, z, rfl, _⟩ := h
    rfl
  · obtain ⟨m, p, r, y, z, rfl, h1, h2, q⟩ := h
    refine ⟨_, PSs.nox (pss_one (ps_ret (pe_call G hr (by rfl) gC kC bC .nil pass0 (pa_cons (pv 0) (pa_cons (pv 1) (pa_cons (pe_tup (pa_cons (pe_ix ix_tup (pv 2) pe_int (fun _ _ => rfl)) (pa_cons (pe_ix ix_tup (pv 2) pe_int (fun _ _ => rfl)) pa_nil))) (pa_cons pe_int pa_nil))))))), ?_⟩
    refine ⟨.int m, rfl, .ref p, rfl, .ref r, rfl, r, twoF z, 1, .int z.2, rfl, rfl, h2, atI_nat (j := 1) rfl, .ref r, rfl, r, twoF z, 0, .int z.1, rfl, rfl, h2, atI_nat (j := 0) rfl, by show 2 ≤ sizeLine; decide, fun t ht => ?_⟩
    exact ⟨m, p, t, y, (z.2, z.1), 1, rfl, sqt_new h1 ht, SqT.of upd_same, fun t2 H' k e => q t2 H' ((Kept.refl.new ht).trans k) e⟩
theorem ok_both (F : FnP K "_both" sBothA f fd) : FnOk P w K mg base CX0 1 f fd ["most", "y", "z"] (spTwo K fBoth) := by
  refine F.ok (k := 0) scBothA (fun vs H Q E h => ?_) (fun cdv A outer s H vs Q E hr h => ?_)
  · obtain ⟨m, p, r, y, z, rfl, _⟩ := h
    rfl
  · obtain ⟨m, p, r, y, z, rfl, h1, h2, q⟩ := h
    refine ⟨_, PSs.nox (pss_one (ps_ret (pe_tup (pa_cons (pe_op n_or (pe_ix ix_tup (pv 1) pe_int (fun _ _ => rfl)) (pe_ix ix_tup (pv 2) pe_int (fun _ _ => rfl))) (pa_cons (pe_op n_and (pe_ix ix_tup (pv 1) pe_int (fun _ _ => rfl)) (pe_ix ix_tup (pv 2) pe_int (fun _ _ => rfl))) pa_nil))))), ?_⟩
    exact ⟨.ref p, rfl, p, twoF y, 0, .int y.1, rfl, rfl, h1, atI_nat (j := 0) rfl, .ref r, rfl, r, twoF z, 0, .int z.1, rfl, rfl, h2, atI_nat (j := 0) rfl, y.1, z.1, rfl, rfl,
      .ref p, rfl, p, twoF y, 1, .int y.2, rfl, rfl, h1, atI_nat (j := 1) rfl, .ref r, rfl, r, twoF z, 1, .int z.2, rfl, rfl, h2, atI_nat (j := 1) rfl, y.2, z.2, rfl, rfl, by show 2 ≤ sizeLine; decide, fun t ht => Gives.new (f := fBoth m y z) q ht⟩
theorem ok_either (F : FnP K "_either" sEitherA f fd) : FnOk P w K mg base CX0 1 f fd ["most", "y", "z"] (spTwo K fEither) := by
  refine F.ok (k := 0) scEitherA (fun vs H Q E h => ?_) (fun cdv A outer s H vs Q E hr h => ?_)
  · obtain ⟨m, p, r, y, z, rfl, _⟩ := h
    rfl
  · obtain ⟨m, p, r, y, z, rfl, h1, h2, q⟩ := h
    refine ⟨_, PSs.nox (pss_one (ps_ret (pe_tup (pa_cons (pe_op n_and (pe_ix ix_tup (pv 1) pe_int (fun _ _ => rfl)) (pe_ix ix_tup (pv 2) pe_int (fun _ _ => rfl))) (pa_cons (pe_op n_or (pe_ix ix_tup (pv 1) pe_int (fun _ _ => rfl)) (pe_ix ix_tup (pv 2) pe_int (fun _ _ => rfl))) pa_nil))))), ?_⟩
    exact ⟨.ref p, rfl, p, twoF y, 0, .int y.1, rfl, rfl, h1, atI_nat (j := 0) rfl, .ref r, rfl, r, twoF z, 0, .int z.1, rfl, rfl, h2, atI_nat (j := 0) rfl, y.1, z.1, rfl, rfl,
      .ref p, rfl, p, twoF y, 1, .int y.2, rfl, rfl, h1, atI_nat (j := 1) rfl, .ref r, rfl, r, twoF z, 1, .int z.2, rfl, rfl, h2, atI_nat (j := 1) rfl, y.2, z.2, rfl, rfl, by show 2 ≤ sizeLine; decide, fun t ht => Gives.new (f := fEither m y z) q ht⟩
theorem ok_unlike (F : FnP K "_unlike" sUnlikeA f fd) : FnOk P w K mg base CX0 1 f fd ["most", "y", "z"] (spTwo K fUnlike) := by
  refine F.ok (k := 0) scUnlikeA (fun vs H Q E h => ?_) (fun cdv A outer s H vs Q E hr h => ?_)
  · obtain ⟨m, p, r, y, z, rfl, _⟩ := h
    rfl
  · obtain ⟨m, p, r, y, z, rfl, h1, h2, q⟩ := h
    refine ⟨_, PSs.nox (pss_one (ps_ret (pe_tup (pa_cons (pe_op n_or (pe_op n_and (pe_ix ix_tup (pv 1) pe_int (fun _ _ => rfl)) (pe_ix ix_tup (pv 2) pe_int (fun _ _ => rfl))) (pe_op n_and (pe_ix ix_tup (pv 1) pe_int (fun _ _ => rfl)) (pe_ix ix_tup (pv 2) pe_int (fun _ _ => rfl)))) (pa_cons (pe_op n_or (pe_op n_and (pe_ix ix_tup (pv 1) pe_int (fun _ _ => rfl)) (pe_ix ix_tup (pv 2) pe_int (fun _ _ => rfl))) (pe_op n_and (pe_ix ix_tup (pv 1) pe_int (fun _ _ => rfl)) (pe_ix ix_tup (pv 2) pe_int (fun _ _ => rfl)))) pa_nil))))), ?_⟩
    exact ⟨.ref p, rfl, p, twoF y, 0, .int y.1, rfl, rfl, h1, atI_nat (j := 0) rfl, .ref r, rfl, r, twoF z, 0, .int z.1, rfl, rfl, h2, atI_nat (j := 0) rfl, y.1, z.1, rfl, rfl,
      .ref p, rfl, p, twoF y, 1, .int y.2, rfl, rfl, h1, atI_nat (j := 1) rfl, .ref r, rfl, r, twoF z, 1, .int z.2, rfl, rfl, h2, atI_nat (j := 1) rfl, y.2, z.2, rfl, rfl, y.1 &&& z.1, y.2 &&& z.2, rfl, rfl,
      .ref p, rfl, p, twoF y, 0, .int y.1, rfl, rfl, h1, atI_nat (j := 0) rfl, .ref r, rfl, r, twoF z, 1, .int z.2, rfl, rfl, h2, atI_nat (j := 1) rfl, y.1, z.2, rfl, rfl,
      .ref p, rfl, p, twoF y, 1, .int y.2, rfl, rfl, h1, atI_nat (j := 1) rfl, .ref r, rfl, r, twoF z, 0, .int z.1, rfl, rfl, h2, atI_nat (j := 0) rfl, y.2, z.1, rfl, rfl, y.1 &&& z.2, y.2 &&& z.1, rfl, rfl,
      by show 2 ≤ sizeLine; decide, fun t ht => Gives.new (f := fUnlike m y z) q ht⟩
theorem ok_truth (F : FnP K "_truth" sTruth f fd) : FnOk P w K mg base CX0 1 f fd ["most", "never", "always"] (spTruth K) := by
  refine F.ok (k := 0) scTruth (fun vs H Q E h => ?_) (fun cdv A outer s H vs Q E hr h => ?_)
  · obtain ⟨m, a, b, rfl, _⟩ := h
    rfl
  · obtain ⟨m, a, b, rfl, q⟩ := h
    refine ⟨_, PSs.nox (pss_cons (ps_if (pt_val (pv 1)) (pss_one (ps_ret (pe_tup (pa_cons (pv 0) (pa_cons pe_int pa_nil))))) pss_nil)
      (pss_one (ps_ret (pe_tup (pa_cons (pe_op n_xor (pv 0) pe_int) (pa_cons (pe_ifExp (pt_val (pv 2)) pe_int pe_int) pa_nil)))))), ?_⟩
    refine ⟨.bl a, rfl, a, rfl, ?_⟩
    cases a with
    | true => exact iteT ⟨.int m, rfl, by show 2 ≤ sizeLine; decide, fun t ht => Gives.new (f := fTruth m true b) q ht⟩
    | false =>
      refine iteF ⟨.int m, rfl, m, 1, rfl, rfl, .bl b, rfl, b, rfl, ?_⟩
      cases b with
      | true => exact iteT ⟨by show 2 ≤ sizeLine; decide, fun t ht => Gives.new (f := fTruth m false true) q ht⟩
      | false => exact iteF ⟨by show 2 ≤ sizeLine; decide, fun t ht => Gives.new (f := fTruth m false false) q ht⟩
theorem ok_same (F : FnP K "_same" sSameA f fd) (G : FnOk P w K mg base CX0 1 fC fdC ["most", "never", "always"] (spTruth K)) (bC : Binds K fdC ["most", "never", "always"] []) (kC : PySem.W.keepIn K (.ref fC) = true) (gC : mg "_truth" = some (.ref fC)) : FnOk P w K mg base CX0 2 f fd ["most", "y", "z"] (spTwo K fSame) := by
  refine F.ok (k := 1) scSameA (fun vs H Q E h => ?_) (fun cdv A outer s H vs Q E hr h => ?_)
  · obtain ⟨m, p, r, y, z, rfl, _⟩ := h
    rfl
  · obtain ⟨m, p, r, y, z, rfl, h1, h2, q⟩ := h
    refine ⟨_, PSs.nox (pss_cons (ps_set (i := 3) scSameA.nd rfl (Or.inl rfl) (pe_cmpR n_ne (pe_op n_or (pe_op n_and (pe_ix ix_tup (pv 1) pe_int (fun _ _ => rfl)) (pe_ix ix_tup (pv 2) pe_int (fun _ _ => rfl))) (pe_op n_and (pe_ix ix_tup (pv 1) pe_int (fun _ _ => rfl)) (pe_ix ix_tup (pv 2) pe_int (fun _ _ => rfl)))) pe_int (nomark _)))
      (pss_cons (ps_set (i := 4) scSameA.nd rfl (Or.inl rfl) (pe_cmpR n_eq (pe_op n_or (pe_op n_and (pe_ix ix_tup (pv 1) pe_int (fun _ _ => rfl)) (pe_ix ix_tup (pv 2) pe_int (fun _ _ => rfl))) (pe_op n_and (pe_ix ix_tup (pv 1) pe_int (fun _ _ => rfl)) (pe_ix ix_tup (pv 2) pe_int (fun _ _ => rfl)))) (pv 0) (nomark _)))
      (pss_one (ps_ret (pe_call G hr (by rfl) gC kC bC .nil pass0 (pa_cons (pv 0) (pa_cons (pv 3) (pa_cons (pv 4) pa_nil)))))))), ?_⟩
    refine ⟨.ref p, rfl, p, twoF y, 0, .int y.1, rfl, rfl, h1, atI_nat (j := 0) rfl, .ref r, rfl, r, twoF z, 1, .int z.2, rfl, rfl, h2, atI_nat (j := 1) rfl, y.1, z.2, rfl, rfl,
      .ref p, rfl, p, twoF y, 1, .int y.2, rfl, rfl, h1, atI_nat (j := 1) rfl, .ref r, rfl, r, twoF z, 0, .int z.1, rfl, rfl, h2, atI_nat (j := 0) rfl, y.2, z.1, rfl, rfl, y.1 &&& z.2, y.2 &&& z.1, rfl, rfl, (y.1 &&& z.2) ||| (y.2 &&& z.1), 0, rfl, rfl, ?_⟩
    refine ⟨.ref p, rfl, p, twoF y, 0, .int y.1, rfl, rfl, h1, atI_nat (j := 0) rfl, .ref r, rfl, r, twoF z, 0, .int z.1, rfl, rfl, h2, atI_nat (j := 0) rfl, y.1, z.1, rfl, rfl,
      .ref p, rfl, p, twoF y, 1, .int y.2, rfl, rfl, h1, atI_nat (j := 1) rfl, .ref r, rfl, r, twoF z, 1, .int z.2, rfl, rfl, h2, atI_nat (j := 1) rfl, y.2, z.2, rfl, rfl, y.1 &&& z.1, y.2 &&& z.2, rfl, rfl, .int m, rfl, (y.1 &&& z.1) ||| (y.2 &&& z.2), m, rfl, rfl, ?_⟩
    exact ⟨.int m, rfl, _, rfl, _, rfl, m, _, _, rfl, q⟩
theorem ok_below (F : FnP K "_below" sBelowA f fd) (G : FnOk P w K mg base CX0 1 fC fdC ["most", "never", "always"] (spTruth K)) (bC : Binds K fdC ["most", "never", "always"] []) (kC : PySem.W.keepIn K (.ref fC) = true) (gC : mg "_truth" = some (.ref fC)) : FnOk P w K mg base CX0 2 f fd ["most", "y", "z"] (spTwo K fBelow) := by
  refine F.ok (k := 1) scBelowA (fun vs H Q E h => ?_) (fun cdv A outer s H vs Q E hr h => ?_)
  · obtain ⟨m, p, r, y, z, rfl, _⟩ := h
    rfl
  · obtain ⟨m, p, r, y, z, rfl, h1, h2, q⟩ := h
    refine ⟨_, PSs.nox (pss_cons (ps_set (i := 3) scBelowA.nd rfl (Or.inl rfl) (pe_cmpR n_ge (pe_ix ix_tup (pv 1) pe_int (fun _ _ => rfl)) (pe_op n_xor (pv 0) (pe_ix ix_tup (pv 2) pe_int (fun _ _ => rfl))) (nomark _)))
      (pss_cons (ps_set (i := 4) scBelowA.nd rfl (Or.inl rfl) (pe_cmpR n_lt (pe_op n_xor (pv 0) (pe_ix ix_tup (pv 1) pe_int (fun _ _ => rfl))) (pe_ix ix_tup (pv 2) pe_int (fun _ _ => rfl)) (nomark _)))
      (pss_one (ps_ret (pe_call G hr (by rfl) gC kC bC .nil pass0 (pa_cons (pv 0) (pa_cons (pv 3) (pa_cons (pv 4) pa_nil)))))))), ?_⟩
    refine ⟨.ref p, rfl, p, twoF y, 1, .int y.2, rfl, rfl, h1, atI_nat (j := 1) rfl, .int m, rfl, .ref r, rfl, r, twoF z, 0, .int z.1, rfl, rfl, h2, atI_nat (j := 0) rfl, m, z.1, rfl, rfl, y.2, m ^^^ z.1, rfl, rfl, ?_⟩
    refine ⟨.int m, rfl, .ref p, rfl, p, twoF y, 0, .int y.1, rfl, rfl, h1, atI_nat (j := 0) rfl, m, y.1, rfl, rfl, .ref r, rfl, r, twoF z, 1, .int z.2, rfl, rfl, h2, atI_nat (j := 1) rfl, m ^^^ y.1, z.2, rfl, rfl, ?_⟩
    exact ⟨.int m, rfl, _, rfl, _, rfl, m, _, _, rfl, q⟩
theorem ok_up (F : FnP K "_up" sUpA f fd) : FnOk P w K mg base CX0 1 f fd ["most", "y", "k"] (spShift K fUp) := by
  refine F.ok (k := 0) scUpA (fun vs H Q E h => ?_) (fun cdv A outer s H vs Q E hr h => ?_)
  · obtain ⟨m, p, y, k, rfl, _⟩ := h
    rfl
  · obtain ⟨m, p, y, k, rfl, h1, b1, b2, hk, q⟩ := h
    refine ⟨_, PSs.nox (pss_cons (ps_set (i := 3) scUpA.nd rfl (Or.inl rfl) (pe_op n_sub (pe_op n_bit pe_int (pv 2)) pe_int))
      (pss_one (ps_ret (pe_tup (pa_cons (pe_op n_and (pe_op n_or (pe_op n_shl (pe_ix ix_tup (pv 1) pe_int (fun _ _ => rfl)) (pv 2)) (pv 3)) (pv 0)) (pa_cons (pe_op n_and (pe_op n_shl (pe_ix ix_tup (pv 1) pe_int (fun _ _ => rfl)) (pv 2)) (pv 0)) pa_nil)))))), ?_⟩
    refine ⟨.int k, rfl, k, rfl, rfl, by omega, 2 ^ k, 1, rfl, rfl, pow_pos', ?_⟩
    exact ⟨.ref p, rfl, p, twoF y, 0, .int y.1, rfl, rfl, h1, atI_nat (j := 0) rfl, .int k, rfl, y.1, k, rfl, rfl, ⟨by omega, by omega⟩, .int ((2 ^ k - 1 : Nat) : Int), rfl, y.1 * 2 ^ k, 2 ^ k - 1, rfl, rfl, .int m, rfl, _, m, rfl, rfl,
      .ref p, rfl, p, twoF y, 1, .int y.2, rfl, rfl, h1, atI_nat (j := 1) rfl, .int k, rfl, y.2, k, rfl, rfl, ⟨by omega, by omega⟩, .int m, rfl, y.2 * 2 ^ k, m, rfl, rfl, by show 2 ≤ sizeLine; decide, fun t ht => Gives.new (f := fUp m y k) q ht⟩
theorem ok_down (F : FnP K "_down" sDownA f fd) : FnOk P w K mg base CX0 1 f fd ["most", "y", "k"] (spShift K fDown) := by
  refine F.ok (k := 0) scDownA (fun vs H Q E h => ?_) (fun cdv A outer s H vs Q E hr h => ?_)
  · obtain ⟨m, p, y, k, rfl, _⟩ := h
    rfl
  · obtain ⟨m, p, y, k, rfl, h1, b1, b2, hk, q⟩ := h
    refine ⟨_, PSs.nox (pss_cons (ps_set (i := 3) scDownA.nd rfl (Or.inl rfl) (pe_op n_xor (pv 0) (pe_op n_shr (pv 0) (pv 2))))
      (pss_one (ps_ret (pe_tup (pa_cons (pe_op n_or (pe_op n_shr (pe_ix ix_tup (pv 1) pe_int (fun _ _ => rfl)) (pv 2)) (pv 3)) (pa_cons (pe_op n_shr (pe_ix ix_tup (pv 1) pe_int (fun _ _ => rfl)) (pv 2)) pa_nil)))))), ?_⟩
    refine ⟨.int m, rfl, .int m, rfl, .int k, rfl, m, k, rfl, rfl, m, m >>> k, rfl, rfl, ?_⟩
    exact ⟨.ref p, rfl, p, twoF y, 0, .int y.1, rfl, rfl, h1, atI_nat (j := 0) rfl, .int k, rfl, y.1, k, rfl, rfl, _, rfl, y.1 >>> k, m ^^^ (m >>> k), rfl, rfl,
      .ref p, rfl, p, twoF y, 1, .int y.2, rfl, rfl, h1, atI_nat (j := 1) rfl, .int k, rfl, y.2, k, rfl, rfl, by show 2 ≤ sizeLine; decide, fun t ht => Gives.new (f := fDown m y k) q ht⟩
theorem ok_pick (F : FnP K "_pick" sPickA f fd) (G : FnOk P w K mg base CX0 1 fC fdC ["one", "other"] (spCommon K)) (bC : Binds K fdC ["one", "other"] []) (kC : PySem.W.keepIn K (.ref fC) = true) (gC : mg "common_facts" = some (.ref fC)) : FnOk P w K mg base CX0 2 f fd ["most", "c", "y", "z"] (spPick K) := by
  refine F.ok (k := 1) scPickA (fun vs H Q E h => ?_) (fun cdv A outer s H vs Q E hr h => ?_)
  · obtain ⟨m, p, r, t, c, y, z, rfl, _⟩ := h
    rfl
  · obtain ⟨m, p, r, t, c, y, z, rfl, h1, h2, h3, q⟩ := h
    refine ⟨_, PSs.nox (pss_cons (ps_if (pt_cmpR n_ne (pe_ix ix_tup (pv 1) pe_int (fun _ _ => rfl)) pe_int (nomark _)) (pss_one (ps_ret (pv 2))) pss_nil)
      (pss_one (ps_ret (pe_ifExp (pt_cmpR n_eq (pe_ix ix_tup (pv 1) pe_int (fun _ _ => rfl)) (pv 0) (nomark _)) (pv 3) (pe_call G hr (by rfl) gC kC bC .nil pass0 (pa_cons (pv 2) (pa_cons (pv 3) pa_nil))))))), ?_⟩
    refine ⟨.ref p, rfl, p, twoF c, 1, .int c.2, rfl, rfl, h1, atI_nat (j := 1) rfl, c.2, 0, rfl, rfl, _, rfl, ?_⟩
    by_cases e : c.2 = 0
    · rw [decide_eq_true e]
      refine iteF ⟨.ref p, rfl, p, twoF c, 0, .int c.1, rfl, rfl, h1, atI_nat (j := 0) rfl, .int m, rfl, c.1, m, rfl, rfl, _, rfl, ite2 (fun e1 => ?_) (fun e1 => ?_)⟩
      · have e1 : c.1 = m := of_decide_eq_true e1
        refine ⟨.ref t, rfl, ?_⟩
        have q' := q t H Kept.refl
        unfold fPick at q'
        rw [if_neg (fun n => n e), if_pos e1] at q'
        exact q' h3
      · have e1 : ¬ c.1 = m := fun z => e1 (decide_eq_true z)
        refine ⟨.ref r, rfl, .ref t, rfl, r, t, y, z, rfl, h2, h3, ?_⟩
        unfold fPick at q
        rw [if_neg (fun n => n e), if_neg e1] at q
        exact q
    · rw [decide_eq_false e]
      refine iteT ⟨.ref r, rfl, ?_⟩
      have q' := q r H Kept.refl
      unfold fPick at q'
      rw [if_pos e] at q'
      exact q' h2
end
end K11

set_option Elab.async false
set_option linter.all false
set_option maxRecDepth 100000
set_option maxHeartbeats 2000000
namespace K11
open PySem PySem.Spec PyProof.Rows L2
/-! ### the program's own defs -/
abbrev sIsWhole : Stmt := top 4
theorem scIsWhole : FnScope ["thing", "least", "most"] ["thing", "least", "most"] (defScope sIsWhole) := ⟨rfl, rfl, rfl, by decide +kernel, rfl, by decide +kernel, by decide +kernel⟩
abbrev sIsFacts : Stmt := top 8
theorem scIsFacts : FnScope ["wide", "thing", "zeros", "ones", "most"] ["wide", "thing"] (defScope sIsFacts) := ⟨rfl, rfl, rfl, by decide +kernel, rfl, by decide +kernel, by decide +kernel⟩
def wholeB (x : V) (lo hi : Int) : Bool := match x with
  | .int i => decide (lo ≤ i) && decide (i ≤ hi)
  | _ => false
def spWhole (K : PySem.W.Frag) : Sp := fun vs H Q _ => ∃ (x : V) (T : String) (lo hi : Int), vs = [x, .int lo, .int hi] ∧ TyB K H x T ∧ Q (.bl (wholeB x lo hi)) H
theorem tyb_int {K : PySem.W.Frag} {H : Hp} {x : V} {T : String} (t : TyB K H x T) : (T = "int" ∧ ∃ i, x = .int i) ∨ (T ≠ "int" ∧ ∀ lo hi, wholeB x lo hi = false) := by
  cases t with
  | int i => exact .inl ⟨rfl, i, rfl⟩
  | _ => exact .inr ⟨by decide, fun _ _ => rfl⟩
section
variable {P : Program} {w : World} {K : PySem.W.Frag} {mg : PySem.Str → Option Value} {base : Heap} {f : Addr} {fd : FuncData}
theorem ok_whole (F : FnP K "is_whole" sIsWhole f fd) (m_type : mg "type" = none) (m_int : mg "int" = none) : FnOk P w K mg base CX0 1 f fd ["thing", "least", "most"] (spWhole K) := by
  refine F.ok scIsWhole (fun vs H Q E h => ?_) (fun cdv A outer s H vs Q E hr h => ?_)
  · obtain ⟨x, T, lo, hi, rfl, _⟩ := h
    rfl
  · obtain ⟨x, T, lo, hi, rfl, hT, q⟩ := h
    refine ⟨_, PSs.nox (pss_one (ps_ret (pe_and (pe_cmpR op_isTyB (pe_callTy call_type1 (by rfl) m_type (by decide +kernel) (pa_cons (pv 0) pa_nil)) (pe_bltn (v := .ty "int") (by rfl) m_int (by decide +kernel) rfl) (nomark _)) (pe_one (pe_chain op_le op_le (pv 1) (pv 0) (pv 2)))))), ?_⟩
    refine ⟨x, rfl, x, T, rfl, hT, T, "int", rfl, rfl, _, rfl, ?_⟩
    rcases tyb_int hT with ⟨rfl, i, rfl⟩ | ⟨hn, hw⟩
    · rw [decide_eq_true rfl]
      refine iteT ⟨.int lo, rfl, .int i, rfl, lo, i, rfl, rfl, _, rfl, ?_⟩
      have q' : Q (.bl (decide (lo ≤ i) && decide (i ≤ hi))) H := q
      cases e : decide (lo ≤ i) with
      | true =>
        rw [e] at q'
        exact iteT ⟨.int hi, rfl, i, hi, rfl, rfl, q'⟩
      | false =>
        rw [e] at q'
        exact iteF q'
    · rw [decide_eq_false hn]
      rw [hw] at q
      exact iteF q
def zeroB (u v : V) : Bool := match u, v with
  | .int a, .int b => decide (Builtin.bitAnd a b = 0)
  | _, _ => false
def pairB (w : Nat) (u v : V) : Bool := wholeB u 0 (most w) && (wholeB v 0 (most w) && zeroB u v)
/-- what is_facts is to tell of a thing -/
inductive FB (K : PySem.W.Frag) (H : Hp) (w : Nat) : V → Bool → Prop
  | ty {x : V} {T : String} : TyB K H x T → T ≠ "tuple" → FB K H w x false
  | len {p : Addr} {xs : List V} : SqT K H p xs → xs.length ≠ 2 → FB K H w (.ref p) false
  | pair {p : Addr} {u v : V} {T U : String} : SqT K H p [u, v] → TyB K H u T → TyB K H v U → FB K H w (.ref p) (pairB w u v)
def spIsFacts (K : PySem.W.Frag) : Sp := fun vs H Q _ => ∃ (v : Nat) (x : V) (b : Bool), vs = [.int (v : Int), x] ∧ v ≤ 12 ∧ FB K H v x b ∧ Q (.bl b) H
theorem ok_isfacts {fW : Addr} {fdW : FuncData} (F : FnP K "is_facts" sIsFacts f fd) (GIsWhole : FnOk P w K mg base CX0 1 fW fdW ["thing", "least", "most"] (spWhole K)) (bIsWhole : Binds K fdW ["thing", "least", "most"] []) (kIsWhole : PySem.W.keepIn K (.ref fW) = true) (gIsWhole : mg "is_whole" = some (.ref fW))
    (m_type : mg "type" = none) (m_tuple : mg "tuple" = none) (m_len : mg "len" = none) : FnOk P w K mg base CX0 2 f fd ["wide", "thing"] (spIsFacts K) := by
  refine F.ok (k := 1) scIsFacts (fun vs H Q E h => ?_) (fun cdv A outer s H vs Q E hr h => ?_)
  · obtain ⟨v, x, b, rfl, _⟩ := h
    rfl
  · obtain ⟨v, x, b, rfl, w2, hF, q⟩ := h
    refine ⟨_, PSs.nox (pss_cons (ps_if (PW.pt (pw_or (pt_cmpR op_notTyB (pe_callTy call_type1 (by rfl) m_type (by decide +kernel) (pa_cons (pv 1) pa_nil)) (pe_bltn (v := .ty "tuple") (by rfl) m_tuple (by decide +kernel) rfl) (nomark _)) (pw_or1 (pt_cmpR op_ne (pe_callB call_len_seq (by rfl) m_len PySem.boot_len (pa_cons (pv 1) pa_nil)) pe_int (nomark _)))))
        (pss_one (ps_ret pe_bl)) pss_nil)
      (pss_cons (ps_asg (pv 1) (pg_tup rfl (pgs_cons (pg_name (i := 2) scIsFacts.nd rfl (Or.inl rfl)) (pgs_cons (pg_name (i := 3) scIsFacts.nd rfl (Or.inl rfl)) pgs_nil))))
      (pss_cons (ps_set (i := 4) scIsFacts.nd rfl (Or.inl rfl) (pe_op n_sub (pe_op n_bit pe_int (pv 0)) pe_int))
      (pss_one (ps_ret (pe_and (pe_call GIsWhole hr (by rfl) gIsWhole kIsWhole bIsWhole .nil pass0 (pa_cons (pv 2) (pa_cons pe_int (pa_cons (pv 4) pa_nil)))) (pe_and (pe_call GIsWhole hr (by rfl) gIsWhole kIsWhole bIsWhole .nil pass0 (pa_cons (pv 3) (pa_cons pe_int (pa_cons (pv 4) pa_nil)))) (pe_one (pe_cmpR op_eq (pe_op op_and (pv 2) (pv 3)) pe_int (nomark _)))))))))), ?_⟩
    cases hF with
    | @ty _ T ht hn =>
      refine ⟨x, rfl, x, T, rfl, ht, T, "tuple", rfl, rfl, _, rfl, ?_⟩
      rw [decide_eq_false hn]
      exact iteT q
    | @len p xs hs hn =>
      refine ⟨.ref p, rfl, .ref p, "tuple", rfl, .tup hs, "tuple", "tuple", rfl, rfl, _, rfl, ?_⟩
      rw [decide_eq_true rfl]
      refine iteF ⟨.ref p, rfl, p, xs, rfl, .inr hs, rfl, _, rfl, ?_⟩
      rw [show (!decide (V.int (xs.length : Int) = V.int 2)) = true by rw [decide_eq_false (fun z => hn (by have := V.int.inj z; omega))]; rfl]
      exact iteT q
    | @pair p u v' T U hs hu' hv' =>
      refine ⟨.ref p, rfl, .ref p, "tuple", rfl, .tup hs, "tuple", "tuple", rfl, rfl, _, rfl, ?_⟩
      rw [decide_eq_true rfl]
      refine iteF ⟨.ref p, rfl, p, [u, v'], rfl, .inr hs, rfl, _, rfl, ?_⟩
      refine iteF ?_
      refine ⟨.ref p, rfl, p, [u, v'], rfl, hs, rfl, u, [v'], rfl, v', [], rfl, rfl, ?_⟩
      refine ⟨.int v, rfl, v, rfl, rfl, by omega, 2 ^ v, 1, rfl, rfl, pow_pos', ?_⟩
      refine ⟨u, rfl, .int (most v), rfl, u, T, 0, most v, rfl, hu', _, rfl, ?_⟩
      have q' : Q (.bl (wholeB u 0 (most v) && (wholeB v' 0 (most v) && zeroB u v'))) H := q
      cases e1 : wholeB u 0 (most v) with
      | false =>
        rw [e1] at q'
        exact iteF q'
      | true =>
        rw [e1] at q'
        refine iteT ⟨v', rfl, .int (most v), rfl, v', U, 0, most v, rfl, hv', _, rfl, ?_⟩
        cases e2 : wholeB v' 0 (most v) with
        | false =>
          rw [e2] at q'
          exact iteF q'
        | true =>
          rw [e2] at q'
          refine iteT ?_
          cases u with
          | int a =>
            cases v' with
            | int b => 
              refine ⟨.int a, rfl, .int b, rfl, a, b, rfl, rfl, rfl, ?_⟩
              rw [show decide (V.int (Builtin.bitAnd a b) = V.int 0) = decide (Builtin.bitAnd a b = 0) by rw [dec_int]; exact (Bool.beq_eq_decide_eq _ _)]
              exact q'
            | _ => cases e2
          | _ => cases e1
end
/-- facts of a word so wide -/
structure Fc (w : Nat) (f : F2) : Prop where
  hz : f.1 < 2 ^ w
  ho : f.2 < 2 ^ w
  no : f.1 &&& f.2 = 0
theorem pair_true {v z o : Nat} (hz : z < 2 ^ v) (ho : o < 2 ^ v) (no : z &&& o = 0) : pairB v (.int (z : Int)) (.int (o : Int)) = true := by
  have hm1 := most_pow v
  show ((decide ((0 : Int) ≤ z) && decide ((z : Int) ≤ (most v : Nat))) && ((decide ((0 : Int) ≤ o) && decide ((o : Int) ≤ (most v : Nat))) && decide (Builtin.bitAnd (z : Int) (o : Int) = 0))) = true
  rw [bA, no, decide_eq_true (show (0 : Int) ≤ z by omega), decide_eq_true (show (z : Int) ≤ (most v : Nat) by omega), decide_eq_true (show (0 : Int) ≤ o by omega), decide_eq_true (show (o : Int) ≤ (most v : Nat) by omega)]
  rfl
theorem Fc.fb {K : PySem.W.Frag} {H : Hp} {v : Nat} {f : F2} {p : Addr} (c : Fc v f) (h : SqT K H p (twoF f)) : FB K H v (.ref p) true := by
  rw [← pair_true c.hz c.ho c.no]
  exact .pair h (.int _) (.int _)
end K11

set_option Elab.async false
set_option linter.all false
set_option maxRecDepth 100000
set_option maxHeartbeats 4000000
namespace K11
open PySem PySem.Spec PyProof.Rows L2
/-! ### a call of a local name with a star -/
def tCallH (X : Cx) (k i : Nat) (t : TA) : TE := fun σ H Q => ∃ f sp, σ[i]? = some (some (.ref f)) ∧ Held X.prog X.w X.K X.mg X.base k f sp ∧ t σ H fun vs H1 => sp vs H1 Q (fun _ _ _ => False)
section
variable {X : Cx} {k i : Nat} {x : PySem.Str} {p pos : Pos} {e : Expr} {es : List Expr} {t : TA}
theorem pe_callHS (hr : Room k X.A) (hN : X.N[i]? = some x) (hv : Vis X.env.scope x) (ha : PA X (e :: es) t)
    (hdb : (x == ("__debug__" : PySem.Str)) = false := by decide) (hcd : (x == ("__classdict__" : PySem.Str)) = false := by decide)
    (he : starEach (e :: es) X.env = (false, eval e X.env) :: starEach es X.env := by rfl) (hst : (backTo pos (starEach es X.env)).any (·.1) = true := by rfl) : PE X (.Call (.Name x p) (e :: es) [] pos) (tCallH X k i t) := by
  refine ⟨fun pins s σ H Q I h => ?_⟩
  obtain ⟨f, sp, hs, ⟨fd, ps, F, hk, hb⟩, ht⟩ := h
  refine wpAny_Call_Name_kw (thn ((pe_var (pos := p) hN hv hdb hcd).run pins s σ H (fun v H1 => v = .ref f ∧ H1 = H) I ⟨.ref f, hs, rfl, rfl⟩) fun u s1 ⟨v, H1, I1, r1, q1⟩ => ?_)
  obtain ⟨rfl, rfl⟩ := q1
  cases r1
  refine PySem.W.callWith_S2 (h₀ := X.base) I.ok.mod.kin hk (thn (ha.run pos pins s1 σ _ _ I1 ht) fun us s2 ⟨vs, H2, I2, r, q⟩ => ⟨I2.kIn, ?_⟩) he hst
  exact run_fn (dvs := []) F hr hb .nil (fun _ _ _ _ _ _ _ z => z.elim) I2 r (by rw [List.append_nil]; exact q)
end
/-! ### expressions -/
inductive Op where
  | add | less | and | or | unlike | same | below
def Op.name : Op → PySem.Str
  | .add => "add"
  | .less => "less"
  | .and => "and"
  | .or => "or"
  | .unlike => "unlike"
  | .same => "same"
  | .below => "below"
def Op.f : Op → Nat → F2 → F2 → F2
  | .add => fSum
  | .less => fDiff
  | .and => fBoth
  | .or => fEither
  | .unlike => fUnlike
  | .same => fSame
  | .below => fBelow
inductive Ex where
  | num (n : Nat)
  | copy (y : PySem.Str)
  | two (o : Op) (y z : PySem.Str)
  | up (y : PySem.Str) (k : Nat)
  | down (y : PySem.Str) (k : Nat)
  | pick (c y z : PySem.Str)
def Ex.word : Ex → PySem.Str
  | .num _ => "number"
  | .copy _ => "copy"
  | .two o _ _ => o.name
  | .up _ _ => "up"
  | .down _ _ => "down"
  | .pick _ _ _ => "pick"
def Ex.parts : Ex → List V
  | .num n => [.int (n : Int)]
  | .copy y => [.str y]
  | .two _ y z => [.str y, .str z]
  | .up y k => [.str y, .int (k : Int)]
  | .down y k => [.str y, .int (k : Int)]
  | .pick c y z => [.str c, .str y, .str z]
def Ex.vs (e : Ex) : List V := .str e.word :: e.parts
def Ex.names : Ex → List PySem.Str
  | .num _ => []
  | .copy y => [y]
  | .two _ y z => [y, z]
  | .up y _ => [y]
  | .down y _ => [y]
  | .pick c y z => [c, y, z]
def exF (m : Nat) (g : PySem.Str → F2) : Ex → F2
  | .num n => (m ^^^ n, n)
  | .copy y => g y
  | .two o y z => o.f m (g y) (g z)
  | .up y k => fUp m (g y) k
  | .down y k => fDown m (g y) k
  | .pick c y z => fPick m (g c) (g y) (g z)
def Ex.small : Ex → Prop
  | .up _ k => k ≤ 100
  | .down _ k => k ≤ 100
  | _ => True
/-- a dict from names to facts: those of these names at least -/
structure FD (K : PySem.W.Frag) (H : Hp) (a : Addr) (ks : List PySem.Str) (g : PySem.Str → F2) : Prop where
  ex : ∃ (kvs : List (Key × V)) (pa : PySem.Str → Addr), H a = some (.dK kvs) ∧ ∀ x ∈ ks, valV kvs (Sum.inr x : Key) = some (.ref (pa x)) ∧ SqT K H (pa x) (twoF (g x))
theorem FD.kept {K : PySem.W.Frag} {H H' : Hp} {a : Addr} {ks : List PySem.Str} {g : PySem.Str → F2} (h : FD K H a ks g) (k : Kept None H H') : FD K H' a ks g := by
  obtain ⟨kvs, pa, e, h⟩ := h.ex
  refine ⟨kvs, pa, k.dK e (fun z => z), fun x hx => ?_⟩
  obtain ⟨h1, h2⟩ := h x hx
  exact ⟨h1, k.sqt h2 (fun z => z)⟩
theorem take_filter {α : Type} (p : α → Bool) (l : List α) (i : Nat) (x : α) (h : l[i]? = some x) : (l.take (i + 1)).filter p = if p x = true then (l.take i).filter p ++ [x] else (l.take i).filter p := by
  rw [List.take_add_one, h, List.filter_append]
  by_cases hp : p x = true
  · rw [if_pos hp]; simp [hp]
  · rw [if_neg hp]; simp [hp]
def strB : V → Bool
  | .str _ => true
  | _ => false
theorem parts_names (e : Ex) : e.parts.filter strB = e.names.map V.str := by cases e <;> rfl
theorem parts_ty {K : PySem.W.Frag} {H : Hp} (e : Ex) : ∀ x ∈ e.parts, (∃ z, x = .str z ∧ z ∈ e.names) ∨ (∃ n : Nat, x = .int (n : Int)) := by
  intro x hx
  cases e <;> simp only [Ex.parts, List.mem_cons, List.not_mem_nil, or_false] at hx
  all_goals (first | (obtain rfl := hx; first | exact .inr ⟨_, rfl⟩ | exact .inl ⟨_, rfl, List.mem_cons_self⟩) | (rcases hx with rfl | rfl <;> first | exact .inr ⟨_, rfl⟩ | exact .inl ⟨_, rfl, by simp [Ex.names]⟩) | (rcases hx with rfl | rfl | rfl <;> exact .inl ⟨_, rfl, by simp [Ex.names]⟩))
theorem cut_parts (e : Ex) : cutV e.vs (some 1) none = e.parts := by cases e <;> rfl
theorem cut_ok (e : Ex) : ¬ (HT.sIx e.vs.length 0 (some 1) = 0 ∧ HT.sIx e.vs.length e.vs.length none = e.vs.length) := by
  cases e <;> exact fun z => absurd z.1 (by first | (show ¬ HT.sIx 2 0 (some 1) = 0; decide) | (show ¬ HT.sIx 3 0 (some 1) = 0; decide) | (show ¬ HT.sIx 4 0 (some 1) = 0; decide))
theorem parts_len (e : Ex) : e.parts.length ≤ 3 := by cases e <;> simp [Ex.parts]
abbrev sNamesIn : Stmt := top 6
abbrev sMade : Stmt := top 11
abbrev sExprF : Stmt := top 10
theorem scNamesIn : FnScope ["expr", "part"] ["expr"] (defScope sNamesIn) := ⟨rfl, rfl, rfl, by decide +kernel, rfl, by decide +kernel, by decide +kernel⟩
theorem scMade : FnScope ["wide", "expr", "facts", "action", "parts", "part"] ["wide", "expr", "facts"] (defScope sMade) := ⟨rfl, rfl, rfl, by decide +kernel, rfl, by decide +kernel, by decide +kernel⟩
theorem scExprF : FnScope ["wide", "expr", "facts", "name"] ["wide", "expr", "facts"] (defScope sExprF) := ⟨rfl, rfl, rfl, by decide +kernel, rfl, by decide +kernel, by decide +kernel⟩
def spNames (K : PySem.W.Frag) : Sp := fun vs H Q _ => ∃ (p : Addr) (e : Ex), vs = [.ref p] ∧ SqT K H p e.vs ∧ ∀ l H', H l = none → Kept None H H' → H' l = some (.lst (e.names.map V.str)) → Q (.ref l) H'
section
variable {P : Program} {w : World} {K : PySem.W.Frag} {mg : PySem.Str → Option Value} {base : Heap} {f : Addr} {fd : FuncData}
theorem ok_names_in (F : FnP K "names_in" sNamesIn f fd) (m_type : mg "type" = none) (m_str : mg "str" = none) : FnOk P w K mg base CX0 1 f fd ["expr"] (spNames K) := by
  refine F.ok (k := 0) scNamesIn (fun vs H Q E h => ?_) (fun cdv A outer s H vs Q E hr h => ?_)
  · obtain ⟨p, e, rfl, _⟩ := h
    rfl
  · obtain ⟨p, e, rfl, h1, q⟩ := h
    refine ⟨_, PSs.nox (pss_one (ps_ret (pe_lc (own := [("part", 1)]) (g := gName 1) (tt := tTest (tOp (fun x y H Q => ∃ m n, x = .ty m ∧ y = .ty n ∧ Q (.bl (decide (m = n))) H) (tCB (rTyp K) (tCons (tVar 1) tNil)) (tC (.ty "str")))) (te := tVar 1) rfl scNamesIn.nd (pi_tup (pe_slice sl_tup (pv 0) (po_some pe_int) po_none)) (blkOk_by (own := [("part", 1)]) (N := ["expr", "part"]) (sc := defScope sNamesIn) (by decide +kernel)) (by exact (fun _ _ _ _ _ => (pg_name (i := 1) scNamesIn.nd rfl (Or.inl rfl)))) (by exact (fun _ _ _ _ _ => (pts_one (pt_cmpR op_isTyB (pe_callTy call_type1 (by rfl) m_type (by decide +kernel) (pa_cons (pv 1) pa_nil)) (pe_bltn (v := .ty "str") (by rfl) m_str (by decide +kernel) rfl) (nomark _))))) (by exact (fun _ _ _ _ _ => (pv 1)))))), ?_⟩
    refine ⟨.ref p, rfl, 1, rfl, p, e.vs, rfl, h1, cut_ok e, fun t ht => ⟨t, rfl, ⟨_, SqT.of upd_same⟩, fun D hD => ?_⟩⟩
    rw [cut_parts] at hD ⊢
    have k1 : Kept None H (upd H t (.tup e.parts)) := Kept.refl.new ht
    have e1 : upd H t (.tup e.parts) t = some (.tup e.parts) := upd_same
    have hH : H D = none := k1.free hD
    generalize upd H t (.tup e.parts) = H1 at hD k1 e1 ⊢
    refine lc_tup (K := K) (a := t) (xs := e.parts) (fun i H' => Kept None H1 H' ∧ H' D = some (.lst ((e.parts.take i).filter strB))) ⟨Kept.refl.new hD, upd_same⟩ (fun i H' _ h => SqT.of (h.1.tup e1 (fun z => z))) (fun i x H' hx h => ?_) (fun H' h => ?_)
    · obtain ⟨k2, e2⟩ := h
      have tf := take_filter strB _ i x hx
      have fl : ((e.parts.take i).filter strB).length < sizeLine := by
        have a1 := List.length_filter_le strB (e.parts.take i)
        have a2 : (e.parts.take i).length ≤ e.parts.length := by rw [List.length_take]; exact Nat.min_le_right _ _
        have a3 := parts_len e
        rw [sizeLine_eq]
        omega
      rcases parts_ty (K := K) (H := H) e x (List.mem_of_getElem? hx) with ⟨z, rfl, _⟩ | ⟨n, rfl⟩
      · refine ⟨rfl, .str z, rfl, .str z, "str", rfl, .str z, "str", "str", rfl, rfl, _, rfl, ?_⟩
        rw [if_pos (show strB (.str z) = true from rfl)] at tf
        rw [decide_eq_true rfl]
        exact iteT ⟨.str z, rfl, _, e2, fl, k2.new hD, by rw [upd_same, tf]⟩
      · refine ⟨rfl, .int n, rfl, .int n, "int", rfl, .int _, "int", "str", rfl, rfl, _, rfl, ?_⟩
        rw [if_neg (show ¬ strB (.int (n : Int)) = true from Bool.false_ne_true)] at tf
        exact iteF ⟨k2, by rw [tf]; exact e2⟩
    · obtain ⟨k2, e2⟩ := h
      rw [List.take_length, parts_names] at e2
      exact q D H' hH (k1.trans k2) e2
end
end K11

set_option Elab.async false
set_option linter.all false
set_option maxRecDepth 100000
set_option maxHeartbeats 4000000
namespace K11
open PySem PySem.Spec PyProof.Rows L2
/-! ### made_facts, expr_facts -/
/-- the parts of an expression, facts in the names' places -/
def PV (K : PySem.W.Frag) (H : Hp) (g : PySem.Str → F2) : Ex → List V → Prop
  | .num n, vs => vs = [.int (n : Int)]
  | .copy y, vs => ∃ p, vs = [.ref p] ∧ SqT K H p (twoF (g y))
  | .two _ y z, vs => ∃ p r, vs = [.ref p, .ref r] ∧ SqT K H p (twoF (g y)) ∧ SqT K H r (twoF (g z))
  | .up y k, vs => ∃ p, vs = [.ref p, .int (k : Int)] ∧ SqT K H p (twoF (g y))
  | .down y k, vs => ∃ p, vs = [.ref p, .int (k : Int)] ∧ SqT K H p (twoF (g y))
  | .pick c y z, vs => ∃ p r t, vs = [.ref p, .ref r, .ref t] ∧ SqT K H p (twoF (g c)) ∧ SqT K H r (twoF (g y)) ∧ SqT K H t (twoF (g z))
/-- what the table of actions holds -/
def Acts (P : Program) (w : World) (K : PySem.W.Frag) (mg : PySem.Str → Option Value) (base : Heap) (a : Addr) : Prop := ∀ e : Ex, ∃ f sp, KDct K w a e.word (.ref f) ∧ Held P w K mg base 2 f sp ∧
  ∀ (m : Nat) (g : PySem.Str → F2) (vs : List V) (H : Hp) (Q : VK), PV K H g e vs → e.small → (∀ x ∈ e.names, (g x).1 < 5000 ∧ (g x).2 < 5000) → Gives K H Q (exF m g e) → sp (.int (m : Int) :: vs) H Q (fun _ _ _ => False)
def trV (pa : PySem.Str → Addr) : V → V
  | .str x => .ref (pa x)
  | v => v
theorem pv_of {K : PySem.W.Frag} {H : Hp} {g : PySem.Str → F2} {pa : PySem.Str → Addr} {e : Ex} (h : ∀ x ∈ e.names, SqT K H (pa x) (twoF (g x))) : PV K H g e (e.parts.map (trV pa)) := by
  cases e with
  | num n => rfl
  | copy y => exact ⟨_, rfl, h y (by simp [Ex.names])⟩
  | two o y z => exact ⟨_, _, rfl, h y (by simp [Ex.names]), h z (by simp [Ex.names])⟩
  | up y k => exact ⟨_, rfl, h y (by simp [Ex.names])⟩
  | down y k => exact ⟨_, rfl, h y (by simp [Ex.names])⟩
  | pick c y z => exact ⟨_, _, _, rfl, h c (by simp [Ex.names]), h y (by simp [Ex.names]), h z (by simp [Ex.names])⟩
def spMade (K : PySem.W.Frag) : Sp := fun vs H Q _ => ∃ (v : Nat) (p a : Addr) (e : Ex) (g : PySem.Str → F2), vs = [.int (v : Int), .ref p, .ref a] ∧ v ≤ 12 ∧ SqT K H p e.vs ∧ FD K H a e.names g ∧ e.small ∧ (∀ x ∈ e.names, (g x).1 < 5000 ∧ (g x).2 < 5000) ∧ Gives K H Q (exF (most v) g e)
def spExprF (K : PySem.W.Frag) : Sp := fun vs H Q _ => ∃ (v : Nat) (p a : Addr) (e : Ex) (g : PySem.Str → F2), vs = [.int (v : Int), .ref p, .ref a] ∧ v ≤ 12 ∧ SqT K H p e.vs ∧ FD K H a e.names g ∧ e.small ∧ (∀ x ∈ e.names, Fc v (g x)) ∧ Gives K H Q (exF (most v) g e)
section
variable {P : Program} {w : World} {K : PySem.W.Frag} {mg : PySem.Str → Option Value} {base : Heap} {f a0 : Addr} {fd : FuncData}
theorem ok_made (F : FnP K "made_facts" sMade f fd) (gT : mg "FACTS_BY_EXPR" = some (.ref a0)) (T : Acts P w K mg base a0) (m_type : mg "type" = none) (m_str : mg "str" = none) : FnOk P w K mg base CX0 3 f fd ["wide", "expr", "facts"] (spMade K) := by
  refine F.ok (k := 2) scMade (fun vs H Q E h => ?_) (fun cdv A outer s H vs Q E hr h => ?_)
  · obtain ⟨v, p, a, e, g, rfl, _⟩ := h
    rfl
  · obtain ⟨v, p, a, e, g, rfl, w2, h1, hD, sm, sz, q⟩ := h
    have hu := hu_of hr
    refine ⟨_, PSs.nox (pss_cons (ps_set (i := 3) scMade.nd rfl (Or.inl rfl) (pe_ix ix_kdict (pe_glob (v := .ref a0) (by rfl) gT rfl) (pe_ix ix_tup (pv 1) pe_int (fun _ _ => rfl)) (fun _ _ => rfl)))
      (pss_cons (ps_setLc (i := 4) (own := [("part", 5)]) (g := gName 5) (tt := tYes) (te := tIf (tTest (tOp (fun x y H Q => ∃ m n, x = .ty m ∧ y = .ty n ∧ Q (.bl (decide (m = n))) H) (tCB (rTyp K) (tCons (tVar 5) tNil)) (tC (.ty "str")))) (tDGet (tVar 2) (tVar 5)) (tVar 5)) rfl scMade.nd rfl rfl (sw_true rfl rfl rfl (by decide +kernel)) (pi_tup (pe_slice sl_tup (pv 1) (po_some pe_int) po_none)) (blkOk_by (own := [("part", 5)]) (N := ["wide", "expr", "facts", "action", "parts", "part"]) (sc := defScope sMade) (by decide +kernel))
        (by exact (fun _ _ _ _ _ => (pg_name (i := 5) scMade.nd rfl (Or.inl rfl)))) (by exact (fun _ _ _ _ _ => pts_nil)) (by exact (fun _ _ _ _ _ => (pe_ifExp (pt_cmpR op_isTyB (pe_callTy call_type1 (by rfl) m_type (by decide +kernel) (pa_cons (pv 5) pa_nil)) (pe_bltn (v := .ty "str") (by rfl) m_str (by decide +kernel) rfl) (nomark _)) (pe_dget hu (pv 2) (pv 5) (fun _ _ => rfl)) (pv 5)))))
      (pss_one (ps_ret (pe_callHS (k := 2) (i := 3) hr rfl (.inl rfl) (pa_cons (pe_op n_sub (pe_op n_bit pe_int (pv 0)) pe_int) (StX.pa_star (pv 4) pa_nil))))))), ?_⟩
    obtain ⟨fA, sp, kd, held, sq⟩ := T e
    refine ⟨.ref p, rfl, p, e.vs, 0, .str e.word, rfl, rfl, h1, atI_nat (j := 0) rfl, a0, e.word, .ref fA, rfl, rfl, kd, ?_⟩
    refine ⟨.ref p, rfl, 1, rfl, p, e.vs, rfl, h1, cut_ok e, fun t ht => ⟨t, rfl, ⟨_, SqT.of upd_same⟩, fun D hD' => ?_⟩⟩
    rw [cut_parts] at hD' ⊢
    have k1 : Kept None H (upd H t (.tup e.parts)) := Kept.refl.new ht
    have e1 : upd H t (.tup e.parts) t = some (.tup e.parts) := upd_same
    have hF := hD.kept k1
    generalize upd H t (.tup e.parts) = H1 at hD' k1 e1 hF ⊢
    obtain ⟨kvs, pa, ek, hk⟩ := hF.ex
    refine lc_tup (K := K) (a := t) (xs := e.parts) (fun i H' => Kept None H1 H' ∧ H' D = some (.lst ((e.parts.take i).map (trV pa)))) ⟨Kept.refl.new hD', upd_same⟩ (fun i H' _ h => SqT.of (h.1.tup e1 (fun z => z))) (fun i x H' hx h => ?_) (fun H' h => ?_)
    · obtain ⟨k2, e2⟩ := h
      have fl : ((e.parts.take i).map (trV pa)).length < sizeLine := by
        rw [List.length_map, List.length_take, sizeLine_eq]
        have a3 := parts_len e
        omega
      have nx : (e.parts.take (i + 1)).map (trV pa) = (e.parts.take i).map (trV pa) ++ [trV pa x] := by
        rw [List.take_add_one, hx, List.map_append]; rfl
      rcases parts_ty (K := K) (H := H) e x (List.mem_of_getElem? hx) with ⟨z, rfl, hz⟩ | ⟨n, rfl⟩
      · refine ⟨rfl, .str z, rfl, .str z, "str", rfl, .str z, "str", "str", rfl, rfl, _, rfl, ?_⟩
        rw [decide_eq_true rfl]
        have hv := (hk z hz).1
        refine iteT ⟨.ref a, rfl, .str z, rfl, a, .ref (pa z), rfl, (by rw [← hv]; exact DGet.k (k := Sum.inr z) (k2.dK ek (fun z => z))), _, e2, fl, k2.new hD', by rw [upd_same, nx]; rfl⟩
      · refine ⟨rfl, .int n, rfl, .int n, "int", rfl, .int _, "int", "str", rfl, rfl, _, rfl, ?_⟩
        exact iteF ⟨.int n, rfl, _, e2, fl, k2.new hD', by rw [upd_same, nx]; rfl⟩
    · obtain ⟨k2, e2⟩ := h
      rw [List.take_length] at e2
      refine ⟨fA, sp, rfl, held, .int v, rfl, v, rfl, rfl, by omega, 2 ^ v, 1, rfl, rfl, pow_pos', .ref D, rfl, D, _, rfl, .inr (SqL.of e2), ?_⟩
      show sp (.int ((2 ^ v - 1 : Nat) : Int) :: (e.parts.map (trV pa) ++ [])) H' Q _
      rw [List.append_nil]
      exact sq (most v) g _ H' Q (pv_of fun x hx => k2.sqt (hk x hx).2 (fun z => z)) sm sz (fun t2 H2 k3 e3 => q t2 H2 ((k1.trans k2).trans k3) e3)
end
end K11

set_option Elab.async false
set_option linter.all false
set_option maxRecDepth 100000
set_option maxHeartbeats 4000000
namespace K11
open PySem PySem.Spec PyProof.Rows L2
section
variable {P : Program} {w : World} {K : PySem.W.Frag} {mg : PySem.Str → Option Value} {base : Heap} {f a0 fN fI fM : Addr} {fd fdN fdI fdM : FuncData}
theorem ok_exprf (F : FnP K "expr_facts" sExprF f fd) (GN : FnOk P w K mg base CX0 1 fN fdN ["expr"] (spNames K)) (bN : Binds K fdN ["expr"] []) (kN : PySem.W.keepIn K (.ref fN) = true) (gN : mg "names_in" = some (.ref fN))
    (GI : FnOk P w K mg base CX0 2 fI fdI ["wide", "thing"] (spIsFacts K)) (bI : Binds K fdI ["wide", "thing"] []) (kI : PySem.W.keepIn K (.ref fI) = true) (gI : mg "is_facts" = some (.ref fI))
    (GM : FnOk P w K mg base CX0 3 fM fdM ["wide", "expr", "facts"] (spMade K)) (bM : Binds K fdM ["wide", "expr", "facts"] []) (kM : PySem.W.keepIn K (.ref fM) = true) (gM : mg "made_facts" = some (.ref fM))
    (m_type : mg "type" = none) (m_dict : mg "dict" = none) : FnOk P w K mg base CX0 4 f fd ["wide", "expr", "facts"] (spExprF K) := by
  refine F.ok (k := 3) scExprF (fun vs H Q E h => ?_) (fun cdv A outer s H vs Q E hr h => ?_)
  · obtain ⟨v, p, a, e, g, rfl, _⟩ := h
    rfl
  · obtain ⟨v, p, a, e, g, rfl, w2, h1, hD, sm, sz, q⟩ := h
    have hu := hu_of hr
    have hr1 := hr.mono (show 1 ≤ 3 by decide)
    have hr2 := hr.mono (show 2 ≤ 3 by decide)
    refine ⟨_, PSs.nox (pss_cons (ps_if (pt_cmpR op_notTyB (pe_callTy call_type1 (by rfl) m_type (by decide +kernel) (pa_cons (pv 2) pa_nil)) (pe_bltn (v := .ty "dict") (by rfl) m_dict (by decide +kernel) rfl) (nomark _)) (pss_one ps_never) pss_nil)
      (pss_cons (ps_for PassesOwn.never rfl (pi_list (pe_call GN hr1 (by rfl) gN kN bN .nil pass0 (pa_cons (pv 1) pa_nil))) (pg_name (i := 3) scExprF.nd rfl (Or.inl rfl))
        (pss_one (ps_if (PW.pt (pw_or (pt_cmp (pc_dnotin hu (pv 3) (pv 2))) (pw_or1 (pt_not (pt_val (pe_call GI hr2 (by rfl) gI kI bI .nil pass0 (pa_cons (pv 0) (pa_cons (pe_dget hu (pv 2) (pv 3) (fun _ _ => rfl)) pa_nil)))))))) (pss_one ps_never) pss_nil)))
      (pss_one (ps_ret (pe_call GM hr (by rfl) gM kM bM .nil pass0 (pa_cons (pv 0) (pa_cons (pv 1) (pa_cons (pv 2) pa_nil)))))))), ?_⟩
    obtain ⟨kvs, pa, ek, hk⟩ := hD.ex
    refine ⟨.ref a, rfl, .ref a, "dict", rfl, .dK ek, "dict", "dict", rfl, rfl, _, rfl, ?_⟩
    rw [decide_eq_true rfl]
    refine iteF ⟨.ref p, rfl, p, e, rfl, h1, fun l H1 hl k1 e1 => ⟨l, rfl, ⟨_, SqL.of e1⟩, ?_⟩⟩
    refine for_list (K := K) (a := l) (xs := e.names.map V.str) (fun i σ H' => H' = H1 ∧ ∃ y3, σ = [some (.int (v : Int)), some (.ref p), some (.ref a), y3]) ⟨rfl, none, rfl⟩ (fun i σ H' _ h => ?_) (fun i x σ H' hx h => ?_) (fun σ H' h => ?_)
    · rw [h.1]; exact SqL.of e1
    · obtain ⟨rfl, y3, rfl⟩ := h
      have hx2 := List.mem_of_getElem? hx
      obtain ⟨z, hz, rfl⟩ := List.mem_map.mp hx2
      obtain ⟨hv, hp⟩ := hk z hz
      have dg : DGet H' a (.str z) (some (.ref (pa z))) := by rw [← hv]; exact DGet.k (k := Sum.inr z) (k1.dK ek (fun z => z))
      refine ⟨.str z, rfl, .ref a, rfl, a, some (.ref (pa z)), rfl, dg, _, rfl, iteF ?_⟩
      refine ⟨.int v, rfl, .ref a, rfl, .str z, rfl, a, .ref (pa z), rfl, dg, v, .ref (pa z), true, rfl, w2, (sz z hz).fb (k1.sqt hp (fun z => z)), true, rfl, iteF ?_⟩
      exact ⟨rfl, _, rfl⟩
    · obtain ⟨rfl, y3, rfl⟩ := h
      refine ⟨.int v, rfl, .ref p, rfl, .ref a, rfl, v, p, a, e, g, rfl, w2, k1.sqt h1 (fun z => z), hD.kept k1, sm, fun x hx => ?_, fun t H2 k2 e2 => q t H2 (k1.trans k2) e2⟩
      have c := sz x hx
      have pb := pow_bound w2
      exact ⟨by have := c.hz; omega, by have := c.ho; omega⟩
end
/-! ### what the table holds -/
structure TabF (K : PySem.W.Frag) (w : World) (a : Addr) (fnum fcopy fsum fdiff fboth feither funlike fsame fbelow fup fdown fpick : Addr) : Prop where
  num : KDct K w a "number" (.ref fnum)
  copy : KDct K w a "copy" (.ref fcopy)
  add : KDct K w a "add" (.ref fsum)
  less : KDct K w a "less" (.ref fdiff)
  and : KDct K w a "and" (.ref fboth)
  or : KDct K w a "or" (.ref feither)
  unlike : KDct K w a "unlike" (.ref funlike)
  same : KDct K w a "same" (.ref fsame)
  below : KDct K w a "below" (.ref fbelow)
  up : KDct K w a "up" (.ref fup)
  down : KDct K w a "down" (.ref fdown)
  pick : KDct K w a "pick" (.ref fpick)
theorem two_act {P : Program} {w : World} {K : PySem.W.Frag} {mg : PySem.Str → Option Value} {base : Heap} {o : Op} {y z : PySem.Str} {a f : Addr} (kd : KDct K w a o.name (.ref f)) (h : Held P w K mg base 2 f (spTwo K o.f)) :
    ∃ f sp, KDct K w a (Ex.two o y z).word (.ref f) ∧ Held P w K mg base 2 f sp ∧ ∀ (m : Nat) (g : PySem.Str → F2) (vs : List V) (H : Hp) (Q : VK), PV K H g (.two o y z) vs → (Ex.two o y z).small → (∀ x ∈ (Ex.two o y z).names, (g x).1 < 5000 ∧ (g x).2 < 5000) → Gives K H Q (exF m g (.two o y z)) → sp (.int (m : Int) :: vs) H Q (fun _ _ _ => False) := by
  refine ⟨f, _, kd, h, fun m g vs H Q pv _ _ q => ?_⟩
  obtain ⟨p, r, rfl, h1, h2⟩ := pv
  exact ⟨m, p, r, _, _, rfl, h1, h2, q⟩
theorem acts_ok {P : Program} {w : World} {K : PySem.W.Frag} {mg : PySem.Str → Option Value} {base : Heap} {a f1 f2 f3 f4 f5 f6 f7 f8 f9 f10 f11 f12 : Addr} (T : TabF K w a f1 f2 f3 f4 f5 f6 f7 f8 f9 f10 f11 f12)
    (h1 : Held P w K mg base 2 f1 (spNum K)) (h2 : Held P w K mg base 2 f2 (spCopy K)) (h3 : Held P w K mg base 2 f3 (spTwo K fSum)) (h4 : Held P w K mg base 2 f4 (spTwo K fDiff)) (h5 : Held P w K mg base 2 f5 (spTwo K fBoth)) (h6 : Held P w K mg base 2 f6 (spTwo K fEither)) (h7 : Held P w K mg base 2 f7 (spTwo K fUnlike)) (h8 : Held P w K mg base 2 f8 (spTwo K fSame)) (h9 : Held P w K mg base 2 f9 (spTwo K fBelow)) (h10 : Held P w K mg base 2 f10 (spShift K fUp)) (h11 : Held P w K mg base 2 f11 (spShift K fDown)) (h12 : Held P w K mg base 2 f12 (spPick K)) : Acts P w K mg base a := by
  intro e
  cases e with
  | num n =>
    refine ⟨f1, _, T.num, h1, fun m g vs H Q pv _ _ q => ?_⟩
    obtain rfl := pv
    exact ⟨m, n, rfl, q⟩
  | copy y =>
    refine ⟨f2, _, T.copy, h2, fun m g vs H Q pv _ _ q => ?_⟩
    obtain ⟨p, rfl, h⟩ := pv
    exact ⟨m, p, _, rfl, h, q⟩
  | two o y z =>
    cases o with
    | add => exact two_act T.add h3
    | less => exact two_act T.less h4
    | and => exact two_act T.and h5
    | or => exact two_act T.or h6
    | unlike => exact two_act T.unlike h7
    | same => exact two_act T.same h8
    | below => exact two_act T.below h9
  | up y k =>
    refine ⟨f10, _, T.up, h10, fun m g vs H Q pv sm sz q => ?_⟩
    obtain ⟨p, rfl, h⟩ := pv
    have s1 := sz y (by simp [Ex.names])
    exact ⟨m, p, _, k, rfl, h, s1.1, s1.2, sm, q⟩
  | down y k =>
    refine ⟨f11, _, T.down, h11, fun m g vs H Q pv sm sz q => ?_⟩
    obtain ⟨p, rfl, h⟩ := pv
    have s1 := sz y (by simp [Ex.names])
    exact ⟨m, p, _, k, rfl, h, s1.1, s1.2, sm, q⟩
  | pick c y z =>
    refine ⟨f12, _, T.pick, h12, fun m g vs H Q pv _ _ q => ?_⟩
    obtain ⟨p, r, t, rfl, h1, h2, h3⟩ := pv
    exact ⟨m, p, r, t, _, _, _, rfl, h1, h2, h3, q⟩
end K11

set_option Elab.async false
set_option linter.all false
set_option maxRecDepth 100000
set_option maxHeartbeats 4000000
namespace K11
open PySem
/-! ### the mathematics of facts: what is known of what comes -/
abbrev B (x i : Nat) : Bool := x.testBit i
theorem b_most (w i : Nat) : B (most w) i = decide (i < w) := Nat.testBit_two_pow_sub_one w i
theorem b_off {w x i : Nat} (hx : x < 2 ^ w) (h : ¬ i < w) : B x i = false := Nat.testBit_lt_two_pow (Nat.lt_of_lt_of_le hx (Nat.pow_le_pow_right (by decide) (by omega)))
theorem lt_of_b {w x : Nat} (h : ∀ i, ¬ i < w → B x i = false) : x < 2 ^ w := Nat.lt_pow_two_of_testBit x fun i hi => h i (by omega)
theorem b_ext {x y : Nat} (h : ∀ i, B x i = B y i) : x = y := Nat.eq_of_testBit_eq h
theorem b_minus : ∀ (i a b : Nat), B (a - (a &&& b)) i = (B a i && !B b i) := by
  intro i
  induction i with
  | zero =>
    intro a b
    have h1 : (a &&& b) ≤ a := Nat.and_le_left
    have h2 : (a &&& b) % 2 = 1 ↔ a % 2 = 1 ∧ b % 2 = 1 := Nat.and_mod_two_eq_one
    unfold B
    rw [Nat.testBit_zero, Nat.testBit_zero, Nat.testBit_zero]
    by_cases ha : a % 2 = 1 <;> by_cases hb : b % 2 = 1
    · have := h2.mpr ⟨ha, hb⟩
      rw [decide_eq_true ha, decide_eq_true hb, decide_eq_false (by omega)]; rfl
    · have : ¬ (a &&& b) % 2 = 1 := fun e => hb (h2.mp e).2
      rw [decide_eq_true ha, decide_eq_false hb, decide_eq_true (by omega)]; rfl
    · have : ¬ (a &&& b) % 2 = 1 := fun e => ha (h2.mp e).1
      rw [decide_eq_false ha, decide_eq_false (by omega)]; rfl
    · have : ¬ (a &&& b) % 2 = 1 := fun e => ha (h2.mp e).1
      rw [decide_eq_false ha, decide_eq_false (by omega)]; rfl
  | succ i ih =>
    intro a b
    have e : (a - (a &&& b)) / 2 = a / 2 - (a / 2 &&& b / 2) := by
      have h1 : (a &&& b) ≤ a := Nat.and_le_left
      have h2 : (a &&& b) / 2 = a / 2 &&& b / 2 := Nat.and_div_two
      have h3 : (a &&& b) % 2 = 1 → a % 2 = 1 := fun e => (Nat.and_mod_two_eq_one.mp e).1
      rw [← h2]
      omega
    unfold B
    rw [Nat.testBit_succ, Nat.testBit_succ, Nat.testBit_succ, e]
    exact ih _ _
theorem no_ft {b : Bool} (h1 : b = false) (h2 : b = true) : False := by rw [h1] at h2; cases h2
/-- a word so wide with these facts -/
structure Fit (w : Nat) (f : F2) (x : Nat) : Prop where
  lt : x < 2 ^ w
  z : ∀ i, B f.1 i = true → B x i = false
  o : ∀ i, B f.2 i = true → B x i = true
/-- f tells just the bits that are alike in all of S -/
structure Tells (w : Nat) (S : Nat → Prop) (f : F2) : Prop where
  hz : f.1 < 2 ^ w
  ho : f.2 < 2 ^ w
  bz : ∀ i, i < w → (B f.1 i = true ↔ ∀ s, S s → B s i = false)
  bo : ∀ i, i < w → (B f.2 i = true ↔ ∀ s, S s → B s i = true)
theorem Tells.uniq {w : Nat} {S : Nat → Prop} {f g : F2} (a : Tells w S f) (b : Tells w S g) : f = g := by
  apply Prod.ext
  · refine b_ext fun i => ?_
    by_cases h : i < w
    · exact Bool.eq_iff_iff.mpr ((a.bz i h).trans (b.bz i h).symm)
    · rw [b_off a.hz h, b_off b.hz h]
  · refine b_ext fun i => ?_
    by_cases h : i < w
    · exact Bool.eq_iff_iff.mpr ((a.bo i h).trans (b.bo i h).symm)
    · rw [b_off a.ho h, b_off b.ho h]
theorem Tells.congr {w : Nat} {S T : Nat → Prop} {f : F2} (a : Tells w S f) (h : ∀ s, S s ↔ T s) : Tells w T f := by
  have e : S = T := funext fun s => propext (h s)
  rw [← e]; exact a
/-- by witnesses: each bit is known for all, or two differ there -/
theorem Tells.mk' {w : Nat} {S : Nat → Prop} {f : F2} (hz : f.1 < 2 ^ w) (ho : f.2 < 2 ^ w) (h : ∀ i, i < w → (B f.1 i = true ∧ B f.2 i = false ∧ (∀ s, S s → B s i = false) ∧ (∃ s, S s)) ∨ (B f.1 i = false ∧ B f.2 i = true ∧ (∀ s, S s → B s i = true) ∧ (∃ s, S s)) ∨ (B f.1 i = false ∧ B f.2 i = false ∧ (∃ s, S s ∧ B s i = true) ∧ ∃ s, S s ∧ B s i = false)) : Tells w S f := by
  refine ⟨hz, ho, fun i hi => ?_, fun i hi => ?_⟩
  · rcases h i hi with ⟨h1, h2, h3, s, hs⟩ | ⟨h1, h2, h3, s, hs⟩ | ⟨h1, h2, ⟨s, hs, b1⟩, ⟨t, ht, b0⟩⟩
    · exact ⟨fun _ => h3, fun _ => h1⟩
    · exact ⟨fun e => (no_ft h1 e).elim, fun e => (no_ft (e s hs) (h3 s hs)).elim⟩
    · exact ⟨fun e => (no_ft h1 e).elim, fun e => (no_ft (e s hs) b1).elim⟩
  · rcases h i hi with ⟨h1, h2, h3, s, hs⟩ | ⟨h1, h2, h3, s, hs⟩ | ⟨h1, h2, ⟨s, hs, b1⟩, ⟨t, ht, b0⟩⟩
    · exact ⟨fun e => (no_ft h2 e).elim, fun e => (no_ft (h3 s hs) (e s hs)).elim⟩
    · exact ⟨fun _ => h3, fun _ => h2⟩
    · exact ⟨fun e => (no_ft h2 e).elim, fun e => (no_ft b0 (e t ht)).elim⟩
theorem Fc.not {w : Nat} {f : F2} (c : Fc w f) (i : Nat) : ¬ (B f.1 i = true ∧ B f.2 i = true) := fun ⟨h1, h2⟩ => by
  have e := congrArg (fun n => B n i) c.no
  simp only [B, Nat.testBit_and, Nat.zero_testBit] at e
  rw [show f.1.testBit i = true from h1, show f.2.testBit i = true from h2] at e
  cases e
def great (w : Nat) (f : F2) : Nat := most w ^^^ f.1
theorem b_great {w : Nat} {f : F2} (c : Fc w f) (i : Nat) : B (great w f) i = (decide (i < w) && !B f.1 i) := by
  unfold great B
  rw [Nat.testBit_xor, show (most w).testBit i = decide (i < w) from b_most w i]
  by_cases h : i < w
  · rw [decide_eq_true h]; cases f.1.testBit i <;> rfl
  · rw [decide_eq_false h, show f.1.testBit i = false from b_off c.hz h]; rfl
theorem great_lt {w : Nat} {f : F2} (c : Fc w f) : great w f < 2 ^ w := lt_of_b fun i h => by rw [b_great c, decide_eq_false h]; rfl
theorem fit_least {w : Nat} {f : F2} (c : Fc w f) : Fit w f f.2 := ⟨c.ho, fun i h => by
  cases e : B f.2 i with
  | false => rfl
  | true => exact absurd ⟨h, e⟩ (c.not i), fun i h => h⟩
theorem fit_great {w : Nat} {f : F2} (c : Fc w f) : Fit w f (great w f) := ⟨great_lt c, fun i h => by rw [b_great c, h]; simp, fun i h => by
  have hi : i < w := by
    by_cases q : i < w
    · exact q
    · have h' : B f.2 i = false := b_off c.ho q
      rw [h] at h'; cases h'
  have hz : B f.1 i = false := by
    cases e : B f.1 i with
    | false => rfl
    | true => exact absurd ⟨e, h⟩ (c.not i)
  rw [b_great c, decide_eq_true hi, hz]; rfl⟩
/-- each bit is 0, 1 or open -/
theorem Fc.three {w : Nat} {f : F2} (c : Fc w f) {i : Nat} (hi : i < w) : (B f.1 i = true ∧ B f.2 i = false) ∨ (B f.1 i = false ∧ B f.2 i = true) ∨ (B f.1 i = false ∧ B f.2 i = false ∧ B (great w f) i = true) := by
  cases e1 : B f.1 i <;> cases e2 : B f.2 i
  · refine .inr (.inr ⟨rfl, rfl, ?_⟩)
    rw [b_great c, decide_eq_true hi, e1]; rfl
  · exact .inr (.inl ⟨rfl, rfl⟩)
  · exact .inl ⟨rfl, rfl⟩
  · exact absurd ⟨e1, e2⟩ (c.not i)
theorem tells_copy {w : Nat} {f : F2} (c : Fc w f) : Tells w (Fit w f) f := by
  refine Tells.mk' c.hz c.ho fun i hi => ?_
  rcases c.three hi with ⟨h1, h2⟩ | ⟨h1, h2⟩ | ⟨h1, h2, h3⟩
  · exact .inl ⟨h1, h2, fun s hs => hs.z i h1, _, fit_least c⟩
  · exact .inr (.inl ⟨h1, h2, fun s hs => hs.o i h2, _, fit_least c⟩)
  · exact .inr (.inr ⟨h1, h2, ⟨_, fit_great c, h3⟩, _, fit_least c, h2⟩)
theorem tells_num {w n : Nat} (h : n < 2 ^ w) : Tells w (· = n) (most w ^^^ n, n) := by
  have hb : ∀ i, B (most w ^^^ n) i = (decide (i < w) && !B n i) := fun i => by
    unfold B
    rw [Nat.testBit_xor, show (most w).testBit i = decide (i < w) from b_most w i]
    by_cases q : i < w
    · rw [decide_eq_true q]; cases n.testBit i <;> rfl
    · rw [decide_eq_false q, show n.testBit i = false from b_off h q]; rfl
  refine Tells.mk' (lt_of_b fun i q => by rw [hb, decide_eq_false q]; rfl) h fun i hi => ?_
  have hbi := hb i
  rw [decide_eq_true hi, Bool.true_and] at hbi
  cases e : B n i with
  | false => exact .inl ⟨by rw [hbi, e]; rfl, rfl, fun s hs => by rw [hs]; exact e, n, rfl⟩
  | true => exact .inr (.inl ⟨by rw [hbi, e]; rfl, rfl, fun s hs => by rw [hs]; exact e, n, rfl⟩)
/-- what comes of two names -/
def Of2 (w : Nat) (y z : F2) (g : Nat → Nat → Nat) (s : Nat) : Prop := ∃ a b, Fit w y a ∧ Fit w z b ∧ s = g a b
theorem and_lt {w a b : Nat} (h : a < 2 ^ w) : a &&& b < 2 ^ w := Nat.lt_of_le_of_lt Nat.and_le_left h
theorem tells_both {w : Nat} {y z : F2} (cy : Fc w y) (cz : Fc w z) : Tells w (Of2 w y z fun a b => a &&& b) (fBoth (most w) y z) := by
  refine Tells.mk' (Nat.or_lt_two_pow cy.hz cz.hz) (and_lt cy.ho) fun i hi => ?_
  have ly := fit_least cy; have lz := fit_least cz; have gy := fit_great cy; have gz := fit_great cz
  simp only [fBoth, B, Nat.testBit_or, Nat.testBit_and]
  rcases cy.three hi with ⟨h1, h2⟩ | ⟨h1, h2⟩ | ⟨h1, h2, h3⟩
  · refine .inl ⟨by rw [show y.1.testBit i = true from h1]; rfl, by rw [show y.2.testBit i = false from h2]; rfl, fun s hs => ?_, _, _, _, ly, lz, rfl⟩
    obtain ⟨a, b, ha, hb, rfl⟩ := hs
    rw [Nat.testBit_and, show a.testBit i = false from ha.z i h1]; rfl
  · rcases cz.three hi with ⟨k1, k2⟩ | ⟨k1, k2⟩ | ⟨k1, k2, k3⟩
    · refine .inl ⟨by rw [show z.1.testBit i = true from k1, Bool.or_true], by rw [show z.2.testBit i = false from k2, Bool.and_false], fun s hs => ?_, _, _, _, ly, lz, rfl⟩
      obtain ⟨a, b, ha, hb, rfl⟩ := hs
      rw [Nat.testBit_and, show b.testBit i = false from hb.z i k1, Bool.and_false]
    · refine .inr (.inl ⟨by rw [show y.1.testBit i = false from h1, show z.1.testBit i = false from k1]; rfl, by rw [show y.2.testBit i = true from h2, show z.2.testBit i = true from k2]; rfl, fun s hs => ?_, _, _, _, ly, lz, rfl⟩)
      obtain ⟨a, b, ha, hb, rfl⟩ := hs
      rw [Nat.testBit_and, show a.testBit i = true from ha.o i h2, show b.testBit i = true from hb.o i k2]; rfl
    · refine .inr (.inr ⟨by rw [show y.1.testBit i = false from h1, show z.1.testBit i = false from k1]; rfl, by rw [show z.2.testBit i = false from k2, Bool.and_false], ⟨_, ⟨_, _, ly, gz, rfl⟩, ?_⟩, _, ⟨_, _, ly, lz, rfl⟩, ?_⟩)
      · rw [Nat.testBit_and, show y.2.testBit i = true from h2, show (great w z).testBit i = true from k3]; rfl
      · rw [Nat.testBit_and, show z.2.testBit i = false from k2, Bool.and_false]
  · rcases cz.three hi with ⟨k1, k2⟩ | ⟨k1, k2⟩ | ⟨k1, k2, k3⟩
    · refine .inl ⟨by rw [show z.1.testBit i = true from k1, Bool.or_true], by rw [show z.2.testBit i = false from k2, Bool.and_false], fun s hs => ?_, _, _, _, ly, lz, rfl⟩
      obtain ⟨a, b, ha, hb, rfl⟩ := hs
      rw [Nat.testBit_and, show b.testBit i = false from hb.z i k1, Bool.and_false]
    · refine .inr (.inr ⟨by rw [show y.1.testBit i = false from h1, show z.1.testBit i = false from k1]; rfl, by rw [show y.2.testBit i = false from h2]; rfl, ⟨_, ⟨_, _, gy, lz, rfl⟩, ?_⟩, _, ⟨_, _, ly, lz, rfl⟩, ?_⟩)
      · rw [Nat.testBit_and, show (great w y).testBit i = true from h3, show z.2.testBit i = true from k2]; rfl
      · rw [Nat.testBit_and, show y.2.testBit i = false from h2]; rfl
    · refine .inr (.inr ⟨by rw [show y.1.testBit i = false from h1, show z.1.testBit i = false from k1]; rfl, by rw [show y.2.testBit i = false from h2]; rfl, ⟨_, ⟨_, _, gy, gz, rfl⟩, ?_⟩, _, ⟨_, _, ly, lz, rfl⟩, ?_⟩)
      · rw [Nat.testBit_and, show (great w y).testBit i = true from h3, show (great w z).testBit i = true from k3]; rfl
      · rw [Nat.testBit_and, show y.2.testBit i = false from h2]; rfl
end K11

set_option Elab.async false
set_option linter.all false
set_option maxRecDepth 100000
set_option maxHeartbeats 4000000
namespace K11
open PySem
/-! ### bit by bit -/
theorem poss {w : Nat} {f : F2} (c : Fc w f) {i : Nat} (hi : i < w) (p : Bool) (h : (if p = true then B f.1 i else B f.2 i) = false) : ∃ a, Fit w f a ∧ B a i = p := by
  cases p with
  | false => exact ⟨_, fit_least c, h⟩
  | true =>
    refine ⟨_, fit_great c, ?_⟩
    have h' : B f.1 i = false := h
    rw [b_great c, decide_eq_true hi, h']; rfl
theorem must {w : Nat} {f : F2} {a i : Nat} (h : Fit w f a) : (if B a i = true then B f.1 i else B f.2 i) = false := by
  cases e : B a i with
  | true =>
    rw [if_pos rfl]
    cases e1 : B f.1 i with
    | false => rfl
    | true => exact (no_ft (h.z i e1) e).elim
  | false =>
    rw [if_neg (by decide)]
    cases e1 : B f.2 i with
    | false => rfl
    | true => exact (no_ft e (h.o i e1)).elim
def cB (v : Bool) (φ : Bool → Bool → Bool) (y1 y2 z1 z2 : Bool) : Bool := ((y2 || z2) || (φ false false == v)) && (((y2 || z1) || (φ false true == v)) && (((y1 || z2) || (φ true false == v)) && ((y1 || z1) || (φ true true == v))))
theorem cB_iff {w : Nat} {y z : F2} (cy : Fc w y) (cz : Fc w z) (φ : Bool → Bool → Bool) {i : Nat} (hi : i < w) (v : Bool) : cB v φ (B y.1 i) (B y.2 i) (B z.1 i) (B z.2 i) = true ↔ ∀ a b, Fit w y a → Fit w z b → φ (B a i) (B b i) = v := by
  constructor
  · intro h a b ha hb
    have h1 := must ha (i := i)
    have h2 := must hb (i := i)
    unfold cB at h
    revert h h1 h2
    generalize B a i = p
    generalize B b i = q
    generalize B y.1 i = y1
    generalize B y.2 i = y2
    generalize B z.1 i = z1
    generalize B z.2 i = z2
    intro h h1 h2
    cases p <;> cases q <;> simp at h1 h2 <;> subst h1 h2 <;> simp at h <;> simp [h]
  · intro h
    unfold cB
    have key : ∀ p q : Bool, (if p = true then B y.1 i else B y.2 i) = false → (if q = true then B z.1 i else B z.2 i) = false → φ p q = v := fun p q hp hq => by
      obtain ⟨a, ha, rfl⟩ := poss cy hi p hp
      obtain ⟨b, hb, rfl⟩ := poss cz hi q hq
      exact h a b ha hb
    have k1 := key false false
    have k2 := key false true
    have k3 := key true false
    have k4 := key true true
    simp only [Bool.false_eq_true, if_false, if_true] at k1 k2 k3 k4
    revert k1 k2 k3 k4
    generalize B y.1 i = y1
    generalize B y.2 i = y2
    generalize B z.1 i = z1
    generalize B z.2 i = z2
    intro k1 k2 k3 k4
    cases y1 <;> cases y2 <;> cases z1 <;> cases z2 <;> simp at k1 k2 k3 k4 ⊢ <;> simp [k1, k2, k3, k4]
theorem tells_bits {w : Nat} {y z : F2} (cy : Fc w y) (cz : Fc w z) (g : Nat → Nat → Nat) (φ : Bool → Bool → Bool) (hg : ∀ a b i, B (g a b) i = φ (B a i) (B b i)) {r : F2} (h1 : r.1 < 2 ^ w) (h2 : r.2 < 2 ^ w)
    (e1 : ∀ i, i < w → B r.1 i = cB false φ (B y.1 i) (B y.2 i) (B z.1 i) (B z.2 i)) (e2 : ∀ i, i < w → B r.2 i = cB true φ (B y.1 i) (B y.2 i) (B z.1 i) (B z.2 i)) : Tells w (Of2 w y z g) r := by
  refine ⟨h1, h2, fun i hi => ?_, fun i hi => ?_⟩
  · rw [e1 i hi, cB_iff cy cz φ hi]
    exact ⟨fun h s hs => by obtain ⟨a, b, ha, hb, rfl⟩ := hs; rw [hg]; exact h a b ha hb, fun h a b ha hb => by rw [← hg]; exact h _ ⟨a, b, ha, hb, rfl⟩⟩
  · rw [e2 i hi, cB_iff cy cz φ hi]
    exact ⟨fun h s hs => by obtain ⟨a, b, ha, hb, rfl⟩ := hs; rw [hg]; exact h a b ha hb, fun h a b ha hb => by rw [← hg]; exact h _ ⟨a, b, ha, hb, rfl⟩⟩
theorem tells_either {w : Nat} {y z : F2} (cy : Fc w y) (cz : Fc w z) : Tells w (Of2 w y z fun a b => a ||| b) (fEither (most w) y z) := by
  refine tells_bits cy cz (fun a b => a ||| b) (fun p q => p || q) (fun a b i => Nat.testBit_or ..) (and_lt cy.hz) (Nat.or_lt_two_pow cy.ho cz.ho) (fun i hi => ?_) (fun i hi => ?_)
  · have ny := cy.not i; have nz := cz.not i
    simp only [fEither, B, Nat.testBit_and, cB] at ny nz ⊢
    revert ny nz
    cases y.1.testBit i <;> cases y.2.testBit i <;> cases z.1.testBit i <;> cases z.2.testBit i <;> simp
  · have ny := cy.not i; have nz := cz.not i
    simp only [fEither, B, Nat.testBit_or, cB] at ny nz ⊢
    revert ny nz
    cases y.1.testBit i <;> cases y.2.testBit i <;> cases z.1.testBit i <;> cases z.2.testBit i <;> simp
theorem tells_unlike {w : Nat} {y z : F2} (cy : Fc w y) (cz : Fc w z) : Tells w (Of2 w y z fun a b => a ^^^ b) (fUnlike (most w) y z) := by
  refine tells_bits cy cz (fun a b => a ^^^ b) (fun p q => p ^^ q) (fun a b i => Nat.testBit_xor ..) (Nat.or_lt_two_pow (and_lt cy.hz) (and_lt cy.ho)) (Nat.or_lt_two_pow (and_lt cy.hz) (and_lt cy.ho)) (fun i hi => ?_) (fun i hi => ?_)
  · have ny := cy.not i; have nz := cz.not i
    simp only [fUnlike, B, Nat.testBit_and, Nat.testBit_or, cB] at ny nz ⊢
    revert ny nz
    cases y.1.testBit i <;> cases y.2.testBit i <;> cases z.1.testBit i <;> cases z.2.testBit i <;> simp
  · have ny := cy.not i; have nz := cz.not i
    simp only [fUnlike, B, Nat.testBit_and, Nat.testBit_or, cB] at ny nz ⊢
    revert ny nz
    cases y.1.testBit i <;> cases y.2.testBit i <;> cases z.1.testBit i <;> cases z.2.testBit i <;> simp
/-! ### shifts -/
theorem tells_up {w k : Nat} {y : F2} (cy : Fc w y) : Tells w (fun s => ∃ a, Fit w y a ∧ s = (a * 2 ^ k) % 2 ^ w) (fUp (most w) y k) := by
  have hb : ∀ a i, i < w → B ((a * 2 ^ k) % 2 ^ w) i = (decide (k ≤ i) && B a (i - k)) := fun a i hi => by
    unfold B
    rw [Nat.testBit_mod_two_pow, decide_eq_true hi, Bool.true_and, Nat.testBit_mul_two_pow]
  have h1 : ∀ i, B (fUp (most w) y k).1 i = (((decide (k ≤ i) && B y.1 (i - k)) || decide (i < k)) && decide (i < w)) := fun i => by
    simp only [fUp, B, Nat.testBit_and, Nat.testBit_or, Nat.testBit_mul_two_pow, Nat.testBit_two_pow_sub_one]
    rw [show (most w).testBit i = decide (i < w) from b_most w i]
  have h2 : ∀ i, B (fUp (most w) y k).2 i = ((decide (k ≤ i) && B y.2 (i - k)) && decide (i < w)) := fun i => by
    simp only [fUp, B, Nat.testBit_and, Nat.testBit_mul_two_pow]
    rw [show (most w).testBit i = decide (i < w) from b_most w i]
  refine Tells.mk' (lt_of_b fun i q => by rw [h1, decide_eq_false q, Bool.and_false]) (lt_of_b fun i q => by rw [h2, decide_eq_false q, Bool.and_false]) fun i hi => ?_
  have ly := fit_least cy; have gy := fit_great cy
  by_cases hk : k ≤ i
  · have hik : i - k < w := by omega
    have r1 : B (fUp (most w) y k).1 i = B y.1 (i - k) := by rw [h1, decide_eq_true hk, decide_eq_false (show ¬ i < k by omega), decide_eq_true hi]; simp
    have r2 : B (fUp (most w) y k).2 i = B y.2 (i - k) := by rw [h2, decide_eq_true hk, decide_eq_true hi]; simp
    have rb : ∀ a, B ((a * 2 ^ k) % 2 ^ w) i = B a (i - k) := fun a => by rw [hb a i hi, decide_eq_true hk, Bool.true_and]
    rcases cy.three hik with ⟨a1, a2⟩ | ⟨a1, a2⟩ | ⟨a1, a2, a3⟩
    · exact .inl ⟨by rw [r1, a1], by rw [r2, a2], fun s hs => by obtain ⟨a, ha, rfl⟩ := hs; rw [rb]; exact ha.z _ a1, _, _, ly, rfl⟩
    · exact .inr (.inl ⟨by rw [r1, a1], by rw [r2, a2], fun s hs => by obtain ⟨a, ha, rfl⟩ := hs; rw [rb]; exact ha.o _ a2, _, _, ly, rfl⟩)
    · exact .inr (.inr ⟨by rw [r1, a1], by rw [r2, a2], ⟨_, ⟨_, gy, rfl⟩, by rw [rb]; exact a3⟩, _, ⟨_, ly, rfl⟩, by rw [rb]; exact a2⟩)
  · refine .inl ⟨by rw [h1, decide_eq_true (show i < k by omega), decide_eq_true hi]; simp, by rw [h2, decide_eq_false hk]; rfl, fun s hs => ?_, _, _, ly, rfl⟩
    obtain ⟨a, ha, rfl⟩ := hs
    rw [hb a i hi, decide_eq_false hk]; rfl
theorem tells_down {w k : Nat} {y : F2} (cy : Fc w y) : Tells w (fun s => ∃ a, Fit w y a ∧ s = a >>> k) (fDown (most w) y k) := by
  have hb : ∀ a i, B (a >>> k) i = B a (k + i) := fun a i => Nat.testBit_shiftRight a
  have h1 : ∀ i, B (fDown (most w) y k).1 i = (B y.1 (k + i) || (decide (i < w) ^^ decide (k + i < w))) := fun i => by
    simp only [fDown, B, Nat.testBit_or, Nat.testBit_xor, Nat.testBit_shiftRight]
    rw [show (most w).testBit i = decide (i < w) from b_most w i, show (most w).testBit (k + i) = decide (k + i < w) from b_most w _]
  have h2 : ∀ i, B (fDown (most w) y k).2 i = B y.2 (k + i) := fun i => Nat.testBit_shiftRight _
  refine Tells.mk' (lt_of_b fun i q => by rw [h1, b_off cy.hz (show ¬ k + i < w by omega), decide_eq_false q, decide_eq_false (show ¬ k + i < w by omega)]; rfl) (lt_of_b fun i q => by rw [h2]; exact b_off cy.ho (by omega)) fun i hi => ?_
  have ly := fit_least cy; have gy := fit_great cy
  by_cases hk : k + i < w
  · have r1 : B (fDown (most w) y k).1 i = B y.1 (k + i) := by rw [h1, decide_eq_true hk, decide_eq_true hi]; simp
    rcases cy.three hk with ⟨a1, a2⟩ | ⟨a1, a2⟩ | ⟨a1, a2, a3⟩
    · exact .inl ⟨by rw [r1, a1], by rw [h2, a2], fun s hs => by obtain ⟨a, ha, rfl⟩ := hs; rw [hb]; exact ha.z _ a1, _, _, ly, rfl⟩
    · exact .inr (.inl ⟨by rw [r1, a1], by rw [h2, a2], fun s hs => by obtain ⟨a, ha, rfl⟩ := hs; rw [hb]; exact ha.o _ a2, _, _, ly, rfl⟩)
    · exact .inr (.inr ⟨by rw [r1, a1], by rw [h2, a2], ⟨_, ⟨_, gy, rfl⟩, by rw [hb]; exact a3⟩, _, ⟨_, ly, rfl⟩, by rw [hb]; exact a2⟩)
  · refine .inl ⟨by rw [h1, decide_eq_false hk, decide_eq_true hi]; simp, by rw [h2]; exact b_off cy.ho hk, fun s hs => ?_, _, _, ly, rfl⟩
    obtain ⟨a, ha, rfl⟩ := hs
    rw [hb]; exact b_off ha.lt hk
end K11

set_option Elab.async false
set_option linter.all false
set_option maxRecDepth 100000
set_option maxHeartbeats 4000000
namespace K11
open PySem
/-! ### sums -/
def cr (a b c i : Nat) : Bool := decide (2 ^ i ≤ a % 2 ^ i + b % 2 ^ i + c)
theorem b_add (a b c i : Nat) (hc : c ≤ 1) : B (a + b + c) i = (B a i ^^ (B b i ^^ cr a b c i)) := by
  unfold B cr
  rw [Nat.testBit_eq_decide_div_mod_eq, Nat.testBit_eq_decide_div_mod_eq, Nat.testBit_eq_decide_div_mod_eq]
  have hp : 0 < 2 ^ i := Nat.two_pow_pos i
  have ha := Nat.div_add_mod a (2 ^ i)
  have hb := Nat.div_add_mod b (2 ^ i)
  have la := Nat.mod_lt a hp
  have lb := Nat.mod_lt b hp
  have e : (a + b + c) / 2 ^ i = a / 2 ^ i + b / 2 ^ i + (a % 2 ^ i + b % 2 ^ i + c) / 2 ^ i := by
    have e1 : a + b + c = (a % 2 ^ i + b % 2 ^ i + c) + 2 ^ i * (a / 2 ^ i + b / 2 ^ i) := by
      rw [Nat.mul_add]; omega
    rw [e1, Nat.add_mul_div_left _ _ hp]
    omega
  rw [e]
  generalize a / 2 ^ i = p
  generalize b / 2 ^ i = q
  by_cases h : 2 ^ i ≤ a % 2 ^ i + b % 2 ^ i + c
  · have d : (a % 2 ^ i + b % 2 ^ i + c) / 2 ^ i = 1 := Nat.div_eq_of_lt_le (by omega) (by omega)
    rw [d, decide_eq_true h]
    by_cases hp1 : p % 2 = 1 <;> by_cases hq1 : q % 2 = 1 <;> simp only [hp1, hq1] <;> simp <;> omega
  · have d : (a % 2 ^ i + b % 2 ^ i + c) / 2 ^ i = 0 := Nat.div_eq_of_lt (by omega)
    rw [d, decide_eq_false h]
    by_cases hp1 : p % 2 = 1 <;> by_cases hq1 : q % 2 = 1 <;> simp only [hp1, hq1] <;> simp <;> omega
theorem sub_le {a b : Nat} (h : ∀ j, B a j = true → B b j = true) : a ≤ b := by
  have e : a &&& b = a := b_ext fun j => by
    unfold B
    rw [Nat.testBit_and]
    cases e : a.testBit j with
    | false => rfl
    | true => rw [show b.testBit j = true from h j e]; rfl
  rw [← e]
  exact Nat.and_le_right
theorem mod_le {a b i : Nat} (h : ∀ j, B a j = true → B b j = true) : a % 2 ^ i ≤ b % 2 ^ i := sub_le fun j e => by
  unfold B at e ⊢
  rw [Nat.testBit_mod_two_pow] at e ⊢
  simp only [Bool.and_eq_true] at e ⊢
  exact ⟨e.1, h j e.2⟩
theorem fit_lo {w : Nat} {f : F2} {x i : Nat} (h : Fit w f x) : f.2 % 2 ^ i ≤ x % 2 ^ i := mod_le h.o
theorem fit_sub_great {w : Nat} {f : F2} {x : Nat} (c : Fc w f) (h : Fit w f x) : ∀ j, B x j = true → B (great w f) j = true := fun j e => by
  have hj : j < w := by
    by_cases q : j < w
    · exact q
    · exact (no_ft (b_off h.lt q) e).elim
  have hz : B f.1 j = false := by
    cases e1 : B f.1 j with
    | false => rfl
    | true => exact (no_ft (h.z j e1) e).elim
  rw [b_great c, decide_eq_true hj, hz]; rfl
theorem fit_hi {w : Nat} {f : F2} {x i : Nat} (c : Fc w f) (h : Fit w f x) : x % 2 ^ i ≤ great w f % 2 ^ i := mod_le (fit_sub_great c h)
theorem cr_mono {a b a' b' c i : Nat} (h1 : a % 2 ^ i ≤ a' % 2 ^ i) (h2 : b % 2 ^ i ≤ b' % 2 ^ i) (h : cr a b c i = true) : cr a' b' c i = true := by
  unfold cr at h ⊢
  have := of_decide_eq_true h
  exact decide_eq_true (by omega)
/-- an open bit set in the least word -/
theorem fit_set {w : Nat} {f : F2} (c : Fc w f) {i : Nat} (hi : i < w) (h1 : B f.1 i = false) : Fit w f (f.2 ||| 2 ^ i) ∧ B (f.2 ||| 2 ^ i) i = true ∧ (f.2 ||| 2 ^ i) % 2 ^ i = f.2 % 2 ^ i := by
  have hb : ∀ j, B (f.2 ||| 2 ^ i) j = (B f.2 j || decide (i = j)) := fun j => by
    unfold B
    rw [Nat.testBit_or, Nat.testBit_two_pow]
  refine ⟨⟨Nat.or_lt_two_pow c.ho (Nat.pow_lt_pow_right (by decide) hi), fun j e => ?_, fun j e => ?_⟩, ?_, ?_⟩
  · rw [hb]
    have n1 : B f.2 j = false := by
      cases e2 : B f.2 j with
      | false => rfl
      | true => exact (c.not j ⟨e, e2⟩).elim
    have n2 : i ≠ j := fun q => no_ft h1 (by rw [q]; exact e)
    rw [n1, decide_eq_false n2]; rfl
  · rw [hb, e]; rfl
  · rw [hb, decide_eq_true rfl, Bool.or_true]
  · refine b_ext fun j => ?_
    unfold B
    rw [Nat.testBit_mod_two_pow, Nat.testBit_mod_two_pow, show (f.2 ||| 2 ^ i).testBit j = (B f.2 j || decide (i = j)) from hb j]
    by_cases q : j < i
    · rw [decide_eq_false (show ¬ i = j by omega), Bool.or_false]
    · rw [decide_eq_false q]; rfl
theorem cr_mod {a a' b b' c i : Nat} (h1 : a % 2 ^ i = a' % 2 ^ i) (h2 : b % 2 ^ i = b' % 2 ^ i) : cr a b c i = cr a' b' c i := by unfold cr; rw [h1, h2]
theorem tells_carried {w : Nat} {y z : F2} (cy : Fc w y) (cz : Fc w z) {c : Nat} (hc : c ≤ 1) : Tells w (Of2 w y z fun a b => (a + b + c) % 2 ^ w) (fCarried (most w) y z c) := by
  have hs : ∀ a b i, i < w → B ((a + b + c) % 2 ^ w) i = (B a i ^^ (B b i ^^ cr a b c i)) := fun a b i hi => by
    rw [← b_add a b c i hc]
    unfold B
    rw [Nat.testBit_mod_two_pow, decide_eq_true hi, Bool.true_and]
  have hk : ∀ i, B (((y.1 ||| y.2) &&& (z.1 ||| z.2)) - (((y.1 ||| y.2) &&& (z.1 ||| z.2)) &&& ((y.2 + z.2 + c) ^^^ ((most w ^^^ y.1) + (most w ^^^ z.1) + c)))) i = (((B y.1 i || B y.2 i) && (B z.1 i || B z.2 i)) && !(B (y.2 + z.2 + c) i ^^ B (great w y + great w z + c) i)) := fun i => by
    rw [b_minus]
    unfold B great
    rw [Nat.testBit_and, Nat.testBit_or, Nat.testBit_or, Nat.testBit_xor]
  have h1 : ∀ i, B (fCarried (most w) y z c).1 i = ((((B y.1 i || B y.2 i) && (B z.1 i || B z.2 i)) && !(B (y.2 + z.2 + c) i ^^ B (great w y + great w z + c) i)) && !B (y.2 + z.2 + c) i) := fun i => by
    show B (_ - (_ &&& _)) i = _
    rw [b_minus, hk]
  have h2 : ∀ i, B (fCarried (most w) y z c).2 i = ((((B y.1 i || B y.2 i) && (B z.1 i || B z.2 i)) && !(B (y.2 + z.2 + c) i ^^ B (great w y + great w z + c) i)) && B (y.2 + z.2 + c) i) := fun i => by
    have := hk i
    show (_ &&& _ : Nat).testBit i = _
    rw [Nat.testBit_and]
    unfold B at this ⊢
    rw [this]
  have off : ∀ i, ¬ i < w → (B y.1 i || B y.2 i) = false := fun i q => by rw [b_off cy.hz q, b_off cy.ho q]; rfl
  refine Tells.mk' (lt_of_b fun i q => by rw [h1, off i q]; rfl) (lt_of_b fun i q => by rw [h2, off i q]; rfl) fun i hi => ?_
  have ly := fit_least cy; have lz := fit_least cz; have gy := fit_great cy; have gz := fit_great cz
  by_cases oy : B y.1 i = false ∧ B y.2 i = false
  · -- y is open here
    obtain ⟨o1, o2⟩ := oy
    obtain ⟨f1, f2, f3⟩ := fit_set cy hi o1
    have e1 := hs y.2 z.2 i hi
    have e2 := hs (y.2 ||| 2 ^ i) z.2 i hi
    rw [f2, cr_mod f3 rfl] at e2
    rw [o2] at e1
    refine .inr (.inr ⟨by rw [h1, o1, o2]; rfl, by rw [h2, o1, o2]; rfl, ?_⟩)
    cases q : (B z.2 i ^^ cr y.2 z.2 c i) with
    | false => exact ⟨⟨_, ⟨_, _, f1, lz, rfl⟩, by rw [e2, q]; rfl⟩, _, ⟨_, _, ly, lz, rfl⟩, by rw [e1, q]; rfl⟩
    | true => exact ⟨⟨_, ⟨_, _, ly, lz, rfl⟩, by rw [e1, q]; rfl⟩, _, ⟨_, _, f1, lz, rfl⟩, by rw [e2, q]; rfl⟩
  · by_cases oz : B z.1 i = false ∧ B z.2 i = false
    · obtain ⟨o1, o2⟩ := oz
      obtain ⟨f1, f2, f3⟩ := fit_set cz hi o1
      have e1 := hs y.2 z.2 i hi
      have e2 := hs y.2 (z.2 ||| 2 ^ i) i hi
      rw [f2, cr_mod rfl f3] at e2
      rw [o2] at e1
      refine .inr (.inr ⟨by rw [h1, o1, o2]; simp, by rw [h2, o1, o2]; simp, ?_⟩)
      cases q : (B y.2 i ^^ cr y.2 z.2 c i) with
      | false => exact ⟨⟨_, ⟨_, _, ly, f1, rfl⟩, by rw [e2]; revert q; cases B y.2 i <;> cases cr y.2 z.2 c i <;> simp⟩, _, ⟨_, _, ly, lz, rfl⟩, by rw [e1]; revert q; cases B y.2 i <;> cases cr y.2 z.2 c i <;> simp⟩
      | true => exact ⟨⟨_, ⟨_, _, ly, lz, rfl⟩, by rw [e1]; revert q; cases B y.2 i <;> cases cr y.2 z.2 c i <;> simp⟩, _, ⟨_, _, ly, f1, rfl⟩, by rw [e2]; revert q; cases B y.2 i <;> cases cr y.2 z.2 c i <;> simp⟩
    · -- both known
      have ky : (B y.1 i || B y.2 i) = true := by revert oy; cases B y.1 i <;> cases B y.2 i <;> simp
      have kz : (B z.1 i || B z.2 i) = true := by revert oz; cases B z.1 i <;> cases B z.2 i <;> simp
      have vy : ∀ a, Fit w y a → B a i = B y.2 i := fun a ha => by
        cases e1 : B y.2 i with
        | true => exact ha.o i e1
        | false => rw [e1, Bool.or_false] at ky; exact ha.z i ky
      have vz : ∀ b, Fit w z b → B b i = B z.2 i := fun b hb => by
        cases e1 : B z.2 i with
        | true => exact hb.o i e1
        | false => rw [e1, Bool.or_false] at kz; exact hb.z i kz
      have bl : B (y.2 + z.2 + c) i = (B y.2 i ^^ (B z.2 i ^^ cr y.2 z.2 c i)) := b_add _ _ _ _ hc
      have bg : B (great w y + great w z + c) i = (B y.2 i ^^ (B z.2 i ^^ cr (great w y) (great w z) c i)) := by rw [b_add _ _ _ _ hc, vy _ gy, vz _ gz]
      have r1 := h1 i
      have r2 := h2 i
      rw [ky, kz, bl, bg] at r1 r2
      have lo : ∀ a b, Fit w y a → Fit w z b → cr y.2 z.2 c i = true → cr a b c i = true := fun a b ha hb => cr_mono (fit_lo ha) (fit_lo hb)
      have hi' : ∀ a b, Fit w y a → Fit w z b → cr a b c i = true → cr (great w y) (great w z) c i = true := fun a b ha hb => cr_mono (fit_hi cy ha) (fit_hi cz hb)
      have el := hs y.2 z.2 i hi
      have eg := hs (great w y) (great w z) i hi
      rw [vy _ gy, vz _ gz] at eg
      cases c1 : cr y.2 z.2 c i with
      | true =>
        have c2 := hi' _ _ ly lz c1
        have all : ∀ s, Of2 w y z (fun a b => (a + b + c) % 2 ^ w) s → B s i = (B y.2 i ^^ (B z.2 i ^^ true)) := fun s ⟨a, b, ha, hb, e⟩ => by rw [e, hs a b i hi, vy a ha, vz b hb, lo a b ha hb c1]
        rw [c1, c2] at r1 r2
        cases v : (B y.2 i ^^ (B z.2 i ^^ true)) with
        | false => rw [v] at r1 r2 all; exact .inl ⟨by rw [r1]; rfl, by rw [r2]; rfl, all, _, _, _, ly, lz, rfl⟩
        | true => rw [v] at r1 r2 all; exact .inr (.inl ⟨by rw [r1]; rfl, by rw [r2]; rfl, all, _, _, _, ly, lz, rfl⟩)
      | false =>
        cases c2 : cr (great w y) (great w z) c i with
        | false =>
          have all : ∀ s, Of2 w y z (fun a b => (a + b + c) % 2 ^ w) s → B s i = (B y.2 i ^^ (B z.2 i ^^ false)) := fun s ⟨a, b, ha, hb, e⟩ => by
            rw [e, hs a b i hi, vy a ha, vz b hb]
            cases c3 : cr a b c i with
            | false => rfl
            | true => exact (no_ft c2 (hi' a b ha hb c3)).elim
          rw [c1, c2] at r1 r2
          cases v : (B y.2 i ^^ (B z.2 i ^^ false)) with
          | false => rw [v] at r1 r2 all; exact .inl ⟨by rw [r1]; rfl, by rw [r2]; rfl, all, _, _, _, ly, lz, rfl⟩
          | true => rw [v] at r1 r2 all; exact .inr (.inl ⟨by rw [r1]; rfl, by rw [r2]; rfl, all, _, _, _, ly, lz, rfl⟩)
        | true =>
          rw [c1] at el r1 r2
          rw [c2] at eg r1 r2
          refine .inr (.inr ⟨?_, ?_, ?_⟩)
          · rw [r1]; cases B y.2 i <;> cases B z.2 i <;> rfl
          · rw [r2]; cases B y.2 i <;> cases B z.2 i <;> rfl
          · cases v : (B y.2 i ^^ (B z.2 i ^^ false)) with
            | false => exact ⟨⟨_, ⟨_, _, gy, gz, rfl⟩, by rw [eg]; revert v; cases B y.2 i <;> cases B z.2 i <;> simp⟩, _, ⟨_, _, ly, lz, rfl⟩, by rw [el]; exact v⟩
            | true => exact ⟨⟨_, ⟨_, _, ly, lz, rfl⟩, by rw [el]; exact v⟩, _, ⟨_, _, gy, gz, rfl⟩, by rw [eg]; revert v; cases B y.2 i <;> cases B z.2 i <;> simp⟩
theorem tells_sum {w : Nat} {y z : F2} (cy : Fc w y) (cz : Fc w z) : Tells w (Of2 w y z fun a b => (a + b) % 2 ^ w) (fSum (most w) y z) := tells_carried cy cz (Nat.zero_le 1)
/-! ### differences -/
theorem Fc.swap {w : Nat} {f : F2} (c : Fc w f) : Fc w (f.2, f.1) := ⟨c.ho, c.hz, by rw [Nat.and_comm]; exact c.no⟩
theorem b_compl {w b : Nat} (hb : b < 2 ^ w) (i : Nat) : B (most w - b) i = (decide (i < w) && !B b i) := by
  have e : most w &&& b = b := b_ext fun j => by
    unfold B
    rw [Nat.testBit_and, show (most w).testBit j = decide (j < w) from b_most w j]
    by_cases q : j < w
    · rw [decide_eq_true q, Bool.true_and]
    · rw [decide_eq_false q, show b.testBit j = false from b_off hb q]; rfl
  have h := b_minus i (most w) b
  rw [e] at h
  rw [h, b_most]
theorem fit_compl {w : Nat} {f : F2} {b : Nat} (c : Fc w f) (h : Fit w f b) : Fit w (f.2, f.1) (most w - b) := by
  have hm := most_pow w
  refine ⟨by omega, fun i e => ?_, fun i e => ?_⟩
  · rw [b_compl h.lt, show B b i = true from h.o i e]; simp
  · have hb := h.z i e
    rw [b_compl h.lt, hb]
    by_cases q : i < w
    · rw [decide_eq_true q]; rfl
    · exact (no_ft (b_off c.hz q) e).elim
end K11

set_option Elab.async false
set_option linter.all false
set_option maxRecDepth 100000
set_option maxHeartbeats 4000000
namespace K11
open PySem
theorem compl2 {w b : Nat} (h : b < 2 ^ w) : most w - (most w - b) = b := by
  have := most_pow w
  omega
theorem tells_diff {w : Nat} {y z : F2} (cy : Fc w y) (cz : Fc w z) : Tells w (Of2 w y z fun a b => (a + 2 ^ w - b) % 2 ^ w) (fDiff (most w) y z) := by
  refine (tells_carried cy cz.swap (Nat.le_refl 1)).congr fun s => ?_
  have hm := most_pow w
  constructor
  · rintro ⟨a, b, ha, hb, rfl⟩
    have hb' := fit_compl cz.swap hb
    refine ⟨a, most w - b, ha, hb', ?_⟩
    have e : a + 2 ^ w - (most w - b) = a + b + 1 := by have := hb.lt; omega
    dsimp only
    rw [e]
  · rintro ⟨a, b, ha, hb, rfl⟩
    refine ⟨a, most w - b, ha, fit_compl cz hb, ?_⟩
    have e : a + 2 ^ w - b = a + (most w - b) + 1 := by have := hb.lt; omega
    dsimp only
    rw [e]
/-! ### truths -/
theorem tells_truth {w : Nat} (hw : 1 ≤ w) {S : Nat → Prop} {nv al : Bool} (hS : ∀ s, S s → s = 0 ∨ s = 1) (ne : ∃ s, S s) (hn : nv = true ↔ ∀ s, S s → s = 0) (ha : nv = false → (al = true ↔ ∀ s, S s → s = 1)) : Tells w S (fTruth (most w) nv al) := by
  have p2 : 2 ^ 1 ≤ 2 ^ w := Nat.pow_le_pow_right (by decide) hw
  have hm := most_pow w
  have b1 : ∀ i, B 1 i = decide (i = 0) := fun i => by
    have := Nat.testBit_two_pow (n := 0) (m := i)
    unfold B
    rw [show (1 : Nat) = 2 ^ 0 from rfl, this]
    exact decide_eq_decide.mpr ⟨fun e => e.symm, fun e => e.symm⟩
  have b0 : ∀ i, B 0 i = false := fun i => Nat.zero_testBit i
  have bx : ∀ i, B (most w ^^^ 1) i = (decide (i < w) ^^ decide (i = 0)) := fun i => by
    unfold B
    rw [Nat.testBit_xor, show (most w).testBit i = decide (i < w) from b_most w i, show Nat.testBit 1 i = decide (i = 0) from b1 i]
  obtain ⟨s0, hs0⟩ := ne
  cases nv with
  | true =>
    have hz := hn.mp rfl
    refine Tells.mk' (by show most w < 2 ^ w; omega) (by show 0 < 2 ^ w; omega) fun i hi => .inl ⟨by show B (most w) i = true; rw [b_most, decide_eq_true hi], b0 i, fun s hs => by rw [hz s hs]; exact b0 i, s0, hs0⟩
  | false =>
    have n0 : ∃ s, S s ∧ s = 1 := by
      refine Classical.byContradiction fun q => ?_
      have : ∀ s, S s → s = 0 := fun s hs => by
        rcases hS s hs with e | e
        · exact e
        · exact absurd ⟨s, hs, e⟩ q
      exact absurd (hn.mpr this) (by decide)
    obtain ⟨s1, hs1, rfl⟩ := n0
    have hx : most w ^^^ 1 < 2 ^ w := lt_of_b fun i q => by rw [bx, decide_eq_false q, decide_eq_false (show ¬ i = 0 by omega)]; rfl
    have up : ∀ i, i < w → ¬ i = 0 → ∀ s, S s → B s i = false := fun i hi h0 s hs => by
      rcases hS s hs with rfl | rfl
      · exact b0 i
      · rw [b1, decide_eq_false h0]
    cases al with
    | true =>
      have h1 := (ha rfl).mp rfl
      refine Tells.mk' hx (by show 1 < 2 ^ w; omega) fun i hi => ?_
      by_cases h0 : i = 0
      · subst h0
        exact .inr (.inl ⟨by show B (most w ^^^ 1) 0 = false; rw [bx, decide_eq_true hi]; rfl, by show B 1 0 = true; rw [b1]; rfl, fun s hs => by rw [h1 s hs, b1]; rfl, s0, hs0⟩)
      · exact .inl ⟨by show B (most w ^^^ 1) i = true; rw [bx, decide_eq_true hi, decide_eq_false h0]; rfl, by show B 1 i = false; rw [b1, decide_eq_false h0], up i hi h0, s0, hs0⟩
    | false =>
      have n1 : ∃ s, S s ∧ s = 0 := by
        refine Classical.byContradiction fun q => ?_
        have : ∀ s, S s → s = 1 := fun s hs => by
          rcases hS s hs with e | e
          · exact absurd ⟨s, hs, e⟩ q
          · exact e
        exact absurd ((ha rfl).mpr this) (by decide)
      obtain ⟨s2, hs2, rfl⟩ := n1
      refine Tells.mk' hx (by show 0 < 2 ^ w; omega) fun i hi => ?_
      by_cases h0 : i = 0
      · subst h0
        exact .inr (.inr ⟨by show B (most w ^^^ 1) 0 = false; rw [bx, decide_eq_true hi]; rfl, b0 0, ⟨1, hs1, by rw [b1]; rfl⟩, 0, hs2, b0 0⟩)
      · exact .inl ⟨by show B (most w ^^^ 1) i = true; rw [bx, decide_eq_true hi, decide_eq_false h0]; rfl, b0 i, up i hi h0, s0, hs0⟩
theorem tf01 {p : Prop} [Decidable p] : (if p then 1 else 0 : Nat) = 0 ∨ (if p then 1 else 0 : Nat) = 1 := by
  by_cases h : p
  · rw [if_pos h]; exact .inr rfl
  · rw [if_neg h]; exact .inl rfl
theorem tells_same {w : Nat} (hw : 1 ≤ w) {y z : F2} (cy : Fc w y) (cz : Fc w z) : Tells w (Of2 w y z fun a b => if a = b then 1 else 0) (fSame (most w) y z) := by
  have ly := fit_least cy; have lz := fit_least cz; have gy := fit_great cy; have gz := fit_great cz
  refine tells_truth hw (fun s ⟨a, b, _, _, e⟩ => by rw [e]; exact tf01) ⟨_, _, _, ly, lz, rfl⟩ ?_ (fun hn => ?_)
  · rw [Bool.not_eq_true', decide_eq_false_iff_not]
    constructor
    · intro h s ⟨a, b, ha, hb, e⟩
      rw [e]; dsimp only; rw [if_neg]
      rintro rfl
      refine h (b_ext fun i => ?_)
      unfold B
      rw [Nat.testBit_or, Nat.testBit_and, Nat.testBit_and, Nat.zero_testBit]
      have p1 : ¬ (B y.1 i = true ∧ B z.2 i = true) := fun ⟨e1, e2⟩ => no_ft (ha.z i e1) (hb.o i e2)
      have p2 : ¬ (B y.2 i = true ∧ B z.1 i = true) := fun ⟨e1, e2⟩ => no_ft (hb.z i e2) (ha.o i e1)
      unfold B at p1 p2
      revert p1 p2
      cases y.1.testBit i <;> cases y.2.testBit i <;> cases z.1.testBit i <;> cases z.2.testBit i <;> simp
    · intro h e0
      -- without a conflict one word fits both
      have nb : ∀ i, ¬ (B y.1 i = true ∧ B z.2 i = true) ∧ ¬ (B y.2 i = true ∧ B z.1 i = true) := fun i => by
        have e := congrArg (fun n => n.testBit i) e0
        simp only [Nat.testBit_or, Nat.testBit_and, Nat.zero_testBit] at e
        unfold B
        revert e
        cases y.1.testBit i <;> cases y.2.testBit i <;> cases z.1.testBit i <;> cases z.2.testBit i <;> simp
      have bo : ∀ i, B (y.2 ||| z.2) i = (B y.2 i || B z.2 i) := fun i => Nat.testBit_or ..
      have fy : Fit w y (y.2 ||| z.2) := ⟨Nat.or_lt_two_pow cy.ho cz.ho, fun i e => by
        rw [bo]
        have a1 : B y.2 i = false := by cases q : B y.2 i with | false => rfl | true => exact (cy.not i ⟨e, q⟩).elim
        have a2 : B z.2 i = false := by cases q : B z.2 i with | false => rfl | true => exact ((nb i).1 ⟨e, q⟩).elim
        rw [a1, a2]; rfl, fun i e => by rw [bo, e]; rfl⟩
      have fz : Fit w z (y.2 ||| z.2) := ⟨Nat.or_lt_two_pow cy.ho cz.ho, fun i e => by
        rw [bo]
        have a1 : B z.2 i = false := by cases q : B z.2 i with | false => rfl | true => exact (cz.not i ⟨e, q⟩).elim
        have a2 : B y.2 i = false := by cases q : B y.2 i with | false => rfl | true => exact ((nb i).2 ⟨q, e⟩).elim
        rw [a1, a2]; rfl, fun i e => by rw [bo, e, Bool.or_true]⟩
      have := h _ ⟨_, _, fy, fz, rfl⟩
      dsimp only at this
      rw [if_pos rfl] at this
      cases this
  · rw [decide_eq_true_iff]
    constructor
    · intro e0 s ⟨a, b, ha, hb, e⟩
      have eb : ∀ i, i < w → (B y.1 i = true ∧ B z.1 i = true) ∨ (B y.2 i = true ∧ B z.2 i = true) := fun i hi => by
        have e := congrArg (fun n => n.testBit i) e0
        simp only [Nat.testBit_or, Nat.testBit_and] at e
        rw [show (most w).testBit i = decide (i < w) from b_most w i, decide_eq_true hi] at e
        unfold B
        revert e
        cases y.1.testBit i <;> cases y.2.testBit i <;> cases z.1.testBit i <;> cases z.2.testBit i <;> simp
      rw [e]; dsimp only; rw [if_pos]
      refine b_ext fun i => ?_
      by_cases hi : i < w
      · rcases eb i hi with ⟨e1, e2⟩ | ⟨e1, e2⟩
        · rw [ha.z i e1, hb.z i e2]
        · rw [ha.o i e1, hb.o i e2]
      · rw [b_off ha.lt hi, b_off hb.lt hi]
    · intro h
      have eq : ∀ a b, Fit w y a → Fit w z b → a = b := fun a b ha hb => by
        refine Classical.byContradiction fun q => ?_
        have := h _ ⟨a, b, ha, hb, rfl⟩
        dsimp only at this
        rw [if_neg q] at this
        cases this
      have e1 := eq _ _ ly lz
      have e2 := eq _ _ gy lz
      have e3 := eq _ _ ly gz
      refine b_ext fun i => ?_
      unfold B
      rw [Nat.testBit_or, Nat.testBit_and, Nat.testBit_and, show (most w).testBit i = decide (i < w) from b_most w i]
      by_cases hi : i < w
      · have g1 : B (great w y) i = B y.2 i := by rw [e2, ← e1]
        have g2 : B (great w z) i = B z.2 i := by rw [← e3, e1]
        have g3 : B y.2 i = B z.2 i := by rw [e1]
        rw [b_great cy, decide_eq_true hi, Bool.true_and] at g1
        rw [b_great cz, decide_eq_true hi, Bool.true_and] at g2
        unfold B at g1 g2 g3
        rw [decide_eq_true hi]
        revert g1 g2 g3
        cases y.1.testBit i <;> cases y.2.testBit i <;> cases z.1.testBit i <;> cases z.2.testBit i <;> simp
      · rw [decide_eq_false hi, show y.1.testBit i = false from b_off cy.hz hi, show y.2.testBit i = false from b_off cy.ho hi]; rfl
theorem fit_ge {w : Nat} {f : F2} {x : Nat} (h : Fit w f x) : f.2 ≤ x := sub_le h.o
theorem fit_le {w : Nat} {f : F2} {x : Nat} (c : Fc w f) (h : Fit w f x) : x ≤ great w f := sub_le (fit_sub_great c h)
theorem tells_below {w : Nat} (hw : 1 ≤ w) {y z : F2} (cy : Fc w y) (cz : Fc w z) : Tells w (Of2 w y z fun a b => if a < b then 1 else 0) (fBelow (most w) y z) := by
  have ly := fit_least cy; have lz := fit_least cz; have gy := fit_great cy; have gz := fit_great cz
  refine tells_truth hw (fun s ⟨a, b, _, _, e⟩ => by rw [e]; exact tf01) ⟨_, _, _, ly, lz, rfl⟩ ?_ (fun hn => ?_)
  · rw [decide_eq_true_iff]
    constructor
    · intro h s ⟨a, b, ha, hb, e⟩
      have h1 := fit_ge ha
      have h2 := fit_le cz hb
      have h' : great w z ≤ y.2 := h
      rw [e]; dsimp only; rw [if_neg (by omega)]
    · intro h
      have := h _ ⟨_, _, ly, gz, rfl⟩
      dsimp only at this
      by_cases q : y.2 < great w z
      · rw [if_pos q] at this; cases this
      · exact Nat.le_of_not_lt q
  · rw [decide_eq_true_iff]
    constructor
    · intro h s ⟨a, b, ha, hb, e⟩
      have h1 := fit_le cy ha
      have h2 := fit_ge hb
      have h' : great w y < z.2 := h
      rw [e]; dsimp only; rw [if_pos (by omega)]
    · intro h
      have := h _ ⟨_, _, gy, lz, rfl⟩
      dsimp only at this
      by_cases q : great w y < z.2
      · exact q
      · rw [if_neg q] at this; cases this
/-! ### picks -/
theorem tells_or {w : Nat} {S T : Nat → Prop} {f g : F2} (a : Tells w S f) (b : Tells w T g) : Tells w (fun s => S s ∨ T s) (fCommon f g) := by
  refine ⟨and_lt a.hz, and_lt a.ho, fun i hi => ?_, fun i hi => ?_⟩
  · show (f.1 &&& g.1).testBit i = true ↔ _
    rw [Nat.testBit_and, Bool.and_eq_true]
    refine (and_congr (a.bz i hi) (b.bz i hi)).trans ⟨fun ⟨h1, h2⟩ s hs => hs.elim (h1 s) (h2 s), fun h => ⟨fun s hs => h s (.inl hs), fun s hs => h s (.inr hs)⟩⟩
  · show (f.2 &&& g.2).testBit i = true ↔ _
    rw [Nat.testBit_and, Bool.and_eq_true]
    refine (and_congr (a.bo i hi) (b.bo i hi)).trans ⟨fun ⟨h1, h2⟩ s hs => hs.elim (h1 s) (h2 s), fun h => ⟨fun s hs => h s (.inl hs), fun s hs => h s (.inr hs)⟩⟩
def Of3 (w : Nat) (c y z : F2) (s : Nat) : Prop := ∃ a b d, Fit w c a ∧ Fit w y b ∧ Fit w z d ∧ s = if 0 < a then b else d
theorem tells_pick {w : Nat} {c y z : F2} (cc : Fc w c) (cy : Fc w y) (cz : Fc w z) : Tells w (Of3 w c y z) (fPick (most w) c y z) := by
  have lc := fit_least cc; have gc := fit_great cc
  have ly := fit_least cy; have lz := fit_least cz
  unfold fPick
  by_cases h : c.2 = 0
  · rw [if_neg (fun n => n h)]
    by_cases h1 : c.1 = most w
    · rw [if_pos h1]
      refine (tells_copy cz).congr fun s => ?_
      have g0 : great w c = 0 := by unfold great; rw [h1, Nat.xor_self]
      constructor
      · intro hs
        refine ⟨_, _, s, lc, ly, hs, ?_⟩
        rw [h, if_neg (by omega)]
      · rintro ⟨a, b, d, ha, hb, hd, rfl⟩
        have := fit_le cc ha
        rw [g0] at this
        rw [if_neg (by omega)]
        exact hd
    · rw [if_neg h1]
      have g1 : 0 < great w c := by
        refine Nat.pos_of_ne_zero fun e => h1 ?_
        refine b_ext fun i => ?_
        have e2 : B (great w c) i = false := by rw [e]; exact Nat.zero_testBit i
        rw [b_great cc] at e2
        rw [b_most]
        by_cases hi : i < w
        · rw [decide_eq_true hi] at e2 ⊢
          revert e2
          cases B c.1 i <;> simp
        · rw [decide_eq_false hi]; exact b_off cc.hz hi
      refine (tells_or (tells_copy cy) (tells_copy cz)).congr fun s => ?_
      constructor
      · rintro (hs | hs)
        · exact ⟨_, s, _, gc, hs, lz, by rw [if_pos g1]⟩
        · exact ⟨_, _, s, lc, ly, hs, by rw [h, if_neg (by omega)]⟩
      · rintro ⟨a, b, d, ha, hb, hd, rfl⟩
        by_cases q : 0 < a
        · rw [if_pos q]; exact .inl hb
        · rw [if_neg q]; exact .inr hd
  · rw [if_pos h]
    refine (tells_copy cy).congr fun s => ?_
    constructor
    · intro hs
      exact ⟨_, s, _, lc, hs, lz, by rw [if_pos (by omega)]⟩
    · rintro ⟨a, b, d, ha, hb, hd, rfl⟩
      have := fit_ge ha
      rw [if_pos (by omega)]
      exact hb
end K11

set_option Elab.async false
set_option linter.all false
set_option maxRecDepth 100000
set_option maxHeartbeats 4000000
namespace K11
open PySem
/-! ### the law's own going through all words -/
def fitB (f : F2) (x : Nat) : Bool := (x &&& f.1 == 0) && (x &&& f.2 == f.2)
def fits (w : Nat) (f : F2) : List Nat := (List.range (2 ^ w)).filter (fitB f)
theorem fits_iff {w : Nat} {f : F2} {x : Nat} : x ∈ fits w f ↔ Fit w f x := by
  unfold fits fitB
  rw [List.mem_filter, List.mem_range, Bool.and_eq_true, beq_iff_eq, beq_iff_eq]
  constructor
  · rintro ⟨h, h1, h2⟩
    refine ⟨h, fun i e => ?_, fun i e => ?_⟩
    · have q := congrArg (fun n => n.testBit i) h1
      simp only [Nat.testBit_and, Nat.zero_testBit] at q
      rw [show f.1.testBit i = true from e, Bool.and_true] at q
      exact q
    · have q := congrArg (fun n => n.testBit i) h2
      simp only [Nat.testBit_and] at q
      rw [show f.2.testBit i = true from e, Bool.and_true] at q
      exact q
  · intro h
    refine ⟨h.lt, b_ext fun i => ?_, b_ext fun i => ?_⟩
    · unfold B
      rw [Nat.testBit_and, Nat.zero_testBit]
      cases e : f.1.testBit i with
      | false => rw [Bool.and_false]
      | true => rw [show x.testBit i = false from h.z i e]; rfl
    · unfold B
      rw [Nat.testBit_and]
      cases e : f.2.testBit i with
      | false => rw [Bool.and_false]
      | true => rw [show x.testBit i = true from h.o i e]; rfl
def foldB (m : Nat) (l : List Nat) : Nat × Nat := l.foldl (fun p x => (p.1 &&& x, p.2 ||| x)) (m, 0)
theorem fold_bits (i : Nat) : ∀ (l : List Nat) (p : Nat × Nat), B (l.foldl (fun p x => (p.1 &&& x, p.2 ||| x)) p).1 i = (B p.1 i && l.all fun x => B x i) ∧ B (l.foldl (fun p x => (p.1 &&& x, p.2 ||| x)) p).2 i = (B p.2 i || l.any fun x => B x i)
  | [], p => by simp
  | x :: l, p => by
    obtain ⟨h1, h2⟩ := fold_bits i l (p.1 &&& x, p.2 ||| x)
    refine ⟨?_, ?_⟩
    · rw [List.foldl_cons, h1, List.all_cons]
      unfold B
      rw [Nat.testBit_and, Bool.and_assoc]
    · rw [List.foldl_cons, h2, List.any_cons]
      unfold B
      rw [Nat.testBit_or, Bool.or_assoc]
def due (w : Nat) (l : List Nat) : F2 := (most w - (foldB (most w) l).2, (foldB (most w) l).1)
theorem fold_take (m : Nat) (l : List Nat) (i x : Nat) (h : l[i]? = some x) : foldB m (l.take (i + 1)) = ((foldB m (l.take i)).1 &&& x, (foldB m (l.take i)).2 ||| x) := by
  unfold foldB
  rw [List.take_add_one, h, List.foldl_append]
  rfl
theorem fold_lt {w : Nat} {l : List Nat} (hl : ∀ x ∈ l, x < 2 ^ w) : (foldB (most w) l).2 < 2 ^ w ∧ (foldB (most w) l).1 < 2 ^ w := by
  refine ⟨lt_of_b fun i q => ?_, lt_of_b fun i q => ?_⟩
  · rw [show B (foldB (most w) l).2 i = (B 0 i || l.any fun x => B x i) from (fold_bits i l _).2, show B 0 i = false from Nat.zero_testBit i, Bool.false_or, List.any_eq_false]
    intro x hx
    rw [b_off (hl x hx) q]; decide
  · rw [show B (foldB (most w) l).1 i = (B (most w) i && l.all fun x => B x i) from (fold_bits i l _).1, b_most, decide_eq_false q]; rfl
theorem tells_due {w : Nat} {l : List Nat} (hl : ∀ x ∈ l, x < 2 ^ w) : Tells w (· ∈ l) (due w l) := by
  obtain ⟨h1, h2⟩ := fold_lt hl
  have hm := most_pow w
  refine ⟨by show most w - _ < 2 ^ w; omega, h2, fun i hi => ?_, fun i hi => ?_⟩
  · show B (most w - (foldB (most w) l).2) i = true ↔ _
    rw [b_compl h1, decide_eq_true hi, Bool.true_and, show B (foldB (most w) l).2 i = (B 0 i || l.any fun x => B x i) from (fold_bits i l _).2, show B 0 i = false from Nat.zero_testBit i, Bool.false_or, Bool.not_eq_true', List.any_eq_false]
    exact ⟨fun h s hs => by simpa using h s hs, fun h s hs => by rw [h s hs]; decide⟩
  · show B (foldB (most w) l).1 i = true ↔ _
    rw [show B (foldB (most w) l).1 i = (B (most w) i && l.all fun x => B x i) from (fold_bits i l _).1, b_most, decide_eq_true hi, Bool.true_and, List.all_eq_true]
def opF (w : Nat) : Op → Nat → Nat → Nat
  | .add => fun a b => (a + b) % 2 ^ w
  | .less => fun a b => (a + 2 ^ w - b) % 2 ^ w
  | .and => fun a b => a &&& b
  | .or => fun a b => a ||| b
  | .unlike => fun a b => a ^^^ b
  | .same => fun a b => if a = b then 1 else 0
  | .below => fun a b => if a < b then 1 else 0
def comesF (w : Nat) : Ex → List Nat → Nat
  | .num n, _ => n
  | .copy _, ws => ws.getD 0 0
  | .up _ k, ws => (ws.getD 0 0 * 2 ^ k) % 2 ^ w
  | .down _ k, ws => ws.getD 0 0 >>> k
  | .pick _ _ _, ws => if 0 < ws.getD 0 0 then ws.getD 1 0 else ws.getD 2 0
  | .two o _ _, ws => opF w o (ws.getD 0 0) (ws.getD 1 0)
def longer (w : Nat) (f : F2) (rows : List (List Nat)) : List (List Nat) := rows.flatMap fun row => (fits w f).map fun v => row ++ [v]
def rowsF (w : Nat) (g : PySem.Str → F2) (names : List PySem.Str) : List (List Nat) := names.foldl (fun rows x => longer w (g x) rows) [[]]
def foundF (w : Nat) (g : PySem.Str → F2) (e : Ex) : List Nat := (rowsF w g e.names).map (comesF w e)
def Ex.ok (w : Nat) : Ex → Prop
  | .num n => n < 2 ^ w
  | .up _ k => k ≤ 11
  | .down _ k => k ≤ 11
  | _ => True
theorem tells_op {w : Nat} (hw : 1 ≤ w) {y z : F2} (cy : Fc w y) (cz : Fc w z) : ∀ o : Op, Tells w (Of2 w y z (opF w o)) (o.f (most w) y z)
  | .add => tells_sum cy cz
  | .less => tells_diff cy cz
  | .and => tells_both cy cz
  | .or => tells_either cy cz
  | .unlike => tells_unlike cy cz
  | .same => tells_same hw cy cz
  | .below => tells_below hw cy cz
theorem mem_longer {w : Nat} {f : F2} {rows : List (List Nat)} {r : List Nat} : r ∈ longer w f rows ↔ ∃ q ∈ rows, ∃ v, Fit w f v ∧ r = q ++ [v] := by
  unfold longer
  rw [List.mem_flatMap]
  constructor
  · rintro ⟨q, hq, h⟩
    obtain ⟨v, hv, rfl⟩ := List.mem_map.mp h
    exact ⟨q, hq, v, fits_iff.mp hv, rfl⟩
  · rintro ⟨q, hq, v, hv, rfl⟩
    exact ⟨q, hq, List.mem_map.mpr ⟨v, fits_iff.mpr hv, rfl⟩⟩
theorem rows1 {w : Nat} {g : PySem.Str → F2} {y : PySem.Str} {r : List Nat} : r ∈ rowsF w g [y] ↔ ∃ a, Fit w (g y) a ∧ r = [a] := by
  show r ∈ longer w (g y) [[]] ↔ _
  rw [mem_longer]
  constructor
  · rintro ⟨q, hq, v, hv, rfl⟩
    rw [List.mem_singleton.mp hq]
    exact ⟨v, hv, rfl⟩
  · rintro ⟨a, ha, rfl⟩
    exact ⟨[], List.mem_singleton.mpr rfl, a, ha, rfl⟩
theorem rows2 {w : Nat} {g : PySem.Str → F2} {y z : PySem.Str} {r : List Nat} : r ∈ rowsF w g [y, z] ↔ ∃ a b, Fit w (g y) a ∧ Fit w (g z) b ∧ r = [a, b] := by
  show r ∈ longer w (g z) (longer w (g y) [[]]) ↔ _
  rw [mem_longer]
  constructor
  · rintro ⟨q, hq, v, hv, rfl⟩
    obtain ⟨a, ha, rfl⟩ := rows1.mp hq
    exact ⟨a, v, ha, hv, rfl⟩
  · rintro ⟨a, b, ha, hb, rfl⟩
    exact ⟨[a], rows1.mpr ⟨a, ha, rfl⟩, b, hb, rfl⟩
theorem rows3 {w : Nat} {g : PySem.Str → F2} {c y z : PySem.Str} {r : List Nat} : r ∈ rowsF w g [c, y, z] ↔ ∃ a b d, Fit w (g c) a ∧ Fit w (g y) b ∧ Fit w (g z) d ∧ r = [a, b, d] := by
  show r ∈ longer w (g z) (longer w (g y) (longer w (g c) [[]])) ↔ _
  rw [mem_longer]
  constructor
  · rintro ⟨q, hq, v, hv, rfl⟩
    obtain ⟨a, b, ha, hb, rfl⟩ := rows2.mp hq
    exact ⟨a, b, v, ha, hb, hv, rfl⟩
  · rintro ⟨a, b, d, ha, hb, hd, rfl⟩
    exact ⟨[a, b], rows2.mpr ⟨a, b, ha, hb, rfl⟩, d, hd, rfl⟩
theorem opF_lt {w : Nat} (hw : 1 ≤ w) {a b : Nat} (ha : a < 2 ^ w) (hb : b < 2 ^ w) (o : Op) : opF w o a b < 2 ^ w := by
  have p2 : 2 ^ 1 ≤ 2 ^ w := Nat.pow_le_pow_right (by decide) hw
  cases o with
  | add => exact Nat.mod_lt _ (by omega)
  | less => exact Nat.mod_lt _ (by omega)
  | and => exact and_lt ha
  | or => exact Nat.or_lt_two_pow ha hb
  | unlike => exact Nat.xor_lt_two_pow ha hb
  | same => show (if a = b then 1 else 0 : Nat) < _; split <;> omega
  | below => show (if a < b then 1 else 0 : Nat) < _; split <;> omega
/-- what is found is what may come -/
theorem found_tells {w : Nat} (hw : 1 ≤ w) {g : PySem.Str → F2} {e : Ex} (he : e.ok w) (hf : ∀ x ∈ e.names, Fc w (g x)) : Tells w (· ∈ foundF w g e) (exF (most w) g e) ∧ ∀ x ∈ foundF w g e, x < 2 ^ w := by
  have p2 : 2 ^ 1 ≤ 2 ^ w := Nat.pow_le_pow_right (by decide) hw
  cases e with
  | num n =>
    refine ⟨(tells_num (show n < 2 ^ w from he)).congr fun s => ?_, fun x hx => ?_⟩
    · show s = n ↔ s ∈ [n]
      rw [List.mem_singleton]
    · rw [List.mem_singleton.mp (show x ∈ [n] from hx)]; exact he
  | copy y =>
    have c := hf y (by simp [Ex.names])
    have m : ∀ s, s ∈ foundF w g (.copy y) ↔ Fit w (g y) s := fun s => by
      unfold foundF
      rw [List.mem_map]
      exact ⟨fun ⟨r, hr, e⟩ => by obtain ⟨a, ha, rfl⟩ := rows1.mp hr; rw [← e]; exact ha, fun h => ⟨[s], rows1.mpr ⟨s, h, rfl⟩, rfl⟩⟩
    exact ⟨(tells_copy c).congr fun s => (m s).symm, fun x hx => ((m x).mp hx).lt⟩
  | two o y z =>
    have c1 := hf y (by simp [Ex.names])
    have c2 := hf z (by simp [Ex.names])
    have m : ∀ s, s ∈ foundF w g (.two o y z) ↔ Of2 w (g y) (g z) (opF w o) s := fun s => by
      unfold foundF
      rw [List.mem_map]
      exact ⟨fun ⟨r, hr, e⟩ => by obtain ⟨a, b, ha, hb, rfl⟩ := rows2.mp hr; exact ⟨a, b, ha, hb, e.symm⟩, fun ⟨a, b, ha, hb, e⟩ => ⟨[a, b], rows2.mpr ⟨a, b, ha, hb, rfl⟩, e.symm⟩⟩
    refine ⟨(tells_op hw c1 c2 o).congr fun s => (m s).symm, fun x hx => ?_⟩
    obtain ⟨a, b, ha, hb, rfl⟩ := (m x).mp hx
    exact opF_lt hw ha.lt hb.lt o
  | up y k =>
    have c := hf y (by simp [Ex.names])
    have m : ∀ s, s ∈ foundF w g (.up y k) ↔ ∃ a, Fit w (g y) a ∧ s = (a * 2 ^ k) % 2 ^ w := fun s => by
      unfold foundF
      rw [List.mem_map]
      exact ⟨fun ⟨r, hr, e⟩ => by obtain ⟨a, ha, rfl⟩ := rows1.mp hr; exact ⟨a, ha, e.symm⟩, fun ⟨a, ha, e⟩ => ⟨[a], rows1.mpr ⟨a, ha, rfl⟩, e.symm⟩⟩
    refine ⟨(tells_up c).congr fun s => (m s).symm, fun x hx => ?_⟩
    obtain ⟨a, ha, rfl⟩ := (m x).mp hx
    exact Nat.mod_lt _ (by omega)
  | down y k =>
    have c := hf y (by simp [Ex.names])
    have m : ∀ s, s ∈ foundF w g (.down y k) ↔ ∃ a, Fit w (g y) a ∧ s = a >>> k := fun s => by
      unfold foundF
      rw [List.mem_map]
      exact ⟨fun ⟨r, hr, e⟩ => by obtain ⟨a, ha, rfl⟩ := rows1.mp hr; exact ⟨a, ha, e.symm⟩, fun ⟨a, ha, e⟩ => ⟨[a], rows1.mpr ⟨a, ha, rfl⟩, e.symm⟩⟩
    refine ⟨(tells_down c).congr fun s => (m s).symm, fun x hx => ?_⟩
    obtain ⟨a, ha, rfl⟩ := (m x).mp hx
    exact Nat.lt_of_le_of_lt (Nat.shiftRight_le a k) ha.lt
  | pick c y z =>
    have c0 := hf c (by simp [Ex.names])
    have c1 := hf y (by simp [Ex.names])
    have c2 := hf z (by simp [Ex.names])
    have m : ∀ s, s ∈ foundF w g (.pick c y z) ↔ Of3 w (g c) (g y) (g z) s := fun s => by
      unfold foundF
      rw [List.mem_map]
      exact ⟨fun ⟨r, hr, e⟩ => by obtain ⟨a, b, d, ha, hb, hd, rfl⟩ := rows3.mp hr; exact ⟨a, b, d, ha, hb, hd, e.symm⟩, fun ⟨a, b, d, ha, hb, hd, e⟩ => ⟨[a, b, d], rows3.mpr ⟨a, b, d, ha, hb, hd, rfl⟩, e.symm⟩⟩
    refine ⟨(tells_pick c0 c1 c2).congr fun s => (m s).symm, fun x hx => ?_⟩
    obtain ⟨a, b, d, ha, hb, hd, rfl⟩ := (m x).mp hx
    split
    · exact hb.lt
    · exact hd.lt
theorem due_eq {w : Nat} (hw : 1 ≤ w) {g : PySem.Str → F2} {e : Ex} (he : e.ok w) (hf : ∀ x ∈ e.names, Fc w (g x)) : due w (foundF w g e) = exF (most w) g e := by
  obtain ⟨h1, h2⟩ := found_tells hw he hf
  exact (tells_due h2).uniq h1
end K11

set_option Elab.async false
set_option linter.all false
set_option maxRecDepth 100000
set_option maxHeartbeats 4000000
namespace K11
open PySem PySem.Spec PyProof.Rows L2
/-! ### facts drawn -/
theorem and_up {z o i : Nat} (hz : z < 2 ^ i) (ho : o < 2 ^ i) (h : z &&& o = 0) : (z + 1 * 2 ^ i) &&& o = 0 ∧ z &&& (o + 1 * 2 ^ i) = 0 ∧ z + 1 * 2 ^ i < 2 ^ (i + 1) ∧ o + 1 * 2 ^ i < 2 ^ (i + 1) := by
  have hp : 2 ^ (i + 1) = 2 * 2 ^ i := by rw [Nat.pow_succ, Nat.mul_comm]
  have hb : ∀ x, x < 2 ^ i → ∀ j, B (x + 1 * 2 ^ i) j = if j < i then B x j else B 1 (j - i) := fun x hx j => by
    rw [show x + 1 * 2 ^ i = 2 ^ i * 1 + x by omega]
    exact Nat.testBit_two_pow_mul_add 1 hx j
  have key : ∀ x y, x < 2 ^ i → y < 2 ^ i → x &&& y = 0 → (x + 1 * 2 ^ i) &&& y = 0 := fun x y hx hy e => b_ext fun j => by
    unfold B
    rw [Nat.testBit_and, Nat.zero_testBit, show (x + 1 * 2 ^ i).testBit j = _ from hb x hx j]
    by_cases q : j < i
    · rw [if_pos q]
      have e2 := congrArg (fun n => n.testBit j) e
      simp only [Nat.testBit_and, Nat.zero_testBit] at e2
      exact e2
    · rw [show y.testBit j = false from b_off hy q, Bool.and_false]
  refine ⟨key z o hz ho h, ?_, by omega, by omega⟩
  rw [Nat.and_comm]
  exact key o z ho hz (by rw [Nat.and_comm]; exact h)
abbrev sLFacts : Stmt := top 31
theorem scLFacts : FnScope ["draw", "wide", "way", "zeros", "ones", "k", "kind"] ["draw", "wide"] (defScope sLFacts) := ⟨rfl, rfl, rfl, by decide +kernel, rfl, by decide +kernel, by decide +kernel⟩
def spLFacts : Sp := fun vs H Q _ => ∃ (d c : Addr) (ns : List Int) (n v : Nat), vs = [.ref d, .int (v : Int)] ∧ Dr H d c ns n ∧ n ≤ 100000 ∧ 1 ≤ v ∧ v ≤ 12 ∧
  ∀ (p : Addr) (f : F2) H', Fc v f → H p = none → Kept (At d) H H' → Dr H' d c ns (n + 30) → H' p = some (.tup (twoF f)) → Q (.ref p) H'
theorem kinds {r1 r2 w : Nat} (h1 : r1 < 3) (h2 : r2 < 2) (hw : w < 8) : ∃ kd : Nat, kd ≤ 2 ∧ atI [V.int (r1 : Int), V.int 0, V.int ((1 + r2 : Nat) : Int)] (if (w : Int) - 5 > 0 then (w : Int) - 5 else 0) = some (.int (kd : Int)) := by
  by_cases h : (w : Int) - 5 > 0
  · rw [if_pos h]
    rcases (show w = 6 ∨ w = 7 by omega) with rfl | rfl
    · exact ⟨0, by omega, atI_nat (j := 1) rfl⟩
    · exact ⟨1 + r2, by omega, atI_nat (j := 2) rfl⟩
  · rw [if_neg h]
    exact ⟨r1, by omega, atI_nat (j := 0) rfl⟩
section
variable {P : Program} {w : World} {K : PySem.W.Frag} {mg : PySem.Str → Option Value} {base : Heap} {f fN : Addr} {fd fdN : FuncData}
theorem ok_lfacts (F : FnP K "_law_facts" sLFacts f fd) (GLNext : FnOk P w K mg base CX0 2 fN fdN ["draw", "many"] spNext) (bLNext : Binds K fdN ["draw", "many"] []) (kLNext : PySem.W.keepIn K (.ref fN) = true) (gLNext : mg "_law_next" = some (.ref fN))
    (m_range : mg "range" = none) (m_max : mg "max" = none) (m_int : mg "int" = none) : FnOk P w K mg base CX0 3 f fd ["draw", "wide"] spLFacts := by
  refine F.ok (k := 2) scLFacts (fun vs H Q E h => ?_) (fun cdv A outer s H vs Q E hr h => ?_)
  · obtain ⟨d, c, ns, n, v, rfl, _⟩ := h
    rfl
  · obtain ⟨d, c, ns, n, v, rfl, D, hn, w1, w2, q⟩ := h
    refine ⟨_, PSs.nox (pss_cons (ps_par3 (i := 2) (j := 3) (l := 4) (by rfl) scLFacts.nd rfl rfl rfl (by decide) (by decide) (by decide) rfl rfl rfl (pa_cons (pe_call GLNext hr (by rfl) gLNext kLNext bLNext .nil pass0 (pa_cons (pv 0) (pa_cons pe_int pa_nil))) (pa_cons pe_int (pa_cons pe_int pa_nil))) (by rfl))
      (pss_cons (ps_for PassesOwn.never rfl (pi_range1 rfl m_range (pa_cons (pv 1) pa_nil)) (pg_name (i := 5) scLFacts.nd rfl (Or.inl rfl))
        (pss_cons (ps_set (i := 6) scLFacts.nd rfl (Or.inl rfl) (pe_ix ix_list (pe_lst (pa_cons (pe_call GLNext hr (by rfl) gLNext kLNext bLNext .nil pass0 (pa_cons (pv 0) (pa_cons pe_int pa_nil))) (pa_cons pe_int (pa_cons (pe_op n_add pe_int (pe_call GLNext hr (by rfl) gLNext kLNext bLNext .nil pass0 (pa_cons (pv 0) (pa_cons pe_int pa_nil)))) pa_nil)))) (pe_callB (call_max2 rfl) (by rfl) m_max (by decide +kernel) (pa_cons pe_int (pa_cons (pe_op op_sub (pv 2) pe_int) pa_nil))) (fun _ _ => rfl)))
        (pss_cons (ps_set (i := 3) scLFacts.nd rfl (Or.inl rfl) (pe_op n_add (pv 3) (pe_op n_shl (pe_callTy call_int1 (by rfl) m_int (by decide +kernel) (pa_cons (pe_cmpR n_eq (pv 6) pe_int (nomark _)) pa_nil)) (pv 5))))
        (pss_one (ps_set (i := 4) scLFacts.nd rfl (Or.inl rfl) (pe_op n_add (pv 4) (pe_op n_shl (pe_callTy call_int1 (by rfl) m_int (by decide +kernel) (pa_cons (pe_cmpR n_eq (pv 6) pe_int (nomark _)) pa_nil)) (pv 5))))))))
      (pss_one (ps_ret (pe_tup (pa_cons (pv 3) (pa_cons (pv 4) pa_nil))))))), ?_⟩
    refine ⟨.ref d, rfl, d, c, ns, n, 8, rfl, D, by omega, by omega, by omega, fun way H1 a0 a1 k1 D1 => ?_⟩
    obtain ⟨way, rfl⟩ := Int.eq_ofNat_of_zero_le a0
    refine ⟨_, _, _, rfl, .int v, rfl, v, rfl, by omega, by omega, ?_⟩
    refine for_range (lo := 0) (n := v) (fun i σ H' => ∃ (z o : Nat) (y5 y6 : Option V), σ = [some (.ref d), some (.int (v : Int)), some (.int (way : Int)), some (.int (z : Int)), some (.int (o : Int)), y5, y6] ∧ z < 2 ^ i ∧ o < 2 ^ i ∧ z &&& o = 0 ∧ Kept (At d) H H' ∧ Dr H' d c ns (n + 1 + 2 * i)) ⟨0, 0, none, none, rfl, by decide, by decide, rfl, k1, D1⟩ (fun i σ H2 hi h => ?_) (fun σ H2 h => ?_)
    · obtain ⟨z, o, y5, y6, rfl, hz, ho, hzo, k2, D2⟩ := h
      refine ⟨.ref d, rfl, d, c, ns, n + 1 + 2 * i, 3, rfl, D2, by omega, by omega, by omega, fun r1 H3 b0 b1 k3 D3 => ?_⟩
      obtain ⟨r1, rfl⟩ := Int.eq_ofNat_of_zero_le b0
      refine ⟨.ref d, rfl, d, c, ns, n + 1 + 2 * i + 1, 2, rfl, D3, by omega, by omega, by omega, fun r2 H4 c0 c1 k4 D4 => ?_⟩
      obtain ⟨r2, rfl⟩ := Int.eq_ofNat_of_zero_le c0
      obtain ⟨kd, hkd, hat⟩ := kinds (r1 := r1) (r2 := r2) (w := way) (by omega) (by omega) (by omega)
      refine ⟨1, r2, rfl, rfl, by show 3 ≤ sizeLine; decide, fun l nl => ?_⟩
      have k5 := (k2.trans (k3.trans k4)).nu D4 nl (o := .lst [.int (r1 : Int), .int 0, .int ((1 + r2 : Nat) : Int)])
      have D5 := D4.new nl (o := .lst [.int (r1 : Int), .int 0, .int ((1 + r2 : Nat) : Int)])
      refine ⟨.int way, rfl, (way : Int), 5, rfl, rfl, 0, (way : Int) - 5, rfl, l, _, _, .int (kd : Int), rfl, rfl, SqL.of upd_same, hat, ?_⟩
      generalize upd H4 l (.lst [.int (r1 : Int), .int 0, .int ((1 + r2 : Nat) : Int)]) = H5 at k5 D5 ⊢
      have D6 := D5.more (show n + 1 + 2 * i + 1 + 1 ≤ n + 1 + 2 * (i + 1) by omega)
      obtain ⟨u1, u2, u3, u4⟩ := and_up hz ho hzo
      have hp : 2 ^ i ≤ 2 ^ (i + 1) := Nat.pow_le_pow_right (by decide) (by omega)
      have si : (0 : Int) + (i : Int) = (i : Int) := Int.zero_add _
      rcases (show kd = 0 ∨ kd = 1 ∨ kd = 2 by omega) with rfl | rfl | rfl
      · refine ⟨.int z, rfl, .int 0, rfl, 0, 1, rfl, rfl, .inr ⟨false, rfl, .int (0 + i), rfl, 0, i, rfl, by rw [si], ⟨by omega, by omega⟩, z, 0 * 2 ^ i, rfl, rfl, ?_⟩⟩
        refine ⟨.int o, rfl, .int 0, rfl, 0, 2, rfl, rfl, .inr ⟨false, rfl, .int (0 + i), rfl, 0, i, rfl, by rw [si], ⟨by omega, by omega⟩, o, 0 * 2 ^ i, rfl, rfl, ?_⟩⟩
        exact ⟨z + 0 * 2 ^ i, o + 0 * 2 ^ i, _, _, rfl, by omega, by omega, by rw [Nat.zero_mul]; exact hzo, k5, D6⟩
      · refine ⟨.int z, rfl, .int 1, rfl, 1, 1, rfl, rfl, .inr ⟨true, rfl, .int (0 + i), rfl, 1, i, rfl, by rw [si], ⟨by omega, by omega⟩, z, 1 * 2 ^ i, rfl, rfl, ?_⟩⟩
        refine ⟨.int o, rfl, .int 1, rfl, 1, 2, rfl, rfl, .inr ⟨false, rfl, .int (0 + i), rfl, 0, i, rfl, by rw [si], ⟨by omega, by omega⟩, o, 0 * 2 ^ i, rfl, rfl, ?_⟩⟩
        exact ⟨z + 1 * 2 ^ i, o + 0 * 2 ^ i, _, _, rfl, u3, by omega, by rw [Nat.zero_mul]; exact u1, k5, D6⟩
      · refine ⟨.int z, rfl, .int 2, rfl, 2, 1, rfl, rfl, .inr ⟨false, rfl, .int (0 + i), rfl, 0, i, rfl, by rw [si], ⟨by omega, by omega⟩, z, 0 * 2 ^ i, rfl, rfl, ?_⟩⟩
        refine ⟨.int o, rfl, .int 2, rfl, 2, 2, rfl, rfl, .inr ⟨true, rfl, .int (0 + i), rfl, 1, i, rfl, by rw [si], ⟨by omega, by omega⟩, o, 1 * 2 ^ i, rfl, rfl, ?_⟩⟩
        exact ⟨z + 0 * 2 ^ i, o + 1 * 2 ^ i, _, _, rfl, by omega, u4, by rw [Nat.zero_mul]; exact u2, k5, D6⟩
    · obtain ⟨z, o, y5, y6, rfl, hz, ho, hzo, k2, D2⟩ := h
      refine ⟨.int z, rfl, .int o, rfl, by show 2 ≤ sizeLine; decide, fun t ht => ?_⟩
      exact q t (z, o) _ ⟨hz, ho, hzo⟩ (At.free k2 D2 ht) (k2.nu D2 ht) ((D2.new ht).more (by omega)) upd_same
end
end K11

set_option Elab.async false
set_option linter.all false
set_option maxRecDepth 100000
set_option maxHeartbeats 4000000
namespace K11
open PySem PySem.Spec PyProof.Rows L2
/-! ### what an expression comes to -/
def sel (p : Nat → Bool) (n : Nat) : List Nat := ((List.range n).filter p).map fun k => 2 ^ k
theorem sel_succ (p : Nat → Bool) (n : Nat) : sel p (n + 1) = if p n = true then sel p n ++ [2 ^ n] else sel p n := by
  unfold sel
  rw [List.range_succ, List.filter_append]
  by_cases h : p n = true
  · rw [if_pos h]; simp [h]
  · rw [if_neg h]; simp [h]
theorem sel_len (p : Nat → Bool) (n : Nat) : (sel p n).length ≤ n := by
  unfold sel
  rw [List.length_map]
  exact Nat.le_trans (List.length_filter_le _ _) (by rw [List.length_range]; exact Nat.le_refl _)
theorem sel_sum (p : Nat → Bool) : ∀ (n x : Nat), x < 2 ^ n → (∀ i, i < n → B x i = p i) → (sel p n).sum = x
  | 0, x, h, _ => by
    have : x = 0 := by omega
    subst this; rfl
  | n + 1, x, h, hp => by
    have h2 : x < 2 * 2 ^ n := by rw [← Nat.pow_succ']; exact h
    have ih := sel_sum p n (x % 2 ^ n) (Nat.mod_lt _ (Nat.two_pow_pos n)) fun i hi => by
      rw [← hp i (by omega)]
      show (x % 2 ^ n).testBit i = _
      rw [Nat.testBit_mod_two_pow, decide_eq_true hi, Bool.true_and]
    have dm := Nat.div_add_mod x (2 ^ n)
    have d2 : x / 2 ^ n < 2 := Nat.div_lt_of_lt_mul (by rw [Nat.mul_comm]; exact h2)
    have hb := hp n (by omega)
    have hb' : x.testBit n = decide (x / 2 ^ n % 2 = 1) := Nat.testBit_eq_decide_div_mod_eq
    rw [sel_succ]
    by_cases q : p n = true
    · rw [if_pos q, List.sum_append, ih]
      rw [show x.testBit n = true from by rw [← q]; exact hb] at hb'
      have e1 := of_decide_eq_true hb'.symm
      have e2 : x / 2 ^ n = 1 := (Nat.mod_eq_of_lt d2).symm.trans e1
      rw [e2, Nat.mul_one] at dm
      simp only [List.sum_cons, List.sum_nil]
      omega
    · rw [if_neg q, ih]
      rw [show x.testBit n = false from by rw [show x.testBit n = p n from hb]; exact Bool.eq_false_iff.mpr q] at hb'
      have e1 := of_decide_eq_false hb'.symm
      have e2 : x / 2 ^ n = 0 := by
        have e3 : x / 2 ^ n ≠ 1 := fun z => e1 (by rw [z])
        generalize x / 2 ^ n = u at d2 e3 ⊢
        omega
      rw [e2, Nat.mul_zero] at dm
      omega
theorem nums_int (l : List Nat) : nums l = (l.map fun n : Nat => (n : Int)).map V.int := by
  unfold nums
  rw [List.map_map]; rfl
theorem sum_cast : ∀ l : List Nat, (l.map fun n : Nat => (n : Int)).sum = ((l.sum : Nat) : Int)
  | [] => rfl
  | x :: l => by rw [List.map_cons, List.sum_cons, List.sum_cons, sum_cast l]; omega
def bt (x i : Nat) : Nat := (x >>> i) &&& 1
theorem bt_b (x i : Nat) : bt x i = if B x i = true then 1 else 0 := by
  unfold bt B
  rw [Nat.and_one_is_mod, Nat.shiftRight_eq_div_pow]
  have := Nat.testBit_eq_decide_div_mod_eq (x := x) (i := i)
  rw [this]
  by_cases h : x / 2 ^ i % 2 = 1
  · rw [decide_eq_true h, if_pos rfl, h]
  · rw [decide_eq_false h, if_neg (by decide)]; omega
/-- the pairs of bits -/
structure Bits (H : Hp) (L : Addr) (v a b : Nat) : Prop where
  ex : ∃ ts : List Addr, ts.length = v ∧ H L = some (.lst (ts.map V.ref)) ∧ ∀ i t, ts[i]? = some t → H t = some (.tup (two (bt a i) (bt b i)))
theorem Bits.kept {H H' : Hp} {L : Addr} {v a b : Nat} (h : Bits H L v a b) (k : Kept None H H') : Bits H' L v a b := by
  obtain ⟨ts, e1, e2, e3⟩ := h.ex
  exact ⟨ts, e1, k.lst e2 (fun z => z), fun i t q => k.tup (e3 i t q) (fun z => z)⟩
theorem Bits.put {H : Hp} {L q : Addr} {v a b : Nat} {kvs : List (Key × V)} {o : HO} (h : Bits H L v a b) (e : H q = some (.dK kvs)) : Bits (upd H q o) L v a b := by
  obtain ⟨ts, e1, e2, e3⟩ := h.ex
  exact ⟨ts, e1, by rw [upd_ne (ne_of e2 e (by intro z; cases z))]; exact e2, fun i t z => by rw [upd_ne (ne_of (e3 i t z) e (by intro z; cases z))]; exact e3 i t z⟩
theorem sum_lc {K : PySem.W.Frag} {v a b : Nat} {L : Addr} {H1 : Hp} {tt : TT} {x0 x1 x2 x3 x4 x5 x6 x7 x8 : Option V} {Qd : Hp → Prop} {D : Addr} {p : Nat → Bool} (hD : H1 D = none) (hv : v ≤ 100) (hL : Bits H1 L v a b)
    (htt : ∀ (i : Nat) (T : Addr) (H' : Hp) (R : Bool → Hp → Prop), i < v → H' T = some (.tup (two (bt a i) (bt b i))) → (∀ H2, Kept None H' H2 → R (p i) H2) → tt [x0, x1, x2, x3, x4, x5, x6, x7, x8, some (.int (i : Int)), some (.ref T)] H' R)
    (q : ∀ H', Kept None H1 H' → H' D = some (.lst (nums (sel p v))) → Qd H') :
    ∃ W : Nat → Nat → Hp → Prop, (∃ m, W 0 m (upd H1 D (.lst []))) ∧ ∀ i m H, W i m H →
      ((Ite K L).stop i H ∧ Qd H) ∨ ((Ite K L).go i H ∧ ∃ Nx : Hp → Prop, (∀ H', Nx H' → ∃ m', m' < m ∧ W (i + 1) m' H') ∧ ∀ x H', (Ite K L).yld i H x H' → gTup K 2 (gCons (gName 9) (gCons (gName 10) gNil)) x (wipe [x0, x1, x2, x3, x4, x5, x6, x7, x8, none, none] [9, 10]) H' fun σ2 H2 => wipe σ2 [9, 10] = wipe [x0, x1, x2, x3, x4, x5, x6, x7, x8, none, none] [9, 10] ∧ tt σ2 H2 fun b H3 =>
        if b = true then tOp rBit (tC (.int 1)) (tVar 9) σ2 H3 fun y H4 => ∃ acc, H4 D = some (.lst acc) ∧ acc.length < sizeLine ∧ Nx (upd H4 D (.lst (acc ++ [y]))) else Nx H3) := by
  obtain ⟨ts, e1, e2, e3⟩ := hL.ex
  refine lc_it (walk_enum (K := K) (a := L) (xs := ts.map V.ref)) (fun i H' => Kept None H1 H' ∧ H' D = some (.lst (nums (sel p i)))) ⟨Kept.refl.new hD, upd_same⟩ (fun i H' _ h => SqL.of (h.1.lst e2 (fun z => z))) (fun i x H' H2 hi h y => ?_) (fun H' h => ?_)
  · obtain ⟨k1, eD⟩ := h
    obtain ⟨T, a', x', rfl, hT, rfl, ea, ex⟩ := y
    cases ea
    rw [List.length_map] at hi
    have ex : (ts.map V.ref)[i]? = some x' := ex
    rw [List.getElem?_map, List.getElem?_eq_getElem hi] at ex
    cases ex
    have et := e3 i _ (List.getElem?_eq_getElem hi)
    have k2 : Kept None H1 (upd H' T (.tup [.int (i : Int), .ref ts[i]])) := k1.new (k1.free hT)
    have eD2 : upd H' T (.tup [.int (i : Int), .ref ts[i]]) D = some (.lst (nums (sel p i))) := by rw [upd_ne (ne_of_none eD hT)]; exact eD
    refine ⟨T, _, rfl, SqT.of upd_same, rfl, .int (i : Int), [.ref ts[i]], rfl, .ref ts[i], [], rfl, rfl, ?_⟩
    generalize upd H' T (.tup [.int (i : Int), .ref ts[i]]) = H3 at k2 eD2 ⊢
    refine ⟨rfl, htt i ts[i] H3 _ (by omega) (k2.tup et (fun z => z)) (fun H4 k4 => ?_)⟩
    have eD4 := k4.lst eD2 (fun z => z)
    have k5 := k2.trans k4
    cases hp : p i with
    | true =>
      refine iteT ⟨.int (i : Int), rfl, i, rfl, rfl, by omega, nums (sel p i), eD4, ?_, k5.new hD, ?_⟩
      · have := sel_len p i
        unfold nums
        rw [List.length_map, sizeLine_eq]; omega
      · rw [upd_same, sel_succ, if_pos hp]
        unfold nums
        rw [List.map_append]; rfl
    | false =>
      refine iteF ⟨k5, ?_⟩
      rw [sel_succ, if_neg (by rw [hp]; exact Bool.false_ne_true)]
      exact eD4
  · obtain ⟨k1, eD⟩ := h
    rw [List.length_map, e1] at eD
    exact q H' k1 eD
end K11

set_option Elab.async false
set_option linter.all false
set_option maxRecDepth 100000
set_option maxHeartbeats 4000000
namespace K11
open PySem PySem.Spec PyProof.Rows L2
abbrev sLComes : Stmt := top 34
theorem scLComes : FnScope ["wide", "expr", "words", "word", "top", "one", "other", "some", "bits", "k", "pair"] ["wide", "expr", "words"] (defScope sLComes) := ⟨rfl, rfl, rfl, by decide +kernel, rfl, by decide +kernel, by decide +kernel⟩
def spLComes (K : PySem.W.Frag) : Sp := fun vs H Q _ => ∃ (v : Nat) (p l : Addr) (e : Ex) (ws : List Nat), vs = [.int (v : Int), .ref p, .ref l] ∧ v ≤ 12 ∧ SqT K H p e.vs ∧ SqL K H l (nums ws) ∧ ws.length = e.names.length ∧ e.ok v ∧ (∀ x ∈ ws, x < 2 ^ v) ∧
  ∀ H', Kept None H H' → Q (.int (comesF v e ws : Nat)) H'
def rSumE (K : PySem.W.Frag) : List V → Hp → VK → Prop := fun vs H Q => ∃ (a : Addr) (ns : List Nat) (k : Nat), vs = [V.ref a] ∧ H a = some (.lst (nums ns)) ∧ ns.sum = k ∧ Q (.int (k : Int)) H
theorem cr_sumE {X : Cx} (hc : X.calm = true) : CallR X (.builtin "sum") (rSumE X.K) := by
  intro pins s σ H xs us Q I r h
  obtain ⟨a, ns, k, rfl, e, rfl, q⟩ := h
  refine cr_sum hc pins s σ H _ us Q I r ⟨a, ns.map fun n : Nat => (n : Int), rfl, SqL.of (by rw [← nums_int]; exact e), ?_⟩
  rw [sum_cast]
  exact q
theorem ne_name (o : Op) : o.name ≠ "number" ∧ o.name ≠ "up" ∧ o.name ≠ "down" ∧ o.name ≠ "pick" ∧ o.name ≠ "copy" := by cases o <;> decide
theorem noS {x y : PySem.Str} (h : x ≠ y) : ¬ decide (V.str x = V.str y) = true := fun z => h (V.str.inj (of_decide_eq_true z))
def comesD (w a b : Nat) : List (Key × V) := [(Sum.inr "add", .int (((a + b) % 2 ^ w : Nat) : Int)), (Sum.inr "less", .int (((a + 2 ^ w - b) % 2 ^ w : Nat) : Int)), (Sum.inr "same", .int (if decide (a = b) = true then 1 else 0))]
def comesE (w a b : Nat) : List (Key × V) := putK (putK (putK (mergeK [] (comesD w a b)) (Sum.inr "and") (.int ((a &&& b : Nat) : Int))) (Sum.inr "or") (.int ((a ||| b : Nat) : Int))) (Sum.inr "unlike") (.int ((a ^^^ b : Nat) : Int))
theorem comes_get (w a b : Nat) (o : Op) : (valV (comesE w a b) (Sum.inr o.name : Key)).getD (.int (if decide (a < b) = true then 1 else 0)) = .int ((opF w o a b : Nat) : Int) := by
  have hm : mergeK [] (comesD w a b) = putK (putK (putK [] (Sum.inr "add" : Key) (V.int (((a + b) % 2 ^ w : Nat) : Int))) (Sum.inr "less") (.int (((a + 2 ^ w - b) % 2 ^ w : Nat) : Int))) (Sum.inr "same") (.int (if decide (a = b) = true then 1 else 0)) := rfl
  unfold comesE
  rw [hm, valV_put, valV_put, valV_put, valV_put, valV_put, valV_put, valV_nil]
  cases o with
  | add => rfl
  | less => rfl
  | and => rfl
  | or => rfl
  | unlike => rfl
  | same =>
    show V.int (if decide (a = b) = true then 1 else 0) = .int (((if a = b then 1 else 0 : Nat)) : Int)
    by_cases h : a = b
    · rw [decide_eq_true h, if_pos h]; rfl
    · rw [decide_eq_false h, if_neg h]; rfl
  | below =>
    show V.int (if decide (a < b) = true then 1 else 0) = .int (((if a < b then 1 else 0 : Nat)) : Int)
    by_cases h : a < b
    · rw [decide_eq_true h, if_pos h]; rfl
    · rw [decide_eq_false h, if_neg h]; rfl
theorem comes_len (w a b : Nat) : (mergeK [] (comesD w a b)).length < 100 ∧ (putK (mergeK [] (comesD w a b)) (Sum.inr "and") (.int ((a &&& b : Nat) : Int))).length < 100 ∧ (putK (putK (mergeK [] (comesD w a b)) (Sum.inr "and") (.int ((a &&& b : Nat) : Int))) (Sum.inr "or") (.int ((a ||| b : Nat) : Int))).length < 100 := by
  exact ⟨show (3 : Nat) < 100 by decide, show (4 : Nat) < 100 by decide, show (5 : Nat) < 100 by decide⟩
section
variable {P : Program} {w : World} {K : PySem.W.Frag} {mg : PySem.Str → Option Value} {base : Heap} {f : Addr} {fd : FuncData}
theorem ok_lcomes (F : FnP K "_law_comes" sLComes f fd) (m_range : mg "range" = none) (m_int : mg "int" = none) (m_sum : mg "sum" = none) (m_enumerate : mg "enumerate" = none) : FnOk P w K mg base CX0 1 f fd ["wide", "expr", "words"] (spLComes K) := by
  refine F.ok (k := 0) scLComes (fun vs H Q E h => ?_) (fun cdv A outer s H vs Q E hr h => ?_)
  · obtain ⟨v, p, l, e, ws, rfl, _⟩ := h
    rfl
  · obtain ⟨v, p, l, e, ws, rfl, w2, h1, hl, hw, he, hx, q⟩ := h
    have hu := hu_of hr
    refine ⟨_, PSs.nox (pss_cons (ps_par (i := 3) (j := 4) (by rfl) scLComes.nd rfl rfl (by decide) rfl rfl (pa_cons (pe_ix ix_tup (pv 1) pe_int (fun _ _ => rfl)) (pa_cons (pe_op n_bit pe_int (pv 0)) pa_nil)) (by rfl))
    (pss_cons (ps_if (pt_cmpR op_eq (pv 3) pe_str (nomark _))
      (pss_one (ps_ret (pe_ix ix_tup (pv 1) pe_int (fun _ _ => rfl))))
      pss_nil)
    (pss_cons (ps_if (pt_cmpR op_eq (pv 3) pe_str (nomark _))
      (pss_one (ps_ret (pe_op n_mod (pe_op n_shl (pe_ix ix_list (pv 2) pe_int (fun _ _ => rfl)) (pe_ix ix_tup (pv 1) pe_int (fun _ _ => rfl))) (pv 4))))
      pss_nil)
    (pss_cons (ps_if (pt_cmpR op_eq (pv 3) pe_str (nomark _))
      (pss_one (ps_ret (pe_op n_shr (pe_ix ix_list (pv 2) pe_int (fun _ _ => rfl)) (pe_ix ix_tup (pv 1) pe_int (fun _ _ => rfl)))))
      pss_nil)
    (pss_cons (ps_if (pt_cmpR op_eq (pv 3) pe_str (nomark _))
      (pss_one (ps_ret (pe_ifExp (pt_cmpR n_gt (pe_ix ix_list (pv 2) pe_int (fun _ _ => rfl)) pe_int (nomark _)) (pe_ix ix_list (pv 2) pe_int (fun _ _ => rfl)) (pe_ix ix_list (pv 2) pe_int (fun _ _ => rfl)))))
      pss_nil)
    (pss_cons (ps_if (pt_cmpR op_eq (pv 3) pe_str (nomark _))
      (pss_one (ps_ret (pe_ix ix_list (pv 2) pe_int (fun _ _ => rfl))))
      pss_nil)
    (pss_cons (ps_asg (pv 2) (pg_unl rfl (pgs_cons (pg_name (i := 5) scLComes.nd rfl (Or.inr rfl)) (pgs_cons (pg_name (i := 6) scLComes.nd rfl (Or.inr rfl)) pgs_nil))))
    (pss_cons (ps_set (i := 7) scLComes.nd rfl (Or.inl rfl) (pe_disp (pps_cons pe_str (pe_op n_mod (pe_op n_add (pv 5) (pv 6)) (pv 4)) (pps_cons pe_str (pe_op n_mod (pe_op op_addE (pe_op op_sub (pv 5) (pv 6)) (pv 4)) (pv 4)) (pps_cons pe_str (pe_callTy call_int1 (by rfl) m_int (by decide +kernel) (pa_cons (pe_cmpR n_eq (pv 5) (pv 6) (nomark _)) pa_nil)) pps_nil))) (by rfl) (by rfl) (fun z => by cases z) (by decide)))
    (pss_cons (ps_setLc (i := 8) (own := [("k", 9)]) (g := gName 9) (tt := tYes) (te := tTup (tCons (tOp rAndN (tOp rShrN (tVar 5) (tVar 9)) (tC (.int 1))) (tCons (tOp rAndN (tOp rShrN (tVar 6) (tVar 9)) (tC (.int 1))) tNil))) rfl scLComes.nd rfl rfl (sw_true rfl rfl rfl (by decide +kernel)) (pi_range1 rfl m_range (pa_cons (pv 0) pa_nil)) (blkOk_by (own := [("k", 9)]) (N := ["wide", "expr", "words", "word", "top", "one", "other", "some", "bits", "k", "pair"]) (sc := defScope sLComes) (by decide +kernel)) (by exact (fun _ _ _ _ _ => (pg_name (i := 9) scLComes.nd rfl (Or.inl rfl)))) (by exact (fun _ _ _ _ _ => pts_nil)) (by exact (fun _ _ _ _ _ => (pe_tup (pa_cons (pe_op n_and (pe_op n_shr (pv 5) (pv 9)) pe_int) (pa_cons (pe_op n_and (pe_op n_shr (pv 6) (pv 9)) pe_int) pa_nil))))))
    (pss_cons (ps_dput hu (pv 7) pe_str (pe_callB (cr_sumE rfl) (by rfl) m_sum (by decide +kernel) (pa_cons (pe_lc (own := [("k", 9), ("pair", 10)]) (g := gTup K 2 (gCons (gName 9) (gCons (gName 10) gNil))) (tt := tTest (tOp (rEqD K) (tVar 10) (tTup (tCons (tC (.int 1)) (tCons (tC (.int 1)) tNil))))) (te := tOp rBit (tC (.int 1)) (tVar 9)) rfl scLComes.nd (pi_enum (by rfl) m_enumerate (pa_cons (pv 8) pa_nil)) (blkOk_by (own := [("k", 9), ("pair", 10)]) (N := ["wide", "expr", "words", "word", "top", "one", "other", "some", "bits", "k", "pair"]) (sc := defScope sLComes) (by decide +kernel)) (by exact (fun _ _ _ _ _ => (pg_tup rfl (pgs_cons (pg_name (i := 9) scLComes.nd rfl (Or.inl rfl)) (pgs_cons (pg_name (i := 10) scLComes.nd rfl (Or.inl rfl)) pgs_nil))))) (by exact (fun _ _ _ _ _ => (pts_one (pt_cmpR (op_eqD hr.units) (pv 10) (pe_tup (pa_cons pe_int (pa_cons pe_int pa_nil))) (nomark _))))) (by exact (fun _ _ _ _ _ => (pe_op n_bit pe_int (pv 9))))) pa_nil)) rfl)
    (pss_cons (ps_dput hu (pv 7) pe_str (pe_callB (cr_sumE rfl) (by rfl) m_sum (by decide +kernel) (pa_cons (pe_lc (own := [("k", 9), ("pair", 10)]) (g := gTup K 2 (gCons (gName 9) (gCons (gName 10) gNil))) (tt := tTest (tOp (rNeD K) (tVar 10) (tTup (tCons (tC (.int 0)) (tCons (tC (.int 0)) tNil))))) (te := tOp rBit (tC (.int 1)) (tVar 9)) rfl scLComes.nd (pi_enum (by rfl) m_enumerate (pa_cons (pv 8) pa_nil)) (blkOk_by (own := [("k", 9), ("pair", 10)]) (N := ["wide", "expr", "words", "word", "top", "one", "other", "some", "bits", "k", "pair"]) (sc := defScope sLComes) (by decide +kernel)) (by exact (fun _ _ _ _ _ => (pg_tup rfl (pgs_cons (pg_name (i := 9) scLComes.nd rfl (Or.inl rfl)) (pgs_cons (pg_name (i := 10) scLComes.nd rfl (Or.inl rfl)) pgs_nil))))) (by exact (fun _ _ _ _ _ => (pts_one (pt_cmpR (op_neD hr.units) (pv 10) (pe_tup (pa_cons pe_int (pa_cons pe_int pa_nil))) (nomark _))))) (by exact (fun _ _ _ _ _ => (pe_op n_bit pe_int (pv 9))))) pa_nil)) rfl)
    (pss_cons (ps_dput hu (pv 7) pe_str (pe_callB (cr_sumE rfl) (by rfl) m_sum (by decide +kernel) (pa_cons (pe_lc (own := [("k", 9), ("pair", 10)]) (g := gTup K 2 (gCons (gName 9) (gCons (gName 10) gNil))) (tt := tTest (tOp rNeN (tOp (rIxT K) (tVar 10) (tC (.int 0))) (tOp (rIxT K) (tVar 10) (tC (.int 1))))) (te := tOp rBit (tC (.int 1)) (tVar 9)) rfl scLComes.nd (pi_enum (by rfl) m_enumerate (pa_cons (pv 8) pa_nil)) (blkOk_by (own := [("k", 9), ("pair", 10)]) (N := ["wide", "expr", "words", "word", "top", "one", "other", "some", "bits", "k", "pair"]) (sc := defScope sLComes) (by decide +kernel)) (by exact (fun _ _ _ _ _ => (pg_tup rfl (pgs_cons (pg_name (i := 9) scLComes.nd rfl (Or.inl rfl)) (pgs_cons (pg_name (i := 10) scLComes.nd rfl (Or.inl rfl)) pgs_nil))))) (by exact (fun _ _ _ _ _ => (pts_one (pt_cmpR n_ne (pe_ix (r := rIxT K) ix_tup (pv 10) pe_int (fun _ _ => rfl)) (pe_ix (r := rIxT K) ix_tup (pv 10) pe_int (fun _ _ => rfl)) (nomark _))))) (by exact (fun _ _ _ _ _ => (pe_op n_bit pe_int (pv 9))))) pa_nil)) rfl)
    (pss_one (ps_ret (pe_dget2 hu (pv 7) (pv 3) (pe_callTy call_int1 (by rfl) m_int (by decide +kernel) (pa_cons (pe_cmpR n_lt (pv 5) (pv 6) (nomark _)) pa_nil)) ⟨rfl, rfl, rfl, rfl⟩))))))))))))))), ?_⟩
    have tl : 2 ^ v ≤ 4096 := pow_bound w2
    have tp := Nat.two_pow_pos v
    refine ⟨.ref p, rfl, p, e.vs, 0, .str e.word, rfl, rfl, h1, atI_nat (j := 0) rfl, .int v, rfl, v, rfl, rfl, by omega, _, _, rfl, ?_⟩
    cases e with
    | num n =>
      refine ⟨_, rfl, rfl, _, rfl, ite2 (fun _ => ?_) (fun z => absurd (decide_eq_true rfl) z)⟩
      exact ⟨.ref p, rfl, p, _, 1, .int (n : Int), rfl, rfl, h1, atI_nat (j := 1) rfl, q H Kept.refl⟩
    | up y k =>
      obtain ⟨a, rfl⟩ : ∃ a, ws = [a] := by
        match ws, hw with
        | [a], _ => exact ⟨_, rfl⟩
      have ha : a < 2 ^ v := hx a (by simp)
      have hk : k ≤ 11 := he
      refine ⟨_, rfl, rfl, _, rfl, ite2 (fun z => absurd z (noS (show ("up" : PySem.Str) ≠ "number" by decide))) (fun _ => ?_)⟩
      refine ⟨_, rfl, rfl, _, rfl, ite2 (fun _ => ?_) (fun z => absurd (decide_eq_true rfl) z)⟩
      refine ⟨.ref l, rfl, l, _, 0, .int (a : Int), rfl, rfl, hl, atI_nat (j := 0) rfl, .ref p, rfl, p, _, 2, .int (k : Int), rfl, rfl, h1, atI_nat (j := 2) rfl, a, k, rfl, rfl, ⟨by omega, by omega⟩, .int _, rfl, _, _, rfl, rfl, tp, ?_⟩
      exact q H Kept.refl
    | down y k =>
      obtain ⟨a, rfl⟩ : ∃ a, ws = [a] := by
        match ws, hw with
        | [a], _ => exact ⟨_, rfl⟩
      refine ⟨_, rfl, rfl, _, rfl, ite2 (fun z => absurd z (noS (show ("down" : PySem.Str) ≠ "number" by decide))) (fun _ => ?_)⟩
      refine ⟨_, rfl, rfl, _, rfl, ite2 (fun z => absurd z (noS (show ("down" : PySem.Str) ≠ "up" by decide))) (fun _ => ?_)⟩
      refine ⟨_, rfl, rfl, _, rfl, ite2 (fun _ => ?_) (fun z => absurd (decide_eq_true rfl) z)⟩
      refine ⟨.ref l, rfl, l, _, 0, .int (a : Int), rfl, rfl, hl, atI_nat (j := 0) rfl, .ref p, rfl, p, _, 2, .int (k : Int), rfl, rfl, h1, atI_nat (j := 2) rfl, a, k, rfl, rfl, ?_⟩
      exact q H Kept.refl
    | pick c y z =>
      obtain ⟨a, b, d, rfl⟩ : ∃ a b d, ws = [a, b, d] := by
        match ws, hw with
        | [a, b, d], _ => exact ⟨_, _, _, rfl⟩
      refine ⟨_, rfl, rfl, _, rfl, ite2 (fun z => absurd z (noS (show ("pick" : PySem.Str) ≠ "number" by decide))) (fun _ => ?_)⟩
      refine ⟨_, rfl, rfl, _, rfl, ite2 (fun z => absurd z (noS (show ("pick" : PySem.Str) ≠ "up" by decide))) (fun _ => ?_)⟩
      refine ⟨_, rfl, rfl, _, rfl, ite2 (fun z => absurd z (noS (show ("pick" : PySem.Str) ≠ "down" by decide))) (fun _ => ?_)⟩
      refine ⟨_, rfl, rfl, _, rfl, ite2 (fun _ => ?_) (fun z => absurd (decide_eq_true rfl) z)⟩
      refine ⟨.ref l, rfl, l, _, 0, .int (a : Int), rfl, rfl, hl, atI_nat (j := 0) rfl, a, 0, rfl, rfl, _, rfl, ?_⟩
      have qq : Q (.int ((if 0 < a then b else d : Nat) : Int)) H := q H Kept.refl
      refine ite2 (fun z => ?_) (fun z => ?_)
      · rw [if_pos (of_decide_eq_true z)] at qq
        exact ⟨.ref l, rfl, l, _, 1, .int (b : Int), rfl, rfl, hl, atI_nat (j := 1) rfl, qq⟩
      · rw [if_neg (fun y => z (decide_eq_true y))] at qq
        exact ⟨.ref l, rfl, l, _, 2, .int (d : Int), rfl, rfl, hl, atI_nat (j := 2) rfl, qq⟩
    | copy y =>
      obtain ⟨a, rfl⟩ : ∃ a, ws = [a] := by
        match ws, hw with
        | [a], _ => exact ⟨_, rfl⟩
      refine ⟨_, rfl, rfl, _, rfl, ite2 (fun z => absurd z (noS (show ("copy" : PySem.Str) ≠ "number" by decide))) (fun _ => ?_)⟩
      refine ⟨_, rfl, rfl, _, rfl, ite2 (fun z => absurd z (noS (show ("copy" : PySem.Str) ≠ "up" by decide))) (fun _ => ?_)⟩
      refine ⟨_, rfl, rfl, _, rfl, ite2 (fun z => absurd z (noS (show ("copy" : PySem.Str) ≠ "down" by decide))) (fun _ => ?_)⟩
      refine ⟨_, rfl, rfl, _, rfl, ite2 (fun z => absurd z (noS (show ("copy" : PySem.Str) ≠ "pick" by decide))) (fun _ => ?_)⟩
      refine ⟨_, rfl, rfl, _, rfl, ite2 (fun _ => ?_) (fun z => absurd (decide_eq_true rfl) z)⟩
      exact ⟨.ref l, rfl, l, _, 0, .int (a : Int), rfl, rfl, hl, atI_nat (j := 0) rfl, q H Kept.refl⟩
    | two o y z =>
      obtain ⟨a, b, rfl⟩ : ∃ a b, ws = [a, b] := by
        match ws, hw with
        | [a, b], _ => exact ⟨_, _, rfl⟩
      have ha : a < 2 ^ v := hx a (by simp)
      have hb : b < 2 ^ v := hx b (by simp)
      obtain ⟨n1, n2, n3, n4, n5⟩ := ne_name o
      refine ⟨_, rfl, rfl, _, rfl, ite2 (fun z => absurd z (noS n1)) (fun _ => ?_)⟩
      refine ⟨_, rfl, rfl, _, rfl, ite2 (fun z => absurd z (noS n2)) (fun _ => ?_)⟩
      refine ⟨_, rfl, rfl, _, rfl, ite2 (fun z => absurd z (noS n3)) (fun _ => ?_)⟩
      refine ⟨_, rfl, rfl, _, rfl, ite2 (fun z => absurd z (noS n4)) (fun _ => ?_)⟩
      refine ⟨_, rfl, rfl, _, rfl, ite2 (fun z => absurd z (noS n5)) (fun _ => ?_)⟩
      refine ⟨.ref l, rfl, l, _, rfl, hl, rfl, .int (a : Int), _, rfl, .int (b : Int), _, rfl, rfl, fun u hu0 => ?_⟩
      refine ⟨.int (a : Int), rfl, .int (b : Int), rfl, a, b, rfl, rfl, .int _, rfl, a + b, 2 ^ v, rfl, rfl, tp, ?_⟩
      refine ⟨.int (a : Int), rfl, .int (b : Int), rfl, a, b, rfl, rfl, .int _, rfl, (a : Int) - (b : Int), ((2 ^ v : Nat) : Int), ((a + 2 ^ v - b : Nat) : Int), rfl, rfl, by omega, .int _, rfl, a + 2 ^ v - b, 2 ^ v, rfl, rfl, tp, ?_⟩
      refine ⟨.int (a : Int), rfl, .int (b : Int), rfl, a, b, rfl, rfl, .inr ⟨_, rfl, upd_same, comesD v a b, rfl, (show 3 ≤ 15 by decide), ?_⟩⟩
      have k1 : Kept None H (upd (upd H u (.dK [])) u (.dK (mergeK [] (comesD v a b)))) := (Kept.refl.new hu0).new hu0
      have e1 : upd (upd H u (.dK [])) u (.dK (mergeK [] (comesD v a b))) u = some (.dK (mergeK [] (comesD v a b))) := upd_same
      generalize upd (upd H u (.dK [])) u (.dK (mergeK [] (comesD v a b))) = H1 at k1 e1 ⊢
      obtain ⟨l1, l2, l3⟩ := comes_len v a b
      have szl := sizeLine_eq
      refine ⟨.int v, rfl, v, rfl, by omega, by omega, fun L hL => ?_⟩
      refine lc_range (lo := 0) (n := v) (fun i H' => Kept None H1 H' ∧ ∃ ts : List Addr, ts.length = i ∧ H' L = some (.lst (ts.map V.ref)) ∧ ∀ j t, ts[j]? = some t → H' t = some (.tup (two (bt a j) (bt b j)))) ⟨Kept.refl.new hL, [], rfl, upd_same, fun j t z => by cases z⟩ (fun i H' hi h => ?_) (fun H' h => ?_)
      · obtain ⟨k2, ts, t1, t2, t3⟩ := h
        have si : (0 : Int) + (i : Int) = (i : Int) := Int.zero_add _
        refine ⟨rfl, .int (a : Int), rfl, .int (0 + i), rfl, a, i, rfl, by rw [si], a >>> i, 1, rfl, rfl, .int (b : Int), rfl, .int (0 + i), rfl, b, i, rfl, by rw [si], b >>> i, 1, rfl, rfl, (show 2 ≤ sizeLine by decide), fun t ht => ?_⟩
        have tL : L ≠ t := ne_of_none t2 ht
        refine ⟨ts.map V.ref, by rw [upd_ne tL]; exact t2, by rw [List.length_map]; omega, (k2.new (k2.free ht)).new hL, ts ++ [t], by rw [List.length_append, t1]; rfl, by rw [upd_same, List.map_append]; rfl, fun j t' z => ?_⟩
        by_cases hj : j < ts.length
        · rw [List.getElem?_append_left hj] at z
          have e3 := t3 j t' z
          rw [upd_ne (ne_of e3 t2 (by intro y; cases y)), upd_ne (ne_of_none e3 ht)]
          exact e3
        · have e3 : j = i ∧ t' = t := by
            rw [List.getElem?_append_right (by omega)] at z
            have : j - ts.length = 0 := by
              have := (List.getElem?_eq_some_iff.mp z).1
              simp at this; omega
            rw [this] at z
            cases z
            exact ⟨by omega, rfl⟩
          obtain ⟨rfl, rfl⟩ := e3
          rw [upd_ne (Ne.symm tL), upd_same]; rfl
      · obtain ⟨k2, hts⟩ := h
        have hB : Bits H' L v a b := ⟨hts⟩
        have eU := k2.dK e1 (fun z => z)
        have kA := k1.trans k2
        clear hts k2 e1 k1 hL
        have bA : a &&& b < 2 ^ v := and_lt ha
        obtain ⟨ts, _, t2, _⟩ := hB.ex
        refine ⟨.ref L, rfl, L, ts.map V.ref, rfl, SqL.of t2, fun D hD => sum_lc hD (p := fun i => B a i && B b i) (a := a) (b := b) (v := v) (by omega) hB (fun i T H2 R hi et hR => ?_) (fun H2 k3 eD => ?_)⟩
        · refine ⟨.ref T, rfl, (show 2 ≤ sizeLine by decide), fun t ht => ⟨dF (bt a i) (bt b i), dF 1 1, dpTwo (sqt_new (SqT.of et) ht), dpTwo (SqT.of upd_same), rfl, rfl, _, rfl, ?_⟩⟩
          have z : PyData.eqv (dF (bt a i) (bt b i)) (dF 1 1) = (B a i && B b i) := by
            rw [bt_b, bt_b]
            cases B a i <;> cases B b i <;> rfl
          rw [z]
          exact hR _ (Kept.refl.new ht)
        refine ⟨D, sel _ v, a &&& b, rfl, eD, sel_sum _ v _ bA (fun i _ => Nat.testBit_and a b i), .ref u, rfl, u, _, rfl, DPut.k (k := Sum.inr "and") (k3.dK eU (fun z => z)) (by omega), ?_⟩
        have eU' := k3.dK eU (fun z => z)
        have hB2 : Bits (upd H2 u (.dK (putK (mergeK [] (comesD v a b)) (Sum.inr "and") (.int ((a &&& b : Nat) : Int))))) L v a b := (hB.kept k3).put eU'
        have eU2 : upd H2 u (.dK (putK (mergeK [] (comesD v a b)) (Sum.inr "and") (.int ((a &&& b : Nat) : Int)))) u = some (.dK (putK (mergeK [] (comesD v a b)) (Sum.inr "and") (.int ((a &&& b : Nat) : Int)))) := upd_same
        have kA2 : Kept None H (upd H2 u (.dK (putK (mergeK [] (comesD v a b)) (Sum.inr "and") (.int ((a &&& b : Nat) : Int))))) := (kA.trans k3).new hu0
        generalize upd H2 u (.dK (putK (mergeK [] (comesD v a b)) (Sum.inr "and") (.int ((a &&& b : Nat) : Int)))) = H3 at hB2 eU2 kA2 ⊢
        clear eU' k3 eD kA eU hB t2
        obtain ⟨ts', _, t2, _⟩ := hB2.ex
        refine ⟨.ref L, rfl, L, ts'.map V.ref, rfl, SqL.of t2, fun D hD => sum_lc hD (p := fun i => B a i || B b i) (a := a) (b := b) (v := v) (by omega) hB2 (fun i T H2 R hi et hR => ?_) (fun H2 k3 eD => ?_)⟩
        · refine ⟨.ref T, rfl, (show 2 ≤ sizeLine by decide), fun t ht => ⟨dF (bt a i) (bt b i), dF 0 0, dpTwo (sqt_new (SqT.of et) ht), dpTwo (SqT.of upd_same), rfl, rfl, _, rfl, ?_⟩⟩
          have z : (!PyData.eqv (dF (bt a i) (bt b i)) (dF 0 0)) = (B a i || B b i) := by
            rw [bt_b, bt_b]
            cases B a i <;> cases B b i <;> rfl
          rw [z]
          exact hR _ (Kept.refl.new ht)
        refine ⟨D, sel _ v, a ||| b, rfl, eD, sel_sum _ v _ (Nat.or_lt_two_pow ha hb) (fun i _ => Nat.testBit_or a b i), .ref u, rfl, u, _, rfl, DPut.k (k := Sum.inr "or") (k3.dK eU2 (fun z => z)) (by omega), ?_⟩
        have eU' := k3.dK eU2 (fun z => z)
        have hB3 : Bits (upd H2 u (.dK (putK (putK (mergeK [] (comesD v a b)) (Sum.inr "and") (.int ((a &&& b : Nat) : Int))) (Sum.inr "or") (.int ((a ||| b : Nat) : Int))))) L v a b := (hB2.kept k3).put eU'
        have eU3 : upd H2 u (.dK (putK (putK (mergeK [] (comesD v a b)) (Sum.inr "and") (.int ((a &&& b : Nat) : Int))) (Sum.inr "or") (.int ((a ||| b : Nat) : Int)))) u = some (.dK (putK (putK (mergeK [] (comesD v a b)) (Sum.inr "and") (.int ((a &&& b : Nat) : Int))) (Sum.inr "or") (.int ((a ||| b : Nat) : Int)))) := upd_same
        have kA3 : Kept None H (upd H2 u (.dK (putK (putK (mergeK [] (comesD v a b)) (Sum.inr "and") (.int ((a &&& b : Nat) : Int))) (Sum.inr "or") (.int ((a ||| b : Nat) : Int))))) := (kA2.trans k3).new hu0
        generalize upd H2 u (.dK (putK (putK (mergeK [] (comesD v a b)) (Sum.inr "and") (.int ((a &&& b : Nat) : Int))) (Sum.inr "or") (.int ((a ||| b : Nat) : Int)))) = H4 at hB3 eU3 kA3 ⊢
        clear eU' k3 eD kA2 eU2 hB2 t2
        obtain ⟨ts', _, t2, _⟩ := hB3.ex
        refine ⟨.ref L, rfl, L, ts'.map V.ref, rfl, SqL.of t2, fun D hD => sum_lc hD (p := fun i => B a i ^^ B b i) (a := a) (b := b) (v := v) (by omega) hB3 (fun i T H2 R hi et hR => ?_) (fun H2 k3 eD => ?_)⟩
        · refine ⟨.ref T, rfl, T, _, 0, .int (bt a i : Int), rfl, rfl, SqT.of et, atI_nat (j := 0) rfl, .ref T, rfl, T, _, 1, .int (bt b i : Int), rfl, rfl, SqT.of et, atI_nat (j := 1) rfl, bt a i, bt b i, rfl, rfl, _, rfl, ?_⟩
          have z : (!decide (bt a i = bt b i)) = (B a i ^^ B b i) := by
            rw [bt_b, bt_b]
            cases B a i <;> cases B b i <;> rfl
          rw [z]
          exact hR _ Kept.refl
        refine ⟨D, sel _ v, a ^^^ b, rfl, eD, sel_sum _ v _ (Nat.xor_lt_two_pow ha hb) (fun i _ => Nat.testBit_xor a b i), .ref u, rfl, u, _, rfl, DPut.k (k := Sum.inr "unlike") (k3.dK eU3 (fun z => z)) (by omega), ?_⟩
        have eU4 : upd H2 u (.dK (comesE v a b)) u = some (.dK (comesE v a b)) := upd_same
        have kA4 : Kept None H (upd H2 u (.dK (comesE v a b))) := (kA3.trans k3).new hu0
        refine ⟨.ref u, rfl, u, rfl, .inl ⟨_, .inl eU4⟩, .str o.name, rfl, .int (a : Int), rfl, .int (b : Int), rfl, a, b, rfl, rfl, .inr ⟨_, rfl, valV (comesE v a b) (Sum.inr o.name), DGet.k (k := Sum.inr o.name) eU4, ?_⟩⟩
        rw [comes_get]
        exact q _ kA4
end
end K11

set_option Elab.async false
set_option linter.all false
set_option maxRecDepth 100000
set_option maxHeartbeats 4000000
namespace K11
open PySem PySem.Spec PyProof.Rows L2
/-! ### what is due -/
def RWs (H : Hp) (as : List Addr) (rows : List (List Nat)) : Prop := as.length = rows.length ∧ ∀ (i : Nat) (a : Addr) (row : List Nat), as[i]? = some a → rows[i]? = some row → H a = some (.lst (nums row))
theorem RWs.kept {H H' : Hp} {as : List Addr} {rows : List (List Nat)} (h : RWs H as rows) {D : Addr → Prop} (k : Kept D H H') (n : ∀ a ∈ as, ¬ D a) : RWs H' as rows := ⟨h.1, fun i a row e1 e2 => k.lst (h.2 i a row e1 e2) (n a (List.mem_of_getElem? e1))⟩
theorem RWs.nil {H : Hp} : RWs H [] [] := ⟨rfl, fun i a row e => by cases e⟩
theorem RWs.app {H : Hp} {as bs : List Addr} {rows more : List (List Nat)} (h : RWs H as rows) (h2 : RWs H bs more) : RWs H (as ++ bs) (rows ++ more) := by
  refine ⟨by rw [List.length_append, List.length_append, h.1, h2.1], fun i a row e1 e2 => ?_⟩
  by_cases q : i < as.length
  · rw [List.getElem?_append_left q] at e1
    rw [List.getElem?_append_left (by rw [← h.1]; exact q)] at e2
    exact h.2 i a row e1 e2
  · rw [List.getElem?_append_right (by omega)] at e1
    rw [List.getElem?_append_right (by rw [← h.1]; omega)] at e2
    rw [← h.1] at e2
    exact h2.2 _ a row e1 e2
theorem RWs.one {H : Hp} {a : Addr} {row : List Nat} (e : H a = some (.lst (nums row))) : RWs H [a] [row] := by
  refine ⟨rfl, fun i b r e1 e2 => ?_⟩
  cases i with
  | zero => cases e1; cases e2; exact e
  | succ i => cases e1
theorem Kept.dropG {H H' : Hp} {G : Addr} {o : HO} (hG : H G = none) (k : Kept (fun b => b = G) (L2.upd H G o) H') : Kept None H H' := fun b u e _ => by
  have hb : b ≠ G := ne_of_none e hG
  exact k b u (by rw [upd_ne hb]; exact e) hb
theorem longer_len (w : Nat) (f : F2) : ∀ rows : List (List Nat), (longer w f rows).length ≤ rows.length * 2 ^ w
  | [] => Nat.zero_le _
  | r :: rows => by
    have ih := longer_len w f rows
    have e : (longer w f (r :: rows)).length = (fits w f).length + (longer w f rows).length := by
      unfold longer
      rw [List.flatMap_cons, List.length_append, List.length_map]
    have h1 : (fits w f).length ≤ 2 ^ w := Nat.le_trans (List.length_filter_le _ _) (by rw [List.length_range]; exact Nat.le_refl _)
    rw [e, List.length_cons, Nat.succ_mul]; omega
theorem longer_app (w : Nat) (f : F2) (rows : List (List Nat)) (r : List Nat) : longer w f (rows ++ [r]) = longer w f rows ++ (fits w f).map fun v => r ++ [v] := by
  unfold longer
  rw [List.flatMap_append]
  simp
theorem rows_take {w : Nat} {g : PySem.Str → F2} {l : List PySem.Str} {i : Nat} {x : PySem.Str} (h : l[i]? = some x) : rowsF w g (l.take (i + 1)) = longer w (g x) (rowsF w g (l.take i)) := by
  unfold rowsF
  rw [List.take_add_one, h, List.foldl_append]
  rfl
theorem rows_len (w : Nat) (g : PySem.Str → F2) : ∀ (l : List PySem.Str) (rows : List (List Nat)), (l.foldl (fun rows x => longer w (g x) rows) rows).length ≤ rows.length * (2 ^ w) ^ l.length
  | [], rows => by simp
  | x :: l, rows => by
    have ih := rows_len w g l (longer w (g x) rows)
    have h1 := longer_len w (g x) rows
    rw [List.foldl_cons, List.length_cons, Nat.pow_succ, Nat.mul_comm ((2 ^ w) ^ l.length), ← Nat.mul_assoc]
    exact Nat.le_trans ih (Nat.mul_le_mul_right _ h1)
theorem rows_mem (w : Nat) (g : PySem.Str → F2) : ∀ (l : List PySem.Str) (rows : List (List Nat)) (n : Nat), (∀ r ∈ rows, r.length = n ∧ ∀ x ∈ r, x < 2 ^ w) → ∀ r ∈ l.foldl (fun rows x => longer w (g x) rows) rows, r.length = n + l.length ∧ ∀ x ∈ r, x < 2 ^ w
  | [], rows, n, h => h
  | x :: l, rows, n, h => by
    intro r hr
    have := rows_mem w g l (longer w (g x) rows) (n + 1) (fun r hr => by
      obtain ⟨q, hq, v, hv, rfl⟩ := mem_longer.mp hr
      obtain ⟨a, b⟩ := h q hq
      refine ⟨by rw [List.length_append, a]; rfl, fun x hx => ?_⟩
      rcases List.mem_append.mp hx with z | z
      · exact b x z
      · rw [List.mem_singleton.mp z]; exact hv.lt) r hr
    rw [List.length_cons]
    exact ⟨by omega, this.2⟩
theorem names_len (e : Ex) : e.names.length ≤ 3 := by cases e <;> simp [Ex.names]
theorem pow_le3 {v n : Nat} (h : v ≤ 4) (hn : n ≤ 3) : (2 ^ v) ^ n ≤ 4096 := by
  rw [← Nat.pow_mul]
  exact Nat.pow_le_pow_right (n := 2) (i := v * n) (j := 12) (by decide) (Nat.le_trans (Nat.mul_le_mul h hn) (by decide))
abbrev sLDue : Stmt := top 35
theorem scLDue : FnScope ["wide", "expr", "facts", "rows", "name", "zeros", "ones", "word", "fits", "longer", "row", "found", "every", "some", "one"] ["wide", "expr", "facts"] (defScope sLDue) := ⟨rfl, rfl, rfl, by decide +kernel, rfl, by decide +kernel, by decide +kernel⟩
def spLDue (K : PySem.W.Frag) : Sp := fun vs H Q _ => ∃ (v : Nat) (p a : Addr) (e : Ex) (g : PySem.Str → F2), vs = [.int (v : Int), .ref p, .ref a] ∧ 1 ≤ v ∧ v ≤ 4 ∧ SqT K H p e.vs ∧ FD K H a e.names g ∧ e.ok v ∧ (∀ x ∈ e.names, Fc v (g x)) ∧ Gives K H Q (due v (foundF v g e))
def tFits : TT := tAnd (tTest (tOp rEqN (tOp rAndN (tVar 7) (tVar 5)) (tC (.int 0)))) (tTest (tOp rEqN (tOp rAndN (tVar 7) (tVar 6)) (tVar 6)))
section
variable {P : Program} {w : World} {K : PySem.W.Frag} {mg : PySem.Str → Option Value} {base : Heap} {f fC : Addr} {fd fdC : FuncData}
theorem ok_ldue (F : FnP K "_law_due" sLDue f fd) (GLComes : FnOk P w K mg base CX0 1 fC fdC ["wide", "expr", "words"] (spLComes K)) (bLComes : Binds K fdC ["wide", "expr", "words"] []) (kLComes : PySem.W.keepIn K (.ref fC) = true) (gLComes : mg "_law_comes" = some (.ref fC))
    (m_range : mg "range" = none) (m_isinstance : mg "isinstance" = none) (m_str : mg "str" = none) : FnOk P w K mg base CX0 2 f fd ["wide", "expr", "facts"] (spLDue K) := by
  refine F.ok (k := 1) scLDue (fun vs H Q E h => ?_) (fun cdv A outer s H vs Q E hr h => ?_)
  · obtain ⟨v, p, a, e, g, rfl, _⟩ := h
    rfl
  · obtain ⟨v, p, a, e, g, rfl, w1, w2, h1, hD, he, hc, q⟩ := h
    have hu := hu_of hr
    refine ⟨_, PSs.nox (pss_cons (ps_set (i := 3) scLDue.nd rfl (Or.inl rfl) (pe_lst (pa_cons (pe_lst pa_nil) pa_nil)))
    (pss_cons (ps_for PassesOwn.never rfl (pi_list (pe_lc (own := [("one", 14)]) (g := gName 14) (tt := tTest (tCB (rIsi K) (tCons (tVar 14) (tCons (tC (.ty "str")) tNil)))) (te := tVar 14) rfl scLDue.nd (pi_tup (pe_slice sl_tup (pv 1) (po_some pe_int) po_none)) (blkOk_by (own := [("one", 14)]) (N := ["wide", "expr", "facts", "rows", "name", "zeros", "ones", "word", "fits", "longer", "row", "found", "every", "some", "one"]) (sc := defScope sLDue) (by decide +kernel)) (by exact (fun _ _ _ _ _ => (pg_name (i := 14) scLDue.nd rfl (Or.inl rfl)))) (by exact (fun _ _ _ _ _ => (pts_one (pt_val (pe_callB call_isi (by rfl) m_isinstance (by decide +kernel) (pa_cons (pv 14) (pa_cons (pe_bltn (v := .ty "str") (by rfl) m_str (by decide +kernel) rfl) pa_nil))))))) (by exact (fun _ _ _ _ _ => (pv 14))))) (pg_name (i := 4) scLDue.nd rfl (Or.inl rfl))
      (pss_cons (ps_asg (pe_dget hu (pv 2) (pv 4) (fun _ _ => rfl)) (pg_tup rfl (pgs_cons (pg_name (i := 5) scLDue.nd rfl (Or.inr rfl)) (pgs_cons (pg_name (i := 6) scLDue.nd rfl (Or.inr rfl)) pgs_nil))))
      (pss_cons (ps_setLc (i := 8) (own := [("word", 7)]) (g := gName 7) (tt := tFits) (te := tVar 7) rfl scLDue.nd rfl rfl (sw_true rfl rfl rfl (by decide +kernel)) (pi_range1 rfl m_range (pa_cons (pe_op n_bit pe_int (pv 0)) pa_nil)) (blkOk_by (own := [("word", 7)]) (N := ["wide", "expr", "facts", "rows", "name", "zeros", "ones", "word", "fits", "longer", "row", "found", "every", "some", "one"]) (sc := defScope sLDue) (by decide +kernel)) (by exact (fun _ _ _ _ _ => (pg_name (i := 7) scLDue.nd rfl (Or.inl rfl)))) (by exact (fun _ _ _ _ _ => (pts_one (PW.pt (pw_and (pt_cmpR n_eq (pe_op n_and (pv 7) (pv 5)) pe_int (nomark _)) (pw_and1 (pt_cmpR n_eq (pe_op n_and (pv 7) (pv 6)) (pv 6) (nomark _)))))))) (by exact (fun _ _ _ _ _ => (pv 7))))
      (pss_cons (ps_set (i := 9) scLDue.nd rfl (Or.inl rfl) (pe_lst pa_nil))
      (pss_cons (ps_for PassesOwn.never rfl (pi_list (pv 3)) (pg_name (i := 10) scLDue.nd rfl (Or.inr rfl))
        (pss_one (ps_expr (pe_bm PySem.F.plainAttrs_list PySem.F.slot_list_extend PySem.F.type_list_extend mt_extend (pv 9) (pa_cons (pe_lc (own := [("word", 7)]) (g := gName 7) (tt := tYes) (te := tOp rCat (tVar 10) (tLst (tCons (tVar 7) tNil))) rfl scLDue.nd (pi_list (pv 8)) (blkOk_by (own := [("word", 7)]) (N := ["wide", "expr", "facts", "rows", "name", "zeros", "ones", "word", "fits", "longer", "row", "found", "every", "some", "one"]) (sc := defScope sLDue) (by decide +kernel)) (by exact (fun _ _ _ _ _ => (pg_name (i := 7) scLDue.nd rfl (Or.inl rfl)))) (by exact (fun _ _ _ _ _ => pts_nil)) (by exact (fun _ _ _ _ _ => (pe_op op_cat (pv 10) (pe_lst (pa_cons (pv 7) pa_nil)))))) pa_nil)))))
      (pss_one (ps_set (i := 3) scLDue.nd rfl (Or.inl rfl) (pv 9))))))))
    (pss_cons (ps_setLc (i := 11) (own := [("row", 10)]) (g := gName 10) (tt := tYes) (te := tCall (spLComes K) [] E0 (tCons (tVar 0) (tCons (tVar 1) (tCons (tVar 10) tNil)))) rfl scLDue.nd rfl rfl (sw_true rfl rfl rfl (by decide +kernel)) (pi_list (pv 3)) (blkOk_by (own := [("row", 10)]) (N := ["wide", "expr", "facts", "rows", "name", "zeros", "ones", "word", "fits", "longer", "row", "found", "every", "some", "one"]) (sc := defScope sLDue) (by decide +kernel)) (by exact (fun _ _ _ _ _ => (pg_name (i := 10) scLDue.nd rfl (Or.inl rfl)))) (by exact (fun _ _ _ _ _ => pts_nil)) (by exact (fun _ _ _ _ _ => (pe_call GLComes hr (by rfl) gLComes kLComes bLComes .nil pass0 (pa_cons (pv 0) (pa_cons (pv 1) (pa_cons (pv 10) pa_nil)))))))
    (pss_cons (ps_par (i := 12) (j := 13) (by rfl) scLDue.nd rfl rfl (by decide) rfl rfl (pa_cons (pe_op n_sub (pe_op n_bit pe_int (pv 0)) pe_int) (pa_cons pe_int pa_nil)) (by rfl))
    (pss_cons (ps_for PassesOwn.never rfl (pi_list (pv 11)) (pg_name (i := 7) scLDue.nd rfl (Or.inl rfl))
      (pss_one (ps_par (i := 12) (j := 13) (by rfl) scLDue.nd rfl rfl (by decide) rfl rfl (pa_cons (pe_op n_and (pv 12) (pv 7)) (pa_cons (pe_op n_or (pv 13) (pv 7)) pa_nil)) (by rfl))))
    (pss_one (ps_ret (pe_tup (pa_cons (pe_op n_sub (pe_op n_sub (pe_op n_bit pe_int (pv 0)) pe_int) (pv 13)) (pa_cons (pv 12) pa_nil)))))))))), ?_⟩
    have tl : 2 ^ v ≤ 16 := Nat.pow_le_pow_right (n := 2) (i := v) (j := 4) (by decide) w2
    have tp := Nat.two_pow_pos v
    have szl := sizeLine_eq
    have nl3 := names_len e
    refine ⟨(show 0 ≤ sizeLine by decide), fun r0 hr0 => ⟨(show 1 ≤ sizeLine by decide), fun R hR => ?_⟩⟩
    have hRH : H R = none := by
      by_cases z : R = r0
      · rw [z]; exact hr0
      · rw [upd_ne z] at hR; exact hR
    have k1 : Kept None H (upd (upd H r0 (.lst [])) R (.lst [.ref r0])) := (Kept.refl.new hr0).new hRH
    have e1 : upd (upd H r0 (.lst [])) R (.lst [.ref r0]) R = some (.lst ([r0].map V.ref)) := upd_same
    have e2 : upd (upd H r0 (.lst [])) R (.lst [.ref r0]) r0 = some (.lst (nums [])) := by
      rw [upd_ne (ne_of_none (upd_same (o := .lst [])) hR), upd_same]; rfl
    generalize upd (upd H r0 (.lst [])) R (.lst [.ref r0]) = H1 at k1 e1 e2 ⊢
    -- the names
    refine ⟨.ref p, rfl, 1, rfl, p, e.vs, rfl, k1.sqt h1 (fun z => z), cut_ok e, fun t ht => ⟨t, rfl, ⟨_, SqT.of upd_same⟩, fun D hD' => ?_⟩⟩
    rw [cut_parts] at hD' ⊢
    have k2 : Kept None H (upd H1 t (.tup e.parts)) := k1.new (k1.free ht)
    have et : upd H1 t (.tup e.parts) t = some (.tup e.parts) := upd_same
    have eR : upd H1 t (.tup e.parts) R = some (.lst ([r0].map V.ref)) := by rw [upd_ne (ne_of_none e1 ht)]; exact e1
    have er : upd H1 t (.tup e.parts) r0 = some (.lst (nums [])) := by rw [upd_ne (ne_of_none e2 ht)]; exact e2
    generalize upd H1 t (.tup e.parts) = H2 at hD' k2 et eR er ⊢
    refine lc_tup (K := K) (a := t) (xs := e.parts) (fun i H' => Kept None H2 H' ∧ H' D = some (.lst ((e.parts.take i).filter strB))) ⟨Kept.refl.new hD', upd_same⟩ (fun i H' _ h => SqT.of (h.1.tup et (fun z => z))) (fun i x H' hx h => ?_) (fun H' h => ?_)
    · obtain ⟨k3, eD⟩ := h
      have tf := take_filter strB _ i x hx
      have fl : ((e.parts.take i).filter strB).length < sizeLine := by
        have a1 := List.length_filter_le strB (e.parts.take i)
        have a2 : (e.parts.take i).length ≤ e.parts.length := by rw [List.length_take]; exact Nat.min_le_right _ _
        have a3 := parts_len e
        omega
      rcases parts_ty (K := K) (H := H) e x (List.mem_of_getElem? hx) with ⟨z, rfl, _⟩ | ⟨n, rfl⟩
      · refine ⟨rfl, .str z, rfl, .str z, .ty "str", .type "str", .type "str", true, rfl, .ty "str", .base (.str z), rfl, _, rfl, ?_⟩
        rw [if_pos (show strB (.str z) = true from rfl)] at tf
        exact iteT ⟨.str z, rfl, _, eD, fl, k3.new hD', by rw [upd_same, tf]⟩
      · refine ⟨rfl, .int n, rfl, .int n, .ty "str", .type "int", .type "str", false, rfl, .ty "str", .base (.int _), rfl, _, rfl, ?_⟩
        rw [if_neg (show ¬ strB (.int (n : Int)) = true from Bool.false_ne_true)] at tf
        exact iteF ⟨k3, by rw [tf]; exact eD⟩
    · obtain ⟨k3, eD⟩ := h
      rw [List.take_length, parts_names] at eD
      have eR3 := k3.lst eR (fun z => z)
      have er3 := k3.lst er (fun z => z)
      have kA := k2.trans k3
      have hF := hD.kept kA
      clear k3 k2 et eR er k1 e1 e2 hD'
      obtain ⟨kvs, pa, ek, hk⟩ := hF.ex
      refine ⟨D, rfl, ⟨_, SqL.of eD⟩, ?_⟩
      refine for_list (K := K) (a := D) (xs := e.names.map V.str) (fun i σ H'' => ∃ (r : Addr) (as : List Addr) (y4 y5 y6 y7 y8 y9 y10 : Option V), σ = [some (.int (v : Int)), some (.ref p), some (.ref a), some (.ref r), y4, y5, y6, y7, y8, y9, y10, none, none, none, none] ∧ Kept None H' H'' ∧ H'' r = some (.lst (as.map V.ref)) ∧ RWs H'' as (rowsF v g (e.names.take i)))
        ⟨R, [r0], none, none, none, none, none, none, none, rfl, Kept.refl, eR3, RWs.one er3⟩ (fun i σ H'' _ h => by
          obtain ⟨r, as, y4, y5, y6, y7, y8, y9, y10, rfl, k4, _⟩ := h
          exact SqL.of (k4.lst eD (fun z => z))) (fun i x σ H4 hx h => ?_) (fun σ H4 h => ?_)
      · obtain ⟨r, as, y4, y5, y6, y7, y8, y9, y10, rfl, k4, er4, rw4⟩ := h
        rw [List.getElem?_map, Option.map_eq_some_iff] at hx
        obtain ⟨x, hx, rfl⟩ := hx
        have hxm := List.mem_of_getElem? hx
        obtain ⟨hv, hs⟩ := hk x hxm
        have cx := hc x hxm
        have rl : (rowsF v g (e.names.take i)).length ≤ 4096 := by
          have a1 := rows_len v g (e.names.take i) [[]]
          have a2 : (e.names.take i).length ≤ 3 := by rw [List.length_take]; omega
          have a3 := pow_le3 w2 a2
          rw [List.length_singleton, Nat.one_mul] at a1
          exact Nat.le_trans a1 a3
        refine ⟨.ref a, rfl, .str x, rfl, a, .ref (pa x), rfl, (by rw [← hv]; exact DGet.k (k := Sum.inr x) (k4.dK ek (fun z => z))), pa x, _, rfl, k4.sqt hs (fun z => z), rfl, .int ((g x).1 : Int), _, rfl, .int ((g x).2 : Int), _, rfl, rfl, ?_⟩
        refine ⟨.int v, rfl, v, rfl, rfl, by omega, ((2 ^ v : Nat) : Int), rfl, by generalize 2 ^ v = u at tl ⊢; omega, by generalize 2 ^ v = u at tl ⊢; omega, fun F hF5 => ?_⟩
        refine lc_range (lo := 0) (n := 2 ^ v) (fun i H' => Kept None H4 H' ∧ H' F = some (.lst (nums ((List.range i).filter (fitB (g x)))))) ⟨Kept.refl.new hF5, upd_same⟩ (fun i H5 hi h => ?_) (fun H5 h => ?_)
        · obtain ⟨k5, eF⟩ := h
          have si : (0 : Int) + (i : Int) = (i : Int) := Int.zero_add _
          have fl : (nums ((List.range i).filter (fitB (g x)))).length < sizeLine := by
            have a1 := List.length_filter_le (fitB (g x)) (List.range i)
            rw [List.length_range] at a1
            unfold nums
            rw [List.length_map]; omega
          have nx : (List.range (i + 1)).filter (fitB (g x)) = if fitB (g x) i = true then (List.range i).filter (fitB (g x)) ++ [i] else (List.range i).filter (fitB (g x)) := by
            rw [List.range_succ, List.filter_append]
            by_cases h : fitB (g x) i = true
            · rw [if_pos h]; simp [h]
            · rw [if_neg h]; simp [h]
          have no : fitB (g x) i = false → Kept None H4 H5 ∧ H5 F = some (.lst (nums ((List.range (i + 1)).filter (fitB (g x))))) := fun z => ⟨k5, by rw [nx, if_neg (by rw [z]; exact Bool.false_ne_true)]; exact eF⟩
          refine ⟨rfl, .int (0 + i), rfl, .int ((g x).1 : Int), rfl, i, (g x).1, by rw [si], rfl, i &&& (g x).1, 0, rfl, rfl, _, rfl, ?_⟩
          refine ite2 (fun z1 => ?_) (fun z1 => ?_)
          · refine ⟨.int (0 + i), rfl, .int ((g x).2 : Int), rfl, i, (g x).2, by rw [si], rfl, .int ((g x).2 : Int), rfl, i &&& (g x).2, (g x).2, rfl, rfl, _, rfl, ?_⟩
            refine ite2 (fun z2 => ?_) (fun z2 => ?_)
            · have z : fitB (g x) i = true := by
                unfold fitB
                rw [of_decide_eq_true z1, of_decide_eq_true z2]; simp
              refine ⟨.int (0 + i), rfl, _, eF, fl, k5.new hF5, ?_⟩
              rw [upd_same, nx, if_pos z, si]
              unfold nums
              rw [List.map_append]; rfl
            · exact no (by
                unfold fitB
                rw [show (i &&& (g x).2 == (g x).2) = false from beq_eq_false_iff_ne.mpr (fun y => z2 (decide_eq_true y)), Bool.and_false])
          · exact iteF (no (by
              unfold fitB
              rw [show (i &&& (g x).1 == 0) = false from beq_eq_false_iff_ne.mpr (fun y => z1 (decide_eq_true y)), Bool.false_and]))
        · obtain ⟨k5, eF⟩ := h
          have eF : H5 F = some (.lst (nums (fits v (g x)))) := eF
          have fl : (fits v (g x)).length ≤ 16 := by
            have a1 := List.length_filter_le (fitB (g x)) (List.range (2 ^ v))
            rw [List.length_range] at a1
            exact Nat.le_trans a1 tl
          refine ⟨(show 0 ≤ sizeLine by decide), fun G hG => ?_⟩
          have kB := k4.trans k5
          have rw5 : RWs H5 as (rowsF v g (e.names.take i)) := rw4.kept k5 (fun _ _ z => z)
          have er5 := k5.lst er4 (fun z => z)
          have nxt : rowsF v g (e.names.take (i + 1)) = longer v (g x) (rowsF v g (e.names.take i)) := rows_take hx
          have rm : ∀ r ∈ rowsF v g (e.names.take i), r.length ≤ 3 := fun r hr => by
            have a1 := (rows_mem v g (e.names.take i) [[]] 0 (fun r hr => by rw [List.mem_singleton.mp hr]; exact ⟨rfl, fun x hx => by cases hx⟩) r hr).1
            rw [List.length_take] at a1
            omega
          generalize rowsF v g (e.names.take i) = rows at rw5 rl nxt rm
          have hl : (as.map V.ref).length = rows.length := by rw [List.length_map]; exact rw5.1
          refine ⟨.ref r, rfl, r, rfl, ⟨_, SqL.of (by rw [upd_ne (ne_of_none er5 hG)]; exact er5)⟩, ?_⟩
          refine for_list (K := K) (a := r) (xs := as.map V.ref) (fun j σ H7 => ∃ (gs : List Addr) (z10 : Option V), σ = [some (.int (v : Int)), some (.ref p), some (.ref a), some (.ref r), some (.str x), some (.int ((g x).1 : Int)), some (.int ((g x).2 : Int)), y7, some (.ref F), some (.ref G), z10, none, none, none, none] ∧ Kept (fun b => b = G) (upd H5 G (.lst [])) H7 ∧ H7 G = some (.lst (gs.map V.ref)) ∧ RWs H7 gs (longer v (g x) (rows.take j)) ∧ ∀ b ∈ gs, b ≠ G)
            ⟨[], y10, rfl, Kept.refl, upd_same, RWs.nil, fun b z => by cases z⟩ (fun j σ H7 _ h => by
              obtain ⟨gs, z10, rfl, k7, _⟩ := h
              exact SqL.of ((Kept.dropG hG k7).lst er5 (fun z => z))) (fun j x' σ H7 hx' h => ?_) (fun σ H7 h => ?_)
          · obtain ⟨gs, z10, rfl, k7, eG, rw7, ng⟩ := h
            rw [List.getElem?_map, Option.map_eq_some_iff] at hx'
            obtain ⟨aj, haj, rfl⟩ := hx'
            have hjl : j < rows.length := by
              rw [← rw5.1]
              exact (List.getElem?_eq_some_iff.mp haj).1
            have hrow : rows[j]? = some rows[j] := List.getElem?_eq_getElem hjl
            have k57 := Kept.dropG hG k7
            have eaj : H7 aj = some (.lst (nums rows[j])) := k57.lst (rw5.2 j aj _ haj hrow) (fun z => z)
            have eF7 := k57.lst eF (fun z => z)
            have gl : gs.length ≤ 65536 := by
              rw [rw7.1]
              have a1 := longer_len v (g x) (rows.take j)
              have a2 : (rows.take j).length ≤ 4096 := by rw [List.length_take]; omega
              exact Nat.le_trans a1 (Nat.le_trans (Nat.mul_le_mul a2 tl) (by decide))
            have rowl : (nums rows[j]).length ≤ 1000 := by
              have a1 := rm _ (List.getElem_mem hjl)
              unfold nums
              rw [List.length_map]; omega
            refine ⟨.ref G, rfl, .inl ⟨rfl, _, SqL.of eG⟩, .ref F, rfl, F, rfl, ⟨_, SqL.of eF7⟩, fun D2 hD2 => ?_⟩
            refine lc_list (K := K) (a := F) (xs := nums (fits v (g x))) (fun i H' => Kept None H7 H' ∧ ∃ bs : List Addr, H' D2 = some (.lst (bs.map V.ref)) ∧ RWs H' bs (((fits v (g x)).take i).map fun w => rows[j] ++ [w]) ∧ ∀ b ∈ bs, H7 b = none ∧ b ≠ D2) ⟨Kept.refl.new hD2, [], upd_same, RWs.nil, fun b z => by cases z⟩ (fun i H' _ h => SqL.of (h.1.lst eF7 (fun z => z))) (fun i x' H' hx' h => ?_) (fun H' h => ?_)
            · obtain ⟨k8, bs, eD8, rw8, nb⟩ := h
              unfold nums at hx'
              rw [List.getElem?_map, Option.map_eq_some_iff] at hx'
              obtain ⟨w, hw, rfl⟩ := hx'
              have il := (List.getElem?_eq_some_iff.mp hw).1
              have bl : bs.length ≤ 16 := by
                rw [rw8.1, List.length_map, List.length_take]; omega
              refine ⟨rfl, .ref aj, rfl, .int (w : Int), rfl, (show 1 ≤ sizeLine by decide), fun l hl => ?_⟩
              have ea8 := k8.lst eaj (fun z => z)
              refine ⟨aj, l, nums rows[j], [.int (w : Int)], rfl, rfl, by rw [upd_ne (ne_of_none ea8 hl)]; exact ea8, upd_same, by rw [List.length_singleton]; omega, fun b hb => ?_⟩
              have bl' : b ≠ l := fun z => by
                rw [z, upd_same] at hb
                cases hb
              have hb8 : H' b = none := by rw [upd_ne bl'] at hb; exact hb
              have k9 : Kept None H' (upd (upd H' l (.lst [.int (w : Int)])) b (.lst (nums rows[j] ++ [.int (w : Int)]))) := (Kept.refl.new hl).new hb8
              have eb9 : upd (upd H' l (.lst [.int (w : Int)])) b (.lst (nums rows[j] ++ [.int (w : Int)])) b = some (.lst (nums (rows[j] ++ [w]))) := by
                rw [upd_same]
                unfold nums
                rw [List.map_append]; rfl
              generalize upd (upd H' l (.lst [.int (w : Int)])) b (.lst (nums rows[j] ++ [.int (w : Int)])) = H9 at k9 eb9 ⊢
              have eD9 := k9.lst eD8 (fun z => z)
              have hb7 := k8.free hb8
              have bD : b ≠ D2 := fun z => by
                rw [z, eD8] at hb8
                cases hb8
              have nbD : ∀ c ∈ bs ++ [b], ¬ c = D2 := fun c hc => by
                rcases List.mem_append.mp hc with z | z
                · exact (nb c z).2
                · rw [List.mem_singleton.mp z]; exact bD
              refine ⟨bs.map V.ref, eD9, by rw [List.length_map]; omega, (k8.trans k9).new hD2, bs ++ [b], by rw [upd_same, List.map_append]; rfl, ?_, fun c hc => ?_⟩
              · have e1 : ((fits v (g x)).take (i + 1)).map (fun w => rows[j] ++ [w]) = ((fits v (g x)).take i).map (fun w => rows[j] ++ [w]) ++ [rows[j] ++ [w]] := by
                  rw [List.take_add_one, hw, List.map_append]; rfl
                rw [e1]
                have rw9 := (rw8.kept k9 (fun _ _ z => z)).app (RWs.one eb9)
                exact rw9.kept (D := fun b => b = D2) (Kept.refl.upd rfl) nbD
              · rcases List.mem_append.mp hc with z | z
                · exact nb c z
                · rw [List.mem_singleton.mp z]; exact ⟨hb7, bD⟩
            · obtain ⟨k8, bs, eD8, rw8, nb⟩ := h
              have bl : bs.length ≤ 16 := by
                rw [rw8.1, List.length_map, List.length_take]; omega
              have eG8 := k8.lst eG (fun z => z)
              refine ⟨G, D2, gs.map V.ref, bs.map V.ref, rfl, rfl, eG8, eD8, by rw [List.length_map, List.length_map]; omega, gs ++ bs, some (.ref aj), rfl, (k7.trans (k8.weak fun _ z => z.elim)).upd rfl, by rw [upd_same, List.map_append], ?_, fun b hb => ?_⟩
              · have e1 : longer v (g x) (rows.take (j + 1)) = longer v (g x) (rows.take j) ++ (fits v (g x)).map fun w => rows[j] ++ [w] := by
                  rw [List.take_add_one, hrow]
                  exact longer_app v (g x) (rows.take j) rows[j]
                rw [e1]
                rw [show (nums (fits v (g x))).length = (fits v (g x)).length from List.length_map .., List.take_length] at rw8
                exact ((rw7.kept k8 (fun _ _ z => z)).app rw8).kept (D := fun b => b = G) (Kept.refl.upd rfl) (fun c hc => by
                  rcases List.mem_append.mp hc with z | z
                  · exact ng c z
                  · exact fun y => by
                      have := (nb c z).1
                      rw [y, eG] at this
                      cases this)
              · rcases List.mem_append.mp hb with z | z
                · exact ng b z
                · exact fun y => by
                    have := (nb b z).1
                    rw [y, eG] at this
                    cases this
          · obtain ⟨gs, z10, rfl, k7, eG, rw7, ng⟩ := h
            refine ⟨.ref G, rfl, G, gs, _, _, _, _, _, _, _, rfl, kB.trans (Kept.dropG hG k7), eG, ?_⟩
            rw [nxt]
            rw [hl, List.take_length] at rw7
            exact rw7
      · obtain ⟨r, as, y4, y5, y6, y7, y8, y9, y10, rfl, k4, er4, rw4⟩ := h
        rw [List.length_map, List.take_length] at rw4
        have kB := kA.trans k4
        have rl : (rowsF v g e.names).length ≤ 4096 := by
          have a1 := rows_len v g e.names [[]]
          have a3 := pow_le3 w2 nl3
          rw [List.length_singleton, Nat.one_mul] at a1
          exact Nat.le_trans a1 a3
        have rm : ∀ r ∈ rowsF v g e.names, r.length = e.names.length ∧ ∀ x ∈ r, x < 2 ^ v := fun r hr => by
          have a1 := rows_mem v g e.names [[]] 0 (fun r hr => by rw [List.mem_singleton.mp hr]; exact ⟨rfl, fun x hx => by cases hx⟩) r hr
          rw [Nat.zero_add] at a1
          exact a1
        have hFn : foundF v g e = (rowsF v g e.names).map (comesF v e) := rfl
        generalize rowsF v g e.names = rows at rw4 rl rm hFn
        have hl : (as.map V.ref).length = rows.length := by rw [List.length_map]; exact rw4.1
        refine ⟨.ref r, rfl, r, rfl, ⟨_, SqL.of er4⟩, fun F hF4 => ?_⟩
        refine lc_list (K := K) (a := r) (xs := as.map V.ref) (fun i H' => Kept None H4 H' ∧ H' F = some (.lst (nums ((rows.take i).map (comesF v e))))) ⟨Kept.refl.new hF4, upd_same⟩ (fun i H' _ h => SqL.of (h.1.lst er4 (fun z => z))) (fun i x H5 hx h => ?_) (fun H5 h => ?_)
        · obtain ⟨k5, eF⟩ := h
          rw [List.getElem?_map, Option.map_eq_some_iff] at hx
          obtain ⟨ai, hai, rfl⟩ := hx
          have hil : i < rows.length := by
            rw [← rw4.1]
            exact (List.getElem?_eq_some_iff.mp hai).1
          have hrow : rows[i]? = some rows[i] := List.getElem?_eq_getElem hil
          have eai : H5 ai = some (.lst (nums rows[i])) := k5.lst (rw4.2 i ai _ hai hrow) (fun z => z)
          obtain ⟨m1, m2⟩ := rm _ (List.getElem_mem hil)
          refine ⟨rfl, .int v, rfl, .ref p, rfl, .ref ai, rfl, v, p, ai, e, rows[i], rfl, by omega, (kB.trans k5).sqt h1 (fun z => z), SqL.of eai, m1, he, m2, fun H6 k6 => ⟨_, k6.lst eF (fun z => z), ?_, (k5.trans k6).new hF4, ?_⟩⟩
          · unfold nums
            rw [List.length_map, List.length_map, List.length_take]; omega
          · rw [upd_same, List.take_add_one, hrow, List.map_append]
            unfold nums
            rw [List.map_append]; rfl
        · obtain ⟨k5, eF⟩ := h
          rw [hl, List.take_length, ← hFn] at eF
          have fl : (foundF v g e).length ≤ 4096 := by rw [hFn, List.length_map]; exact rl
          have kC := kB.trans k5
          obtain ⟨_, flt⟩ := found_tells w1 he hc
          generalize foundF v g e = fs at eF fl flt q
          refine ⟨.int v, rfl, v, rfl, rfl, by omega, 2 ^ v, 1, rfl, rfl, tp, _, _, rfl, .ref F, rfl, F, rfl, ⟨_, SqL.of eF⟩, ?_⟩
          refine for_list (K := K) (a := F) (xs := nums fs) (fun i σ H' => ∃ (y7 : Option V), σ = [some (.int (v : Int)), some (.ref p), some (.ref a), some (.ref r), y4, y5, y6, y7, y8, y9, y10, some (.ref F), some (.int ((foldB (most v) (fs.take i)).1 : Nat)), some (.int ((foldB (most v) (fs.take i)).2 : Nat)), none] ∧ H' = H5)
            ⟨y7, rfl, rfl⟩ (fun i σ H' _ h => by
              obtain ⟨z7, rfl, rfl⟩ := h
              exact SqL.of eF) (fun i x σ H' hx h => ?_) (fun σ H' h => ?_)
          · obtain ⟨z7, rfl, rfl⟩ := h
            unfold nums at hx
            rw [List.getElem?_map, Option.map_eq_some_iff] at hx
            obtain ⟨n, hn, rfl⟩ := hx
            refine ⟨_, rfl, _, rfl, _, n, rfl, rfl, _, rfl, _, rfl, _, n, rfl, rfl, _, _, rfl, some (.int (n : Int)), ?_, rfl⟩
            rw [fold_take _ _ _ _ hn]
            rfl
          · obtain ⟨z7, rfl, rfl⟩ := h
            have ft := fold_lt flt
            rw [show (nums fs).length = fs.length from List.length_map .., List.take_length]
            refine ⟨.int v, rfl, v, rfl, rfl, by omega, 2 ^ v, 1, rfl, rfl, tp, _, rfl, most v, (foldB (most v) fs).2, rfl, rfl, ?_, _, rfl, (show 2 ≤ sizeLine by decide), fun t ht => ?_⟩
            · have := most_pow v
              omega
            · exact q t _ (kC.new (kC.free ht)) (SqT.of upd_same)
end
end K11

set_option Elab.async false
set_option linter.all false
set_option maxRecDepth 100000
set_option maxHeartbeats 4000000
namespace K11
open PySem PySem.Spec PyProof.Rows L2
/-! ### a draw and a new list beside it -/
theorem Dr.apart {H : Hp} {d c p : Addr} {ns : List Int} {n : Nat} (D : Dr H d c ns n) (h : H p = none) : ¬ p = d := fun e => by
  obtain ⟨_, _, _, z, _⟩ := D.at_
  rw [e, z] at h
  cases h
theorem Dr.apartC {H : Hp} {d c p : Addr} {ns : List Int} {n : Nat} (D : Dr H d c ns n) (h : H p = none) : ¬ p = c := fun z => by
  rw [z, D.cs] at h
  cases h
abbrev At2 (d L : Addr) : Addr → Prop := fun b => b = d ∨ b = L
theorem Kept.drop {H H3 H' : Hp} {d L : Addr} (a : Kept (At d) H H3) (n : H L = none) (b : Kept (At2 d L) H3 H') : Kept (At d) H H' := fun x o e hx => by
  refine ko_trans (a x o e hx) fun u q => b x u q ?_
  rintro (z | z)
  · exact hx z
  · exact ne_of_none e n z
theorem Kept.sql2 {K : PySem.W.Frag} {H H' : Hp} {d L p : Addr} {xs : List V} (k : Kept (At2 d L) H H') (n : H L = none) (nd : ¬ p = d) (h : SqL K H p xs) : SqL K H' p xs := by
  have nl : ∀ {o}, H p = some o → ¬ At2 d L p := fun {o} e z => by
    rcases z with z | z
    · exact nd z
    · exact ne_of_none e n z
  rcases h with (h | ⟨o, h⟩) | h
  · exact .inl (.inl (k.lst h (nl h)))
  · exact .inl (.inr ⟨o, k.frz h (nl h)⟩)
  · exact .inr h
theorem Dr.keep {H : Hp} {d c p : Addr} {o : HO} {ns : List Int} {n : Nat} (D : Dr H d c ns n) (h1 : p ≠ d) (h2 : p ≠ c) : Dr (L2.upd H p o) d c ns n := by
  obtain ⟨a, l, u, h, r⟩ := D.at_
  exact ⟨⟨a, l, u, by rw [upd_ne (Ne.symm h1)]; exact h, r⟩, by rw [upd_ne (Ne.symm h2)]; exact D.cs, D.ne⟩
/-! ### names drawn -/
def rRepA : R2 := fun x y H Q => ∃ (z : PySem.Str) (k : Nat), x = .str z ∧ y = .int (k : Int) ∧ z.length ≤ 1000 ∧ k ≤ 1000 ∧ Q (.str (Txt.mul z (k : Int))) H
theorem op_repA {X : Cx} : OpR X (binaryOp .Mult) rRepA := by
  intro pins s σ H x y v u Q I rx ry h
  obtain ⟨z, k, rfl, rfl, h1, h2, q⟩ := h
  obtain ⟨t, rfl⟩ := rx
  obtain ⟨t', rfl⟩ := ry
  have h3 : z.length * k ≤ 1000000 := Nat.mul_le_mul h1 h2
  refine PySem.SB.mul ⟨?_, fun g1 _ => ?_, fun _ _ => ?_⟩ fun t2 tk => ⟨.str _, H, I.tok tk, ⟨t2, rfl⟩, q⟩
  · rw [decide_eq_false (by omega), decide_eq_false (by omega)]; rfl
  · have e2 : (1000000 : Int) ≤ (2 ^ 63 - 1) / (k : Int) := (Int.le_ediv_iff_mul_le (by omega)).mpr (by omega)
    omega
  · rw [Int.toNat_natCast]
    unfold Builtin.Str.tooLong
    rw [decide_eq_false (by rw [sizeLine_eq]; omega)]
def rAddS : R2 := fun x y H Q => ∃ i j, x = .str i ∧ y = .str j ∧ i.length + j.length ≤ sizeLine ∧ Q (.str (i ++ j)) H
theorem op_addS {X : Cx} : OpR X (binaryOp .Add) rAddS := op_add_str
def letZ : PySem.Str := "abcdefghijklmnopqrstuvwxyz"
theorem let_at : ∀ j, j < 26 → letZ.cps.toList[j]? = some (97 + j) := by decide +kernel
theorem let_len : letZ.length = 26 := by decide +kernel
theorem mul_len (c : Nat) : ∀ k : Nat, k ≤ 7 → (Txt.mul ⟨#[c]⟩ (k : Int)).length ≤ 7
  | 0, _ => show (0 : Nat) ≤ 7 by decide
  | 1, _ => show (1 : Nat) ≤ 7 by decide
  | 2, _ => show (2 : Nat) ≤ 7 by decide
  | 3, _ => show (3 : Nat) ≤ 7 by decide
  | 4, _ => show (4 : Nat) ≤ 7 by decide
  | 5, _ => show (5 : Nat) ≤ 7 by decide
  | 6, _ => show (6 : Nat) ≤ 7 by decide
  | 7, _ => show (7 : Nat) ≤ 7 by decide
  | k + 8, h => absurd h (by omega)
theorem head_app (a : Nat) (t : PySem.Str) : ((⟨#[a]⟩ : PySem.Str) ++ t).cps.toList.head? = some a := by
  show (#[a] ++ t.cps).toList.head? = some a
  simp
def heads (f : Nat) (ks : List PySem.Str) : Prop := ∀ (j : Nat) (x : PySem.Str), ks[j]? = some x → x.cps.toList.head? = some (97 + (f + 7 * j) % 26)
theorem heads_nodup {f : Nat} (hf : f < 26) {ks : List PySem.Str} (h : heads f ks) (hl : ks.length = 3) : ks.Nodup := by
  obtain ⟨x0, x1, x2, rfl⟩ : ∃ x0 x1 x2, ks = [x0, x1, x2] := by
    match ks, hl with
    | [x0, x1, x2], _ => exact ⟨_, _, _, rfl⟩
  have h0 := h 0 x0 rfl
  have h1 := h 1 x1 rfl
  have h2 := h 2 x2 rfl
  have n01 : x0 ≠ x1 := fun z => by
    rw [z, h1] at h0
    have := Option.some.inj h0
    omega
  have n02 : x0 ≠ x2 := fun z => by
    rw [z, h2] at h0
    have := Option.some.inj h0
    omega
  have n12 : x1 ≠ x2 := fun z => by
    rw [z, h2] at h1
    have := Option.some.inj h1
    omega
  simp [n01, n02, n12]
abbrev sLNames : Stmt := top 32
theorem scLNames : FnScope ["draw", "letters", "first", "size", "k"] ["draw"] (defScope sLNames) := ⟨rfl, rfl, rfl, by decide +kernel, rfl, by decide +kernel, by decide +kernel⟩
def spLNames : Sp := fun vs H Q _ => ∃ (d c : Addr) (ns : List Int) (n : Nat), vs = [.ref d] ∧ Dr H d c ns n ∧ n ≤ 100000 ∧
  ∀ (l : Addr) (ks : List PySem.Str) H', H l = none → Kept (At d) H H' → Dr H' d c ns (n + 5) → H' l = some (.lst (ks.map V.str)) → ks.length = 3 → ks.Nodup → Q (.ref l) H'
section
variable {P : Program} {w : World} {K : PySem.W.Frag} {mg : PySem.Str → Option Value} {base : Heap} {f fN : Addr} {fd fdN : FuncData}
theorem ok_lnames (F : FnP K "_law_names" sLNames f fd) (GLNext : FnOk P w K mg base CX0 2 fN fdN ["draw", "many"] spNext) (bLNext : Binds K fdN ["draw", "many"] []) (kLNext : PySem.W.keepIn K (.ref fN) = true) (gLNext : mg "_law_next" = some (.ref fN))
    (m_range : mg "range" = none) : FnOk P w K mg base CX0 3 f fd ["draw"] spLNames := by
  refine F.ok (k := 2) scLNames (fun vs H Q E h => ?_) (fun cdv A outer s H vs Q E hr h => ?_)
  · obtain ⟨d, c, ns, n, rfl, _⟩ := h
    rfl
  · obtain ⟨d, c, ns, n, rfl, D, hn, q⟩ := h
    refine ⟨_, PSs.nox (pss_cons (ps_set (i := 1) scLNames.nd rfl (Or.inr rfl) pe_str)
    (pss_cons (ps_asg (pe_tup (pa_cons (pe_call GLNext hr (by rfl) gLNext kLNext bLNext .nil pass0 (pa_cons (pv 0) (pa_cons pe_int pa_nil))) (pa_cons (pe_op op_add pe_int (pe_call GLNext hr (by rfl) gLNext kLNext bLNext .nil pass0 (pa_cons (pv 0) (pa_cons pe_int pa_nil)))) pa_nil))) (pg_tup rfl (pgs_cons (pg_name (i := 2) scLNames.nd rfl (Or.inr rfl)) (pgs_cons (pg_name (i := 3) scLNames.nd rfl (Or.inr rfl)) pgs_nil))))
    (pss_one (ps_ret (pe_lc (own := [("k", 4)]) (g := gName 4) (tt := tYes) (te := tOp rAddS (tOp rIxS (tVar 1) (tOp rModN (tOp rAddN (tVar 2) (tOp rMulN (tC (.int 7)) (tVar 4))) (tC (.int 26)))) (tOp rRepA (tOp rIxS (tVar 1) (tCall spNext [] E0 (tCons (tVar 0) (tCons (tC (.int 26)) tNil)))) (tOp rSubN (tVar 3) (tC (.int 1))))) rfl scLNames.nd (pi_range1 rfl m_range (pa_cons pe_int pa_nil)) (blkOk_by (own := [("k", 4)]) (N := ["draw", "letters", "first", "size", "k"]) (sc := defScope sLNames) (by decide +kernel)) (by exact (fun _ _ _ _ _ => (pg_name (i := 4) scLNames.nd rfl (Or.inl rfl)))) (by exact (fun _ _ _ _ _ => pts_nil))
      (by exact (fun _ _ _ _ _ => (pe_op op_addS (pe_ix (r := rIxS) ix_str (pv 1) (pe_op n_mod (pe_op n_add (pv 2) (pe_op n_mul pe_int (pv 4))) pe_int) (fun _ _ => rfl)) (pe_op op_repA (pe_ix (r := rIxS) ix_str (pv 1) (pe_call GLNext hr (by rfl) gLNext kLNext bLNext .nil pass0 (pa_cons (pv 0) (pa_cons pe_int pa_nil))) (fun _ _ => rfl)) (pe_op n_sub (pv 3) pe_int)))))))))), ?_⟩
    refine ⟨.ref d, rfl, d, c, ns, n, 26, rfl, D, by omega, by omega, by omega, fun r1 H1 a0 a1 k1 D1 => ?_⟩
    obtain ⟨r1, rfl⟩ := Int.eq_ofNat_of_zero_le a0
    refine ⟨.ref d, rfl, d, c, ns, n + 1, 8, rfl, D1, by omega, by omega, by omega, fun r2 H2 b0 b1 k2 D2 => ?_⟩
    obtain ⟨r2, rfl⟩ := Int.eq_ofNat_of_zero_le b0
    refine ⟨1, (r2 : Int), rfl, rfl, (show 2 ≤ sizeLine by decide), fun t ht => ?_⟩
    refine ⟨t, _, rfl, SqT.of upd_same, rfl, .int (r1 : Int), _, rfl, .int (1 + (r2 : Int)), _, rfl, rfl, ?_⟩
    have k3 : Kept (At d) H (upd H2 t (.tup [.int (r1 : Int), .int (1 + (r2 : Int))])) := (k1.trans k2).nu D2 ht
    have D3 : Dr (upd H2 t (.tup [.int (r1 : Int), .int (1 + (r2 : Int))])) d c ns (n + 1 + 1) := D2.new ht
    generalize upd H2 t (.tup [.int (r1 : Int), .int (1 + (r2 : Int))]) = H3 at k3 D3 ⊢
    refine ⟨3, rfl, by decide, by decide, fun L hL => ?_⟩
    have hLH : H L = none := At.free k3 D3 hL
    have hLd := D3.apart hL
    have hLc := D3.apartC hL
    refine lc_range (lo := 0) (n := 3) (fun i H' => Kept (At2 d L) H3 H' ∧ Dr H' d c ns (n + 2 + i) ∧ ∃ ks : List PySem.Str, ks.length = i ∧ H' L = some (.lst (ks.map V.str)) ∧ heads r1 ks)
      ⟨Kept.refl.upd (.inr rfl), D3.keep hLd hLc, [], rfl, upd_same, fun j x z => by cases z⟩ (fun i H' hi h => ?_) (fun H' h => ?_)
    · obtain ⟨k4, D4, ks, e1, e2, e3⟩ := h
      have si : (0 : Int) + (i : Int) = (i : Int) := Int.zero_add _
      have hm : (r1 + 7 * i) % 26 < 26 := Nat.mod_lt _ (by decide)
      refine ⟨rfl, .str letZ, rfl, .int (r1 : Int), rfl, .int (0 + i), rfl, 7, i, rfl, by rw [si], by decide, r1, 7 * i, rfl, rfl, r1 + 7 * i, 26, rfl, rfl, by decide, letZ, _, 97 + (r1 + 7 * i) % 26, rfl, rfl, by rw [let_len]; decide, atI_nat (let_at _ hm), ?_⟩
      refine ⟨.str letZ, rfl, .ref d, rfl, d, c, ns, _, 26, rfl, D4, by omega, by omega, by omega, fun r3 H5 c0 c1 k5 D5 => ?_⟩
      obtain ⟨r3, rfl⟩ := Int.eq_ofNat_of_zero_le c0
      refine ⟨letZ, _, 97 + r3, rfl, rfl, by rw [let_len]; decide, atI_nat (let_at r3 (by omega)), .int (1 + (r2 : Int)), rfl, 1 + r2, 1, by rw [Int.natCast_add]; rfl, rfl, by omega, ⟨#[97 + r3]⟩, 1 + r2 - 1, rfl, rfl, (show 1 ≤ 1000 by decide), by omega, _, _, rfl, rfl, ?_, ?_⟩
      · have := mul_len (97 + r3) (1 + r2 - 1) (by omega)
        rw [sizeLine_eq]
        have e : (⟨#[97 + (r1 + 7 * i) % 26]⟩ : PySem.Str).length = 1 := rfl
        omega
      · refine ⟨ks.map V.str, k5.lst e2 hLd, by rw [List.length_map, sizeLine_eq]; omega, (k4.trans (k5.weak fun b hb => .inl hb)).upd (.inr rfl), (D5.keep hLd hLc).more (by omega), ks ++ [_], by rw [List.length_append, e1]; rfl, by rw [upd_same, List.map_append]; rfl, fun j x z => ?_⟩
        by_cases hj : j < ks.length
        · rw [List.getElem?_append_left hj] at z
          exact e3 j x z
        · rw [List.getElem?_append_right (by omega)] at z
          have hj0 : j - ks.length = 0 := by
            have := (List.getElem?_eq_some_iff.mp z).1
            simp at this; omega
          rw [hj0] at z
          obtain rfl : j = i := by omega
          have z := Option.some.inj z
          rw [← z]
          exact head_app _ _
    · obtain ⟨k4, D4, ks, e1, e2, e3⟩ := h
      exact q L ks H' hLH (k3.drop hLH k4) (D4.more (by omega)) e2 e1 (heads_nodup (by omega) e3 e1)
end
end K11

set_option Elab.async false
set_option linter.all false
set_option maxRecDepth 100000
set_option maxHeartbeats 4000000
namespace K11
open PySem PySem.Spec PyProof.Rows L2
/-! ### expressions drawn -/
def words12 : List V := [.str "add", .str "less", .str "and", .str "or", .str "unlike", .str "same", .str "below", .str "pick", .str "up", .str "down", .str "copy", .str "number"]
def manyD : List (Key × V) := [(Sum.inr "copy", .int 1), (Sum.inr "pick", .int 3)]
def Tail (z : PySem.Str) : Prop := ∀ (x0 x1 x2 : PySem.Str) (v : Nat), ∃ (m : Int) (e : Ex) (zs : List V), (valV (mergeK [] manyD) (Sum.inr z : Key)).getD (.int 2) = .int m ∧ cutV [V.str x0, .str x1, .str x2] none (some m) = zs ∧ e.vs = .str z :: zs ∧ zs ≠ [] ∧ zs.length ≤ 3 ∧ e.ok v ∧ (∀ x ∈ e.names, x = x0 ∨ x = x1 ∨ x = x2)
theorem tail_op (o : Op) : Tail o.name := fun x0 x1 x2 v => ⟨2, .two o x0 x1, [.str x0, .str x1], by cases o <;> rfl, rfl, rfl, (fun z => nomatch z), (show 2 ≤ 3 by decide), trivial, fun x hx => by
  simp only [Ex.names, List.mem_cons, List.not_mem_nil, or_false] at hx
  rcases hx with h | h
  · exact .inl h
  · exact .inr (.inl h)⟩
theorem tail_copy : Tail "copy" := fun x0 x1 x2 v => ⟨1, .copy x0, [.str x0], rfl, rfl, rfl, (fun z => nomatch z), (show 1 ≤ 3 by decide), trivial, fun x hx => by
  simp only [Ex.names, List.mem_cons, List.not_mem_nil, or_false] at hx
  exact .inl hx⟩
theorem tail_pick : Tail "pick" := fun x0 x1 x2 v => ⟨3, .pick x0 x1 x2, [.str x0, .str x1, .str x2], rfl, rfl, rfl, (fun z => nomatch z), (show 3 ≤ 3 by decide), trivial, fun x hx => by
  simp only [Ex.names, List.mem_cons, List.not_mem_nil, or_false] at hx
  exact hx⟩
theorem word_of {r : Nat} (h : r < 14) : ∃ z : PySem.Str, (words12 ++ [.str "add", .str "less"])[r]? = some (.str z) ∧ (z = "number" ∨ (z = "up" ∨ z = "down") ∨ (z ≠ "number" ∧ inV (.str z) [.str "up", .str "down"] = false ∧ Tail z)) := by
  rcases (show r = 0 ∨ r = 1 ∨ r = 2 ∨ r = 3 ∨ r = 4 ∨ r = 5 ∨ r = 6 ∨ r = 7 ∨ r = 8 ∨ r = 9 ∨ r = 10 ∨ r = 11 ∨ r = 12 ∨ r = 13 by omega) with rfl | rfl | rfl | rfl | rfl | rfl | rfl | rfl | rfl | rfl | rfl | rfl | rfl | rfl
  · exact ⟨_, rfl, .inr (.inr ⟨by decide, rfl, tail_op .add⟩)⟩
  · exact ⟨_, rfl, .inr (.inr ⟨by decide, rfl, tail_op .less⟩)⟩
  · exact ⟨_, rfl, .inr (.inr ⟨by decide, rfl, tail_op .and⟩)⟩
  · exact ⟨_, rfl, .inr (.inr ⟨by decide, rfl, tail_op .or⟩)⟩
  · exact ⟨_, rfl, .inr (.inr ⟨by decide, rfl, tail_op .unlike⟩)⟩
  · exact ⟨_, rfl, .inr (.inr ⟨by decide, rfl, tail_op .same⟩)⟩
  · exact ⟨_, rfl, .inr (.inr ⟨by decide, rfl, tail_op .below⟩)⟩
  · exact ⟨_, rfl, .inr (.inr ⟨by decide, rfl, tail_pick⟩)⟩
  · exact ⟨_, rfl, .inr (.inl (.inl rfl))⟩
  · exact ⟨_, rfl, .inr (.inl (.inr rfl))⟩
  · exact ⟨_, rfl, .inr (.inr ⟨by decide, rfl, tail_copy⟩)⟩
  · exact ⟨_, rfl, .inl rfl⟩
  · exact ⟨_, rfl, .inr (.inr ⟨by decide, rfl, tail_op .add⟩)⟩
  · exact ⟨_, rfl, .inr (.inr ⟨by decide, rfl, tail_op .less⟩)⟩
abbrev sLExpr : Stmt := top 33
theorem scLExpr : FnScope ["draw", "wide", "names", "words", "word", "some", "many", "k"] ["draw", "wide", "names"] (defScope sLExpr) := ⟨rfl, rfl, rfl, by decide +kernel, rfl, by decide +kernel, by decide +kernel⟩
def spLExpr (K : PySem.W.Frag) : Sp := fun vs H Q _ => ∃ (d c kn : Addr) (ns : List Int) (n v : Nat) (ks : List PySem.Str), vs = [.ref d, .int (v : Int), .ref kn] ∧ Dr H d c ns n ∧ n ≤ 100000 ∧ 1 ≤ v ∧ v ≤ 4 ∧ SqL K H kn (ks.map V.str) ∧ ks.length = 3 ∧ ¬ kn = d ∧
  ∀ (e : Ex) (p : Addr) H', e.ok v → (∀ x ∈ e.names, x ∈ ks) → H p = none → Kept (At d) H H' → Dr H' d c ns (n + 8) → H' p = some (.tup e.vs) → Q (.ref p) H'
section
variable {P : Program} {w : World} {K : PySem.W.Frag} {mg : PySem.Str → Option Value} {base : Heap} {f fN : Addr} {fd fdN : FuncData}
theorem ok_lexpr (F : FnP K "_law_expr" sLExpr f fd) (GLNext : FnOk P w K mg base CX0 2 fN fdN ["draw", "many"] spNext) (bLNext : Binds K fdN ["draw", "many"] []) (kLNext : PySem.W.keepIn K (.ref fN) = true) (gLNext : mg "_law_next" = some (.ref fN))
    (m_range : mg "range" = none) (m_tuple : mg "tuple" = none) : FnOk P w K mg base CX0 3 f fd ["draw", "wide", "names"] (spLExpr K) := by
  refine F.ok (k := 2) scLExpr (fun vs H Q E h => ?_) (fun cdv A outer s H vs Q E hr h => ?_)
  · obtain ⟨d, c, kn, ns, n, v, ks, rfl, _⟩ := h
    rfl
  · obtain ⟨d, c, kn, ns, n, v, ks, rfl, D, hn, w1, w2, hS, few, nd, q⟩ := h
    have hu := hu_of hr
    refine ⟨_, PSs.nox (pss_cons (ps_set (i := 3) scLExpr.nd rfl (Or.inl rfl) (pe_lst (pa_cons pe_str (pa_cons pe_str (pa_cons pe_str (pa_cons pe_str (pa_cons pe_str (pa_cons pe_str (pa_cons pe_str (pa_cons pe_str (pa_cons pe_str (pa_cons pe_str (pa_cons pe_str (pa_cons pe_str pa_nil))))))))))))))
    (pss_cons (ps_set (i := 4) scLExpr.nd rfl (Or.inl rfl) (pe_ix ix_list (pe_op op_cat (pv 3) (pe_slice sl_list (pv 3) po_none (po_some pe_int))) (pe_call GLNext hr (by rfl) gLNext kLNext bLNext .nil pass0 (pa_cons (pv 0) (pa_cons pe_int pa_nil))) (fun _ _ => rfl)))
    (pss_cons (ps_setLc (i := 5) (own := [("k", 7)]) (g := gName 7) (tt := tYes) (te := tOp (rIxL K) (tVar 2) (tCall spNext [] E0 (tCons (tVar 0) (tCons (tC (.int 3)) tNil)))) rfl scLExpr.nd rfl rfl (sw_true rfl rfl rfl (by decide +kernel)) (pi_range1 rfl m_range (pa_cons pe_int pa_nil)) (blkOk_by (own := [("k", 7)]) (N := ["draw", "wide", "names", "words", "word", "some", "many", "k"]) (sc := defScope sLExpr) (by decide +kernel)) (by exact (fun _ _ _ _ _ => (pg_name (i := 7) scLExpr.nd rfl (Or.inl rfl)))) (by exact (fun _ _ _ _ _ => pts_nil)) (by exact (fun _ _ _ _ _ => (pe_ix (r := rIxL K) ix_list (pv 2) (pe_call GLNext hr (by rfl) gLNext kLNext bLNext .nil pass0 (pa_cons (pv 0) (pa_cons pe_int pa_nil))) (fun _ _ => rfl)))))
    (pss_cons (ps_if (pt_cmpR op_eq (pv 4) pe_str (nomark _))
      (pss_one (ps_ret (pe_tup (pa_cons (pv 4) (pa_cons (pe_call GLNext hr (by rfl) gLNext kLNext bLNext .nil pass0 (pa_cons (pv 0) (pa_cons (pe_op n_bit pe_int (pv 1)) pa_nil))) pa_nil)))))
      pss_nil)
    (pss_cons (ps_if (pt_cmpR op_in_seq (pv 4) (pe_tup (pa_cons pe_str (pa_cons pe_str pa_nil))) (by rfl))
      (pss_one (ps_ret (pe_tup (pa_cons (pv 4) (pa_cons (pe_ix ix_list (pv 5) pe_int (fun _ _ => rfl)) (pa_cons (pe_ix ix_list (pe_lst (pa_cons (pe_call GLNext hr (by rfl) gLNext kLNext bLNext .nil pass0 (pa_cons (pv 0) (pa_cons (pe_op op_add (pv 1) pe_int) pa_nil))) (pa_cons (pe_call GLNext hr (by rfl) gLNext kLNext bLNext .nil pass0 (pa_cons (pv 0) (pa_cons pe_int pa_nil))) pa_nil))) (pe_call GLNext hr (by rfl) gLNext kLNext bLNext .nil pass0 (pa_cons (pv 0) (pa_cons pe_int pa_nil))) (fun _ _ => rfl)) pa_nil))))))
      pss_nil)
    (pss_cons (ps_set (i := 6) scLExpr.nd rfl (Or.inl rfl) (pe_dget2 hu (pe_disp (pps_cons pe_str pe_int (pps_cons pe_str pe_int pps_nil)) (by rfl) (by rfl) (fun z => by cases z) (by decide)) (pv 4) pe_int ⟨rfl, rfl, rfl, rfl⟩))
    (pss_one (ps_ret (pe_op op_catT (pe_tup (pa_cons (pv 4) pa_nil)) (pe_tupleOf (by rfl) m_tuple (pe_slice sl_list (pv 5) po_none (po_some (pv 6))))))))))))), ?_⟩
    have szl := sizeLine_eq
    refine ⟨(show 12 ≤ sizeLine by decide), fun W hW => ?_⟩
    have k1 : Kept (At d) H (upd H W (.lst words12)) := Kept.refl.new hW
    have D1 : Dr (upd H W (.lst words12)) d c ns n := D.new hW
    have eW : upd H W (.lst words12) W = some (.lst words12) := upd_same
    refine ⟨.ref W, rfl, .ref W, rfl, 2, rfl, W, words12, rfl, SqL.of eW, fun l hl => ?_⟩
    refine ⟨W, l, words12, [.str "add", .str "less"], rfl, rfl, by rw [upd_ne (ne_of_none eW hl)]; exact eW, upd_same, (show 14 ≤ sizeLine by decide), fun p hp => ?_⟩
    have k2 : Kept (At d) H (upd (upd (upd H W (.lst words12)) l (.lst [.str "add", .str "less"])) p (.lst (words12 ++ [.str "add", .str "less"]))) := (k1.nu D1 hl).nu (D1.new hl) hp
    have D2 : Dr (upd (upd (upd H W (.lst words12)) l (.lst [.str "add", .str "less"])) p (.lst (words12 ++ [.str "add", .str "less"]))) d c ns n := (D1.new hl).new hp
    have eP : upd (upd (upd H W (.lst words12)) l (.lst [.str "add", .str "less"])) p (.lst (words12 ++ [.str "add", .str "less"])) p = some (.lst (words12 ++ [.str "add", .str "less"])) := upd_same
    have hpd := (D1.new hl (o := .lst [.str "add", .str "less"])).apart hp
    refine ⟨.ref d, rfl, d, c, ns, n, 14, rfl, D2, by omega, by omega, by omega, fun r H3 a0 a1 k3 D3 => ?_⟩
    obtain ⟨r, rfl⟩ := Int.eq_ofNat_of_zero_le a0
    obtain ⟨z, hz, hw⟩ := word_of (r := r) (by omega)
    refine ⟨p, _, r, .str z, rfl, rfl, SqL.of (k3.lst eP hpd), atI_nat hz, ?_⟩
    have k4 := k2.trans k3
    have hS3 := k4.sql hS nd
    refine ⟨3, rfl, by decide, by decide, fun L hL => ?_⟩
    have hLH : H L = none := At.free k4 D3 hL
    have hLd := D3.apart hL
    have hLc := D3.apartC hL
    refine lc_range (lo := 0) (n := 3) (fun i H' => Kept (At2 d L) H3 H' ∧ Dr H' d c ns (n + 1 + i) ∧ ∃ es : List PySem.Str, es.length = i ∧ H' L = some (.lst (es.map V.str)) ∧ ∀ x ∈ es, x ∈ ks)
      ⟨Kept.refl.upd (.inr rfl), D3.keep hLd hLc, [], rfl, upd_same, by simp⟩ (fun i H' hi h => ?_) (fun H' h => ?_)
    · obtain ⟨ki, Di, es, e1, e2, e3⟩ := h
      have hSi := ki.sql2 hL nd hS3
      refine ⟨rfl, .ref kn, rfl, .ref d, rfl, d, c, ns, _, 3, rfl, Di, by omega, by omega, by omega, fun r5 H5 b0 b1 k5 D5 => ?_⟩
      obtain ⟨j, rfl⟩ := Int.eq_ofNat_of_zero_le b0
      have hj : j < ks.length := by omega
      refine ⟨kn, _, j, .str ks[j], rfl, rfl, k5.sql hSi nd, atI_nat (j := j) (by rw [List.getElem?_map, List.getElem?_eq_getElem hj]; rfl), es.map V.str, k5.lst e2 hLd, by rw [List.length_map]; omega, (ki.trans (k5.weak fun b hb => .inl hb)).upd (.inr rfl), D5.keep hLd hLc, es ++ [ks[j]], by rw [List.length_append, e1]; rfl, by rw [upd_same, List.map_append]; rfl, fun x hx => ?_⟩
      rcases List.mem_append.mp hx with h | h
      · exact e3 x h
      · rw [List.mem_singleton.mp h]; exact List.getElem_mem hj
    · obtain ⟨ki, Di, es, e1, e2, e3⟩ := h
      have kH : Kept (At d) H H' := k4.drop hLH ki
      obtain ⟨x0, x1, x2, rfl⟩ : ∃ x0 x1 x2, es = [x0, x1, x2] := by
        match es, e1 with
        | [x0, x1, x2], _ => exact ⟨_, _, _, rfl⟩
      have m0 := e3 x0 (by simp)
      have m1 := e3 x1 (by simp)
      have m2 := e3 x2 (by simp)
      have tl : 2 ^ v ≤ 16 := Nat.pow_le_pow_right (n := 2) (i := v) (j := 4) (by decide) w2
      have tp := Nat.two_pow_pos v
      clear ki hS3 k4 D3 hL
      rcases hw with rfl | hw | ⟨hn1, hin, ht⟩
      · refine ⟨.str "number", rfl, rfl, _, rfl, ite2 (fun _ => ?_) (fun y => absurd (decide_eq_true rfl) y)⟩
        refine ⟨.str "number", rfl, .ref d, rfl, .int v, rfl, v, rfl, rfl, by omega, d, c, ns, _, ((2 ^ v : Nat) : Int), rfl, Di, by omega, by generalize 2 ^ v = u at tl tp ⊢; omega, by generalize 2 ^ v = u at tl tp ⊢; omega, fun r5 H5 b0 b1 k5 D5 => ⟨(show 2 ≤ sizeLine by decide), fun p hp => ?_⟩⟩
        obtain ⟨r5, rfl⟩ := Int.eq_ofNat_of_zero_le b0
        exact q (.num r5) p _ (show r5 < 2 ^ v by exact Int.ofNat_lt.mp b1) (fun x hx => by cases hx) (At.free (kH.trans k5) D5 hp) ((kH.trans k5).nu D5 hp) ((D5.new hp).more (by omega)) upd_same
      · have hud : z ≠ "number" ∧ inV (.str z) [.str "up", .str "down"] = true ∧ ∀ kk : Nat, kk ≤ 11 → ∃ ex : Ex, ex.vs = [.str z, .str x0, .int (kk : Int)] ∧ ex.ok v ∧ ∀ x ∈ ex.names, x ∈ ks := by
          rcases hw with rfl | rfl
          · exact ⟨by decide, rfl, fun kk hk => ⟨.up x0 kk, rfl, hk, fun x hx => by
              simp only [Ex.names, List.mem_cons, List.not_mem_nil, or_false] at hx
              rw [hx]; exact m0⟩⟩
          · exact ⟨by decide, rfl, fun kk hk => ⟨.down x0 kk, rfl, hk, fun x hx => by
              simp only [Ex.names, List.mem_cons, List.not_mem_nil, or_false] at hx
              rw [hx]; exact m0⟩⟩
        obtain ⟨hn1, hin, hex⟩ := hud
        refine ⟨.str z, rfl, rfl, _, rfl, ite2 (fun y => absurd y (noS hn1)) (fun _ => ?_)⟩
        refine ⟨.str z, rfl, (show 2 ≤ sizeLine by decide), fun t ht => ⟨t, _, rfl, .inr (SqT.of upd_same), rfl, rfl, _, rfl, ite2 (fun _ => ?_) (fun y => absurd hin y)⟩⟩
        have kT : Kept (At d) H (upd H' t (.tup [.str "up", .str "down"])) := kH.nu Di ht
        have DT : Dr (upd H' t (.tup [.str "up", .str "down"])) d c ns (n + 1 + 3) := Di.new ht
        have eL : upd H' t (.tup [.str "up", .str "down"]) L = some (.lst [.str x0, .str x1, .str x2]) := by rw [upd_ne (ne_of_none e2 ht)]; exact e2
        generalize upd H' t (.tup [.str "up", .str "down"]) = H4 at kT DT eL ⊢
        refine ⟨.str z, rfl, .ref L, rfl, L, _, 0, .str x0, rfl, rfl, SqL.of eL, atI_nat (j := 0) rfl, ?_⟩
        refine ⟨.ref d, rfl, .int v, rfl, v, 1, rfl, rfl, d, c, ns, _, (v : Int) + 1, rfl, DT, by omega, by omega, by omega, fun r5 H5 b0 b1 k5 D5 => ?_⟩
        refine ⟨.ref d, rfl, d, c, ns, _, 12, rfl, D5, by omega, by omega, by omega, fun r6 H6 c0 c1 k6 D6 => ⟨(show 2 ≤ sizeLine by decide), fun M hM => ?_⟩⟩
        refine ⟨.ref d, rfl, d, c, ns, _, 2, rfl, D6.new hM, by omega, by omega, by omega, fun r7 H7 f0 f1 k7 D7 => ?_⟩
        obtain ⟨r5, rfl⟩ := Int.eq_ofNat_of_zero_le b0
        obtain ⟨r6, rfl⟩ := Int.eq_ofNat_of_zero_le c0
        have kN := (((kT.trans k5).trans k6).nu D6 hM (o := .lst [.int (r5 : Int), .int (r6 : Int)])).trans k7
        have eM : H7 M = some (.lst [.int (r5 : Int), .int (r6 : Int)]) := k7.lst upd_same (D6.apart hM)
        obtain ⟨kk, hkk, hat⟩ : ∃ kk : Nat, kk ≤ 11 ∧ atI [V.int (r5 : Int), .int (r6 : Int)] r7 = some (.int (kk : Int)) := by
          rcases (show r7 = 0 ∨ r7 = 1 by omega) with rfl | rfl
          · exact ⟨r5, by omega, atI_nat (j := 0) rfl⟩
          · exact ⟨r6, by omega, atI_nat (j := 1) rfl⟩
        obtain ⟨ex, hvs, hok, hnm⟩ := hex kk hkk
        refine ⟨M, _, r7, .int (kk : Int), rfl, rfl, SqL.of eM, hat, (show 3 ≤ sizeLine by decide), fun p hp => ?_⟩
        exact q ex p _ hok hnm (At.free kN D7 hp) (kN.nu D7 hp) ((D7.new hp).more (by omega)) (by rw [upd_same, hvs])
      · obtain ⟨m, ex, zs, hm, hcut, hvs, hne, hlen, hok, hnm⟩ := ht x0 x1 x2 v
        refine ⟨.str z, rfl, rfl, _, rfl, ite2 (fun y => absurd y (noS hn1)) (fun _ => ?_)⟩
        refine ⟨.str z, rfl, (show 2 ≤ sizeLine by decide), fun t ht => ⟨t, _, rfl, .inr (SqT.of upd_same), rfl, rfl, _, rfl, ite2 (fun y => absurd (hin.symm.trans y) (by decide)) (fun _ => ?_)⟩⟩
        have kT : Kept (At d) H (upd H' t (.tup [.str "up", .str "down"])) := kH.nu Di ht
        have DT : Dr (upd H' t (.tup [.str "up", .str "down"])) d c ns (n + 1 + 3) := Di.new ht
        have eL : upd H' t (.tup [.str "up", .str "down"]) L = some (.lst [.str x0, .str x1, .str x2]) := by rw [upd_ne (ne_of_none e2 ht)]; exact e2
        generalize upd H' t (.tup [.str "up", .str "down"]) = H4 at kT DT eL ⊢
        intro u hu4
        refine ⟨upd_same, manyD, rfl, (show 2 ≤ 15 by decide), u, rfl, .inl ⟨_, .inl upd_same⟩, .str z, rfl, valV (mergeK [] manyD) (Sum.inr z), DGet.k (k := Sum.inr z) upd_same, ?_⟩
        rw [hm]
        have kU : Kept (At d) H (upd (upd H4 u (.dK [])) u (.dK (mergeK [] manyD))) := (kT.nu DT hu4).new (At.free kT DT hu4)
        have eU : upd (upd H4 u (.dK [])) u (.dK (mergeK [] manyD)) = upd H4 u (.dK (mergeK [] manyD)) := by
          funext b
          by_cases hb : b = u
          · rw [hb, upd_same, upd_same]
          · rw [upd_ne hb, upd_ne hb, upd_ne hb]
        have DU : Dr (upd (upd H4 u (.dK [])) u (.dK (mergeK [] manyD))) d c ns (n + 1 + 3) := by
          rw [eU]; exact DT.new hu4
        have eL2 : upd (upd H4 u (.dK [])) u (.dK (mergeK [] manyD)) L = some (.lst [.str x0, .str x1, .str x2]) := by
          rw [eU, upd_ne (ne_of_none eL hu4)]; exact eL
        generalize upd (upd H4 u (.dK [])) u (.dK (mergeK [] manyD)) = H5 at kU DU eL2 ⊢
        refine ⟨.str z, rfl, (show 1 ≤ sizeLine by decide), fun t2 ht2 => ?_⟩
        refine ⟨.ref L, rfl, .int m, rfl, m, rfl, L, _, rfl, SqL.of (by rw [upd_ne (ne_of_none eL2 ht2)]; exact eL2), fun l hl => ?_⟩
        refine .inl ⟨l, _, rfl, SqL.of upd_same, fun M hM => ?_⟩
        have hcut : cutV (List.map V.str [x0, x1, x2]) none (some m) = zs := hcut
        have tl : t2 ≠ l := fun y => by
          rw [← y, upd_same] at hl
          cases hl
        have e5 : upd (upd H5 t2 (.tup [.str z])) l (.lst (cutV (List.map V.str [x0, x1, x2]) none (some m))) t2 = some (.tup [.str z]) := by rw [upd_ne tl, upd_same]
        have tM : t2 ≠ M := ne_of_none e5 hM
        have kV : Kept (At d) H (upd (upd H5 t2 (.tup [.str z])) l (.lst (cutV (List.map V.str [x0, x1, x2]) none (some m)))) := (kU.nu DU ht2).nu (DU.new ht2) hl
        have DV : Dr (upd (upd H5 t2 (.tup [.str z])) l (.lst (cutV (List.map V.str [x0, x1, x2]) none (some m)))) d c ns (n + 1 + 3) := (DU.new ht2).new hl
        refine ⟨t2, M, [.str z], cutV (List.map V.str [x0, x1, x2]) none (some m), rfl, rfl, SqT.of (by rw [upd_ne tM]; exact e5), SqT.of upd_same, (fun y => nomatch y), by rw [hcut, List.length_singleton]; omega, (fun y => absurd (hcut.symm.trans y) hne), fun _ o ho => ?_⟩
        exact q ex o _ hok (fun x hx => by
          rcases hnm x hx with rfl | rfl | rfl
          · exact m0
          · exact m1
          · exact m2) (At.free (kV.nu DV hM) (DV.new hM) ho) ((kV.nu DV hM).nu (DV.new hM) ho) (((DV.new hM).new ho).more (by omega)) (by rw [upd_same, hcut, hvs]; rfl)
end
end K11

set_option Elab.async false
set_option linter.all false
set_option maxRecDepth 100000
set_option maxHeartbeats 4000000
namespace K11
open PySem PySem.Spec PyProof.Rows L2
/-! ### two dicts with the same objects in them -/
def sameB : V → Bool
  | .ref _ => true
  | v => flatB v
theorem eq_same {A : Around} {s : Shared} {v : V} {u u' : Value} (r : RelV v u) (r' : RelV v u') (f : sameB v = true) : SeqAt.EqAt A s u u' true := by
  cases v with
  | ref p =>
    cases (show u = Value.ref p from r)
    cases (show u' = Value.ref p from r')
    exact SeqAt.EqAt.same _
  | non => exact eqAt_same r r' f
  | bl b => exact eqAt_same r r' f
  | int i => exact eqAt_same r r' f
  | str x => exact eqAt_same r r' f
  | byt b => exact eqAt_same r r' f
  | _ => cases f
theorem hits_same {A : Around} {s : Shared} {ls : List (Key × V)} {us : List (Key × Value)} (hl : KV ls us) : ∀ {ks : List (Key × V)} {ws : List (Key × Value)}, KV ks ws → (∀ p ∈ ks, valV ls p.1 = some p.2 ∧ sameB p.2 = true) → PySem.W.KeqHits A s us ws true
  | [], _, .nil, _ => .nil
  | p :: ks, (k, v) :: ws, .cons h t, all => by
    obtain ⟨e, f⟩ := all p List.mem_cons_self
    have rel : RelO (some p.2) (valueAt us p.1) := by
      rw [← e]
      exact hl.val p.1
    obtain ⟨y, hy, ry⟩ := rel.some_of
    rw [show p.1 = k from h.1] at hy
    have more := hits_same (A := A) (s := s) hl t fun q hq => all q (List.mem_cons_of_mem _ hq)
    exact (.hit hy (eq_same h.2 ry f) more : PySem.W.KeqHits A s us ((k, v) :: ws) (true && true))
def rNeDS : R2 := fun x y H Q => ∃ a b ks, x = .ref a ∧ y = .ref b ∧ H a = some (.dK ks) ∧ H b = some (.dK ks) ∧ (∀ p ∈ ks, valV ks p.1 = some p.2 ∧ sameB p.2 = true) ∧ Q (.bl false) H
theorem op_ne_dictS {X : Cx} (hu : X.A.units < cLine) : OpR X (compareOp .NotEq) rNeDS := by
  intro pins s σ H x y v u Q I rx ry h
  obtain ⟨a, b, ks, rfl, rfl, ea, eb, all, q⟩ := h
  cases (show v = Value.ref a from rx)
  cases (show u = Value.ref b from ry)
  obtain ⟨_, na, wa, ra, da⟩ := I.hok a _ ea
  obtain ⟨_, nb, wb, rb, db⟩ := I.hok b _ eb
  have same : wa.length = wb.length := by rw [← ra.length, ← rb.length]
  exact PySem.W.keq_ne (knd := mixKind X.prog X.w) (r := true) na nb da db hu (fun _ => hits_same rb ra all) (fin_bl I q (by simp [same]))
/-! ### three names, three facts -/
def kv3 (x0 x1 x2 : PySem.Str) (v0 v1 v2 : V) : List (Key × V) := [(Sum.inr x0, v0), (Sum.inr x1, v1), (Sum.inr x2, v2)]
theorem kne {x y : PySem.Str} (h : x ≠ y) : (Sum.inr x : Key) ≠ Sum.inr y := fun z => h (Sum.inr.inj z)
theorem merge3 {x0 x1 x2 : PySem.Str} (h01 : x0 ≠ x1) (h02 : x0 ≠ x2) (h12 : x1 ≠ x2) (v0 v1 v2 : V) : mergeK [] (kv3 x0 x1 x2 v0 v1 v2) = kv3 x0 x1 x2 v0 v1 v2 := by
  simp [mergeK, kv3, putK, h01, h02, h12]
theorem put3 {x0 x1 x2 : PySem.Str} (h01 : x0 ≠ x1) (h02 : x0 ≠ x2) (v0 v1 v2 w : V) : putK (kv3 x0 x1 x2 v0 v1 v2) (Sum.inr x0) w = kv3 x0 x1 x2 w v1 v2 := by
  simp [kv3, putK, Ne.symm h01, Ne.symm h02]
theorem val3 {x0 x1 x2 : PySem.Str} (h01 : x0 ≠ x1) (h02 : x0 ≠ x2) (h12 : x1 ≠ x2) (v0 v1 v2 : V) : valV (kv3 x0 x1 x2 v0 v1 v2) (Sum.inr x0) = some v0 ∧ valV (kv3 x0 x1 x2 v0 v1 v2) (Sum.inr x1) = some v1 ∧ valV (kv3 x0 x1 x2 v0 v1 v2) (Sum.inr x2) = some v2 := by
  refine ⟨valV_pos rfl, ?_, ?_⟩
  · exact (valV_neg (kne h01)).trans (valV_pos rfl)
  · exact (valV_neg (kne h02)).trans ((valV_neg (kne h12)).trans (valV_pos rfl))
theorem all3 {x0 x1 x2 : PySem.Str} (h01 : x0 ≠ x1) (h02 : x0 ≠ x2) (h12 : x1 ≠ x2) (p0 p1 p2 : Addr) : ∀ p ∈ kv3 x0 x1 x2 (.ref p0) (.ref p1) (.ref p2), valV (kv3 x0 x1 x2 (.ref p0) (.ref p1) (.ref p2)) p.1 = some p.2 ∧ sameB p.2 = true := by
  obtain ⟨a, b, c⟩ := val3 h01 h02 h12 (.ref p0) (.ref p1) (.ref p2)
  intro p hp
  simp only [kv3, List.mem_cons, List.not_mem_nil, or_false] at hp
  rcases hp with rfl | rfl | rfl
  · exact ⟨a, rfl⟩
  · exact ⟨b, rfl⟩
  · exact ⟨c, rfl⟩
theorem mask4 : ∀ z, z < 16 → ∀ o, o < 16 → z &&& o = 0 → (z ||| (8 - (o &&& 8))) < 16 ∧ (z ||| (8 - (o &&& 8))) &&& o = 0 ∧ o &&& 8 ≤ 8 := by decide +kernel
theorem seq_if {c : TT} {t u R : TS} {D : Ends} {σ : L2.St} {H : Hp} (J : L2.St → Hp → Prop) (tail : ∀ σ' H', J σ' H' → R D σ' H') (h : (∀ σ' H', J σ' H' → R D σ' H') → tIfS c t u { D with nx := R D } σ H) : tSeq (tIfS c t u) R D σ H := h tail
/-- the facts of three names in a dict -/
structure F3 (H : Hp) (b : Addr) (v : Nat) (x0 x1 x2 : PySem.Str) (p0 p1 p2 : Addr) (f0 f1 f2 : F2) : Prop where
  at_ : H b = some (.dK (kv3 x0 x1 x2 (.ref p0) (.ref p1) (.ref p2)))
  e0 : H p0 = some (.tup (twoF f0))
  e1 : H p1 = some (.tup (twoF f1))
  e2 : H p2 = some (.tup (twoF f2))
theorem F3.kept {H H' : Hp} {b : Addr} {v : Nat} {x0 x1 x2 : PySem.Str} {p0 p1 p2 : Addr} {f0 f1 f2 : F2} (h : F3 H b v x0 x1 x2 p0 p1 p2 f0 f1 f2) (k : Kept None H H') : F3 H' b v x0 x1 x2 p0 p1 p2 f0 f1 f2 :=
  ⟨k.dK h.at_ (fun z => z), k.tup h.e0 (fun z => z), k.tup h.e1 (fun z => z), k.tup h.e2 (fun z => z)⟩
def gOf (x0 x1 : PySem.Str) (f0 f1 f2 : F2) : PySem.Str → F2 := fun x => if x = x0 then f0 else if x = x1 then f1 else f2
theorem F3.fd {K : PySem.W.Frag} {H : Hp} {b : Addr} {v : Nat} {x0 x1 x2 : PySem.Str} {p0 p1 p2 : Addr} {f0 f1 f2 : F2} (h : F3 H b v x0 x1 x2 p0 p1 p2 f0 f1 f2) (h01 : x0 ≠ x1) (h02 : x0 ≠ x2) (h12 : x1 ≠ x2) {ks : List PySem.Str} (hk : ∀ x ∈ ks, x ∈ [x0, x1, x2]) : FD K H b ks (gOf x0 x1 f0 f1 f2) := by
  obtain ⟨a, b', c⟩ := val3 h01 h02 h12 (.ref p0) (.ref p1) (.ref p2)
  refine ⟨_, fun x => if x = x0 then p0 else if x = x1 then p1 else p2, h.at_, fun x hx => ?_⟩
  have m := hk x hx
  simp only [List.mem_cons, List.not_mem_nil, or_false] at m
  unfold gOf
  dsimp only
  rcases m with rfl | rfl | rfl
  · rw [if_pos rfl, if_pos rfl]
    exact ⟨a, SqT.of h.e0⟩
  · rw [if_neg (Ne.symm h01), if_pos rfl, if_neg (Ne.symm h01), if_pos rfl]
    exact ⟨b', SqT.of h.e1⟩
  · rw [if_neg (Ne.symm h02), if_neg (Ne.symm h12), if_neg (Ne.symm h02), if_neg (Ne.symm h12)]
    exact ⟨c, SqT.of h.e2⟩
theorem gOf_fc {w : Nat} {x0 x1 : PySem.Str} {f0 f1 f2 : F2} (h0 : Fc w f0) (h1 : Fc w f1) (h2 : Fc w f2) (x : PySem.Str) : Fc w (gOf x0 x1 f0 f1 f2 x) := by
  unfold gOf
  split
  · exact h0
  · split
    · exact h1
    · exact h2
end K11

set_option Elab.async false
set_option linter.all false
set_option maxRecDepth 100000
set_option maxHeartbeats 8000000
namespace K11
open PySem PySem.Spec PyProof.Rows L2
/-! ### the law -/
abbrev sLaw : Stmt := top 36
theorem scLaw : FnScope ["script", "draw", "k", "wide", "names", "expr", "facts", "zeros", "ones", "due", "handed", "found", "name"] ["script"] (defScope sLaw) := ⟨rfl, rfl, rfl, by decide +kernel, rfl, by decide +kernel, by decide +kernel⟩
def spLaw (K : PySem.W.Frag) : Sp := fun vs H Q _ => ∃ (a : Addr) (ns : List Int), vs = [.ref a] ∧ SqL K H a (ns.map V.int) ∧ ns.length ≤ 63 ∧ ∀ H', Q (.bl true) H'
theorem Dr.ne_tup {H : Hp} {d c b : Addr} {ns : List Int} {n : Nat} {xs : List V} (D : Dr H d c ns n) (e : H b = some (.tup xs)) : ¬ b = d := fun z => by
  obtain ⟨_, _, _, h, _⟩ := D.at_
  rw [z, h] at e
  cases e
theorem sqt_updD {K : PySem.W.Frag} {H : Hp} {p b : Addr} {xs : List V} {kvs : List (Key × V)} {o : HO} (h : SqT K H p xs) (e : H b = some (.dK kvs)) : SqT K (upd H b o) p xs := by
  rcases h with (h | ⟨o', h⟩) | h
  · exact .inl (.inl (by rw [upd_ne (ne_of h e (by intro z; cases z))]; exact h))
  · exact .inl (.inr ⟨o', by rw [upd_ne (ne_of h e (by intro z; cases z))]; exact h⟩)
  · exact .inr h
theorem small_of {v : Nat} {e : Ex} (h : e.ok v) : e.small := by
  cases e with
  | up y k =>
    have h : k ≤ 11 := h
    show k ≤ 100
    omega
  | down y k =>
    have h : k ≤ 11 := h
    show k ≤ 100
    omega
  | _ => trivial
section
variable {P : Program} {w : World} {K : PySem.W.Frag} {mg : PySem.Str → Option Value} {base : Heap} {f : Addr} {fd : FuncData}
theorem ok_law (F : FnP K "law" sLaw f fd) (dB : Def P w K mg base 1 "_law_begin" ["script"] (spBegin K)) (dN : Def P w K mg base 2 "_law_next" ["draw", "many"] spNext) (dF : Def P w K mg base 3 "_law_facts" ["draw", "wide"] spLFacts) (dM : Def P w K mg base 3 "_law_names" ["draw"] spLNames)
    (dE : Def P w K mg base 3 "_law_expr" ["draw", "wide", "names"] (spLExpr K)) (dD : Def P w K mg base 2 "_law_due" ["wide", "expr", "facts"] (spLDue K)) (dX : Def P w K mg base 4 "expr_facts" ["wide", "expr", "facts"] (spExprF K))
    (m_range : mg "range" = none) (m_min : mg "min" = none) (m_len : mg "len" = none) (m_dict : mg "dict" = none) (m_repr : mg "repr" = none) : FnG P w K mg base 5 f fd ["script"] (spLaw K) := by
  obtain ⟨fB, fdB, GB, bB, kB, gB⟩ := dB
  obtain ⟨fN, fdN, GN, bN, kN, gN⟩ := dN
  obtain ⟨fF, fdF, GF, bF, kF, gF⟩ := dF
  obtain ⟨fM, fdM, GM, bM, kM, gM⟩ := dM
  obtain ⟨fE, fdE, GE, bE, kE, gE⟩ := dE
  obtain ⟨fD, fdD, GD, bD, kD, gD⟩ := dD
  obtain ⟨fX, fdX, GX, bX, kX, gX⟩ := dX
  refine fnG_of (k := 4) F scLaw (fun vs H Q E h => ?_) (fun cdv A outer s H vs Q E gd hr h => ?_)
  · obtain ⟨a, ns, rfl, _⟩ := h
    rfl
  · obtain ⟨a, ns, rfl, hS, hl, q⟩ := h
    have hu := hu_of hr
    have hr1 := hr.mono (show 1 ≤ 4 by decide)
    have hr2 := hr.mono (show 2 ≤ 4 by decide)
    have hr3 := hr.mono (show 3 ≤ 4 by decide)
    refine ⟨_, PSs.nox (pss_cons (ps_set (i := 1) scLaw.nd rfl (Or.inr rfl) (pe_call GB hr1 (by rfl) gB kB bB .nil pass0 (pa_cons (pv 0) pa_nil)))
    (pss_cons (ps_for PassesOwn.never rfl (pi_range1 rfl m_range (pa_cons (pe_op op_addE (pe_callB (call_min2 rfl) (by rfl) m_min (by decide +kernel) (pa_cons pe_int (pa_cons (pe_callB call_len_seq (by rfl) m_len PySem.boot_len (pa_cons (pv 0) pa_nil)) pa_nil))) pe_int) pa_nil)) (pg_name (i := 2) scLaw.nd rfl (Or.inl rfl))
      (pss_cons (ps_set (i := 3) scLaw.nd rfl (Or.inr rfl) (pe_op op_addE pe_int (pe_call GN hr2 (by rfl) gN kN bN .nil pass0 (pa_cons (pv 1) (pa_cons pe_int pa_nil)))))
      (pss_cons (ps_set (i := 4) scLaw.nd rfl (Or.inl rfl) (pe_call GM hr3 (by rfl) gM kM bM .nil pass0 (pa_cons (pv 1) pa_nil)))
      (pss_cons (ps_set (i := 5) scLaw.nd rfl (Or.inl rfl) (pe_call GE hr3 (by rfl) gE kE bE .nil pass0 (pa_cons (pv 1) (pa_cons (pv 3) (pa_cons (pv 4) pa_nil)))))
      (pss_cons (ps_set (i := 6) scLaw.nd rfl (Or.inl rfl) (pe_callTy (call_dictP rfl) (by rfl) m_dict (by decide +kernel) (pa_cons (pe_lc (own := [("name", 12)]) (g := gName 12) (tt := tYes) (te := tTup (tCons (tVar 12) (tCons (tCall spLFacts [] E0 (tCons (tVar 1) (tCons (tVar 3) tNil))) tNil))) rfl scLaw.nd (pi_list (pv 4)) (blkOk_by (own := [("name", 12)]) (N := ["script", "draw", "k", "wide", "names", "expr", "facts", "zeros", "ones", "due", "handed", "found", "name"]) (sc := defScope sLaw) (by decide +kernel)) (by exact (fun _ _ _ _ _ => (pg_name (i := 12) scLaw.nd rfl (Or.inl rfl)))) (by exact (fun _ _ _ _ _ => pts_nil)) (by exact (fun _ _ _ _ _ => (pe_tup (pa_cons (pv 12) (pa_cons (pe_call GF hr3 (by rfl) gF kF bF .nil pass0 (pa_cons (pv 1) (pa_cons (pv 3) pa_nil))) pa_nil)))))) pa_nil)))
      (pss_cons (ps_if (PW.pt (pw_and (pt_cmpR op_eq (pe_ix ix_tup (pv 5) pe_int (fun _ _ => rfl)) pe_str (nomark _)) (pw_and1 (pt_cmpR op_eq (pv 3) pe_int (nomark _)))))
        (pss_cons (ps_asg (pe_dget hu (pv 6) (pe_ix ix_list (pv 4) pe_int (fun _ _ => rfl)) (fun _ _ => rfl)) (pg_tup rfl (pgs_cons (pg_name (i := 7) scLaw.nd rfl (Or.inl rfl)) (pgs_cons (pg_name (i := 8) scLaw.nd rfl (Or.inl rfl)) pgs_nil))))
        (pss_one (ps_dput hu (pv 6) (pe_ix ix_list (pv 4) pe_int (fun _ _ => rfl)) (pe_tup (pa_cons (pe_op n_or (pv 7) (pe_op n_sub pe_int (pe_op n_and (pv 8) pe_int))) (pa_cons (pv 8) pa_nil))) rfl)))
        pss_nil)
      (pss_cons (ps_par (i := 9) (j := 10) (by rfl) scLaw.nd rfl rfl (by decide) rfl rfl (pa_cons (pe_call GD hr2 (by rfl) gD kD bD .nil pass0 (pa_cons (pv 3) (pa_cons (pv 5) (pa_cons (pv 6) pa_nil)))) (pa_cons (pe_callTy call_dictD (by rfl) m_dict (by decide +kernel) (pa_cons (pv 6) pa_nil)) pa_nil)) (by rfl))
      (pss_cons (ps_set (i := 11) scLaw.nd rfl (Or.inl rfl) (pe_call GX hr (by rfl) gX kX bX .nil pass0 (pa_cons (pv 3) (pa_cons (pv 5) (pa_cons (pv 10) pa_nil)))))
      (pss_cons (ps_if (PW.pt (pw_or (pt_cmpR op_ne (pe_callB (call_reprL gd hr) (by rfl) m_repr (by decide +kernel) (pa_cons (pv 11) pa_nil)) (pe_callB (call_reprL gd hr) (by rfl) m_repr (by decide +kernel) (pa_cons (pv 9) pa_nil)) (nomark _)) (pw_or (pt_cmpR op_ne (pe_callB (call_reprL gd hr) (by rfl) m_repr (by decide +kernel) (pa_cons (pe_call GX hr (by rfl) gX kX bX .nil pass0 (pa_cons (pv 3) (pa_cons (pv 5) (pa_cons (pv 10) pa_nil)))) pa_nil)) (pe_callB (call_reprL gd hr) (by rfl) m_repr (by decide +kernel) (pa_cons (pv 9) pa_nil)) (nomark _)) (pw_or1 (pt_cmpR (op_ne_dictS (Nat.lt_of_succ_lt hu)) (pv 10) (pv 6) (nomark _))))))
        (pss_one (ps_ret pe_bl))
        pss_nil)
      (pss_cons (ps_expr (pe_dclear (pv 10)))
      (pss_one (ps_if (PW.pt (pw_or (pt_cmpR op_ne (pe_callB (call_reprL gd hr) (by rfl) m_repr (by decide +kernel) (pa_cons (pv 11) pa_nil)) (pe_callB (call_reprL gd hr) (by rfl) m_repr (by decide +kernel) (pa_cons (pv 9) pa_nil)) (nomark _)) (pw_or1 (pt_cmpR op_ne (pe_callB (call_reprL gd hr) (by rfl) m_repr (by decide +kernel) (pa_cons (pe_call GX hr (by rfl) gX kX bX .nil pass0 (pa_cons (pv 3) (pa_cons (pv 5) (pa_cons (pv 6) pa_nil)))) pa_nil)) (pe_callB (call_reprL gd hr) (by rfl) m_repr (by decide +kernel) (pa_cons (pv 9) pa_nil)) (nomark _)))))
        (pss_one (ps_ret pe_bl))
        pss_nil))))))))))))
    (pss_one (ps_ret pe_bl)))), ?_⟩
    refine ⟨.ref a, rfl, a, ns, rfl, hS, hl, fun d c H1 nd k1 D1 => ?_⟩
    have hS1 : SqL K H1 a (ns.map V.int) := k1.sql hS (fun z => z)
    obtain ⟨m, hm, hm2⟩ : ∃ m : Nat, (if (((ns.map V.int).length : Nat) : Int) < 30 then (((ns.map V.int).length : Nat) : Int) else 30) + 3 = (m : Int) ∧ m ≤ 33 := by
      have hL : (ns.map V.int).length = ns.length := List.length_map ..
      rw [hL]
      by_cases h : ((ns.length : Nat) : Int) < 30
      · rw [if_pos h]; exact ⟨ns.length + 3, by omega, by omega⟩
      · rw [if_neg h]; exact ⟨33, by omega, by omega⟩
    refine ⟨.ref a, rfl, a, ns.map V.int, rfl, .inl hS1, 30, ((ns.map V.int).length : Int), rfl, _, 3, (m : Int), rfl, rfl, hm, (m : Int), rfl, by omega, by omega, ?_⟩
    refine for_range (lo := 0) (n := m) (fun i σ H' => Dr H' d c (ns ++ [0]) (200 * i) ∧ ∃ y2 y3 y4 y5 y6 y7 y8 y9 y10 y11, σ = [some (.ref a), some (.ref d), y2, y3, y4, y5, y6, y7, y8, y9, y10, y11, none]) ⟨D1, none, none, none, none, none, none, none, none, none, none, rfl⟩ (fun i σ H2 hi h => ?_) (fun σ H2 h => ?_)
    · obtain ⟨D2, y2, y3, y4, y5, y6, y7, y8, y9, y10, y11, rfl⟩ := h
      refine ⟨.ref d, rfl, d, c, ns ++ [0], 200 * i, 4, rfl, D2, by omega, by omega, by omega, fun r H3 r0 r1 k3 D3 => ?_⟩
      obtain ⟨r, rfl⟩ := Int.eq_ofNat_of_zero_le r0
      obtain ⟨v, hv, hv1, hv2⟩ : ∃ v : Nat, (1 : Int) + (r : Int) = (v : Int) ∧ 1 ≤ v ∧ v ≤ 4 := ⟨1 + r, by omega, by omega, by omega⟩
      refine ⟨1, (r : Int), (v : Int), rfl, rfl, hv, ?_⟩
      refine ⟨.ref d, rfl, d, c, ns ++ [0], 200 * i + 1, rfl, D3, by omega, fun l ks H4 hl3 k4 D4 el hk3 hnd => ?_⟩
      obtain ⟨x0, x1, x2, rfl⟩ : ∃ x0 x1 x2, ks = [x0, x1, x2] := by
        match ks, hk3 with
        | [x0, x1, x2], _ => exact ⟨_, _, _, rfl⟩
      have hx : (x0 ≠ x1 ∧ x0 ≠ x2) ∧ x1 ≠ x2 := by simpa using hnd
      obtain ⟨⟨h01, h02⟩, h12⟩ := hx
      have ndl := D3.apart hl3
      refine ⟨.ref d, rfl, .int v, rfl, .ref l, rfl, d, c, l, ns ++ [0], 200 * i + 1 + 5, v, [x0, x1, x2], rfl, D4, by omega, hv1, hv2, SqL.of el, rfl, ndl, fun e p H5 hok hnm hp4 k5 D5 ep => ?_⟩
      have el5 := k5.lst el ndl
      clear hS hS1 k1 k3 k4 k5 D1 D2 D3 D4 el hl3 hnd hk3
      refine ⟨.ref l, rfl, l, rfl, ⟨_, SqL.of el5⟩, fun L hL => ?_⟩
      have hLd := D5.apart hL
      have hLc := D5.apartC hL
      refine lc_list (K := K) (a := l) (xs := [x0, x1, x2].map V.str) (fun i' H' => Kept (At2 d L) H5 H' ∧ Dr H' d c (ns ++ [0]) (200 * i + 14 + 30 * i') ∧ ∃ rs : List (Addr × Addr × F2), rs.length = i' ∧ H' L = some (.lst (rs.map fun r => V.ref r.1)) ∧ ∀ (j : Nat) (r : Addr × Addr × F2) (x : PySem.Str), rs[j]? = some r → [x0, x1, x2][j]? = some x → H' r.1 = some (.tup [.str x, .ref r.2.1]) ∧ H' r.2.1 = some (.tup (twoF r.2.2)) ∧ Fc v r.2.2)
        ⟨Kept.refl.upd (.inr rfl), D5.keep hLd hLc, [], rfl, upd_same, fun j r x z => by cases z⟩ (fun i' H' _ h => h.1.sql2 hL ndl (SqL.of el5)) (fun i' x' H' hx' h => ?_) (fun H6 h => ?_)
      · obtain ⟨k6, D6, rs, e1, e2, e3⟩ := h
        rw [List.getElem?_map, Option.map_eq_some_iff] at hx'
        obtain ⟨x, hx, rfl⟩ := hx'
        have i3 : i' < 3 := (List.getElem?_eq_some_iff.mp hx).1
        refine ⟨rfl, .str x, rfl, .ref d, rfl, .int v, rfl, d, c, ns ++ [0], 200 * i + 14 + 30 * i', v, rfl, D6, by omega, hv1, by omega, fun pf ff H7 fc hpf k7 D7 epf => ⟨(show 2 ≤ sizeLine by decide), fun t ht => ?_⟩⟩
        have eL7 := k7.lst e2 hLd
        have eL8 : upd H7 t (.tup [.str x, .ref pf]) L = some (.lst (rs.map fun r => V.ref r.1)) := by rw [upd_ne (ne_of_none eL7 ht)]; exact eL7
        have et8 : upd H7 t (.tup [.str x, .ref pf]) t = some (.tup [.str x, .ref pf]) := upd_same
        have epf8 : upd H7 t (.tup [.str x, .ref pf]) pf = some (.tup (twoF ff)) := by rw [upd_ne (ne_of_none epf ht)]; exact epf
        have D8 : Dr (upd H7 t (.tup [.str x, .ref pf])) d c (ns ++ [0]) (200 * i + 14 + 30 * i' + 30) := D7.new ht
        have k8 : Kept (At d) H' (upd H7 t (.tup [.str x, .ref pf])) := k7.nu D7 ht
        generalize upd H7 t (.tup [.str x, .ref pf]) = H8 at eL8 et8 epf8 D8 k8 ⊢
        refine ⟨rs.map fun r => V.ref r.1, eL8, by rw [List.length_map, sizeLine_eq]; omega, (k6.trans (k8.weak fun b hb => .inl hb)).upd (.inr rfl), (D8.keep hLd hLc).more (by omega), rs ++ [(t, pf, ff)], by rw [List.length_append, e1]; rfl, by rw [upd_same, List.map_append]; rfl, fun j r y z zy => ?_⟩
        have tupL : ∀ {b : Addr} {xs : List V}, H8 b = some (.tup xs) → upd H8 L (.lst ((rs.map fun r => V.ref r.1) ++ [.ref t])) b = some (.tup xs) := fun {b xs} h => by
          rw [upd_ne (ne_of h eL8 (by intro z; cases z))]; exact h
        by_cases hj : j < rs.length
        · rw [List.getElem?_append_left hj] at z
          obtain ⟨a1, a2, a3⟩ := e3 j r y z zy
          exact ⟨tupL (k8.tup a1 (D6.ne_tup a1)), tupL (k8.tup a2 (D6.ne_tup a2)), a3⟩
        · rw [List.getElem?_append_right (by omega)] at z
          have hj0 : j - rs.length = 0 := by
            have := (List.getElem?_eq_some_iff.mp z).1
            simp at this; omega
          rw [hj0] at z
          obtain rfl : j = i' := by omega
          cases z
          rw [hx] at zy
          cases zy
          exact ⟨tupL et8, tupL epf8, fc⟩
      · obtain ⟨k6, D6, rs, e1, e2, e3⟩ := h
        obtain ⟨⟨t0, p0, f0⟩, ⟨t1, p1, f1⟩, ⟨t2, p2, f2⟩, rfl⟩ : ∃ r0 r1 r2, rs = [r0, r1, r2] := by
          match rs, e1 with
          | [r0, r1, r2], _ => exact ⟨_, _, _, rfl⟩
        obtain ⟨a0, b0, c0⟩ := e3 0 _ x0 rfl rfl
        obtain ⟨a1, b1, c1⟩ := e3 1 _ x1 rfl rfl
        obtain ⟨a2, b2, c2⟩ := e3 2 _ x2 rfl rfl
        have el6 := k6.sql2 hL ndl (SqL.of (K := K) el5)
        have ep6 := k6.tup ep (fun z => by
          rcases z with z | z
          · exact D5.ne_tup ep z
          · exact ne_of_none ep hL z)
        refine ⟨L, [t0, t1, t2], kv3 x0 x1 x2 (.ref p0) (.ref p1) (.ref p2), rfl, SqL.of e2, .cons (SqT.of a0) (.cons (SqT.of a1) (.cons (SqT.of a2) .nil)), fun b hb => ?_⟩
        rw [merge3 h01 h02 h12]
        have FB : F3 (upd H6 b (.dK (kv3 x0 x1 x2 (.ref p0) (.ref p1) (.ref p2)))) b v x0 x1 x2 p0 p1 p2 f0 f1 f2 := ⟨upd_same, by rw [upd_ne (ne_of_none b0 hb)]; exact b0, by rw [upd_ne (ne_of_none b1 hb)]; exact b1, by rw [upd_ne (ne_of_none b2 hb)]; exact b2⟩
        have DB : Dr (upd H6 b (.dK (kv3 x0 x1 x2 (.ref p0) (.ref p1) (.ref p2)))) d c (ns ++ [0]) (200 * i + 110) := (D6.new hb).more (by show 200 * i + 14 + 30 * 3 ≤ _; omega)
        have elB := sql_new (o := .dK (kv3 x0 x1 x2 (.ref p0) (.ref p1) (.ref p2))) el6 hb
        have epB : upd H6 b (.dK (kv3 x0 x1 x2 (.ref p0) (.ref p1) (.ref p2))) p = some (.tup e.vs) := by rw [upd_ne (ne_of_none ep6 hb)]; exact ep6
        generalize upd H6 b (.dK (kv3 x0 x1 x2 (.ref p0) (.ref p1) (.ref p2))) = H7 at FB DB elB epB ⊢
        have hbd := D6.apart hb
        have hbc := D6.apartC hb
        clear a0 a1 a2 b0 b1 b2 e3 e2 e1 k6 D6 el6 ep6 hb hL D5 ep el5
        show gName 6 (.ref b) _ H7 _
        unfold gName
        dsimp only
        refine seq_if (J := fun σ' H' => ∃ (q0 : Addr) (g0 : F2) (z7 z8 : Option V), σ' = [some (.ref a), some (.ref d), some (.int (0 + (i : Int))), some (.int (v : Int)), some (.ref l), some (.ref p), some (.ref b), z7, z8, y9, y10, y11, none] ∧ Dr H' d c (ns ++ [0]) (200 * i + 110) ∧ H' p = some (.tup e.vs) ∧ Fc v g0 ∧ F3 H' b v x0 x1 x2 q0 p1 p2 g0 f1 f2) (fun σ' H8 h => ?_) (fun tail => ?_)
        · obtain ⟨q0, g0, z7, z8, rfl, DT, epT, fc0, FT⟩ := h
          have fcg : ∀ x ∈ e.names, Fc v (gOf x0 x1 g0 f1 f2 x) := fun x _ => gOf_fc fc0 c1 c2 x
          have hdue := due_eq hv1 hok fcg
          obtain ⟨b1, b2, _, _⟩ := (found_tells hv1 hok fcg).1
          rw [← hdue] at b1 b2
          have tl : 2 ^ v ≤ 16 := Nat.pow_le_pow_right (n := 2) (i := v) (j := 4) (by decide) hv2
          refine ⟨.int v, rfl, .ref p, rfl, .ref b, rfl, v, p, b, e, gOf x0 x1 g0 f1 f2, rfl, hv1, hv2, SqT.of epT, FT.fd h01 h02 h12 hnm, hok, fcg, fun t1 H9 k9 s9 => ?_⟩
          rw [hdue] at s9 b1 b2
          have FT9 := FT.kept k9
          have ep9 := k9.tup epT (fun z => z)
          have D9 := DT.stay k9
          clear hdue FT epT DT k9
          generalize hff : exF (most v) (gOf x0 x1 g0 f1 f2) e = ff at s9 b1 b2
          obtain ⟨sh, len⟩ := dF_ok (z := ff.1) (o := ff.2) (by omega) (by omega)
          refine ⟨.ref b, rfl, b, kv3 x0 x1 x2 (.ref q0) (.ref p1) (.ref p2), rfl, .inl FT9.at_, fun u hu9 => ⟨_, _, rfl, ?_⟩⟩
          have FU : F3 (upd H9 u (.dK (kv3 x0 x1 x2 (.ref q0) (.ref p1) (.ref p2)))) u v x0 x1 x2 q0 p1 p2 g0 f1 f2 := ⟨upd_same, by rw [upd_ne (ne_of_none FT9.e0 hu9)]; exact FT9.e0, by rw [upd_ne (ne_of_none FT9.e1 hu9)]; exact FT9.e1, by rw [upd_ne (ne_of_none FT9.e2 hu9)]; exact FT9.e2⟩
          have FV : F3 (upd H9 u (.dK (kv3 x0 x1 x2 (.ref q0) (.ref p1) (.ref p2)))) b v x0 x1 x2 q0 p1 p2 g0 f1 f2 := FT9.kept (Kept.refl.new hu9)
          have s10 : SqT K (upd H9 u (.dK (kv3 x0 x1 x2 (.ref q0) (.ref p1) (.ref p2)))) t1 (twoF ff) := sqt_new s9 hu9
          have ep10 : upd H9 u (.dK (kv3 x0 x1 x2 (.ref q0) (.ref p1) (.ref p2))) p = some (.tup e.vs) := by rw [upd_ne (ne_of_none ep9 hu9)]; exact ep9
          have D10 : Dr (upd H9 u (.dK (kv3 x0 x1 x2 (.ref q0) (.ref p1) (.ref p2)))) d c (ns ++ [0]) (200 * i + 110) := D9.new hu9
          have hub : b ≠ u := ne_of_none FT9.at_ hu9
          have hud := D9.apart hu9
          have huc := D9.apartC hu9
          generalize upd H9 u (.dK (kv3 x0 x1 x2 (.ref q0) (.ref p1) (.ref p2))) = H10 at FU FV s10 ep10 D10 ⊢
          clear FT9 s9 ep9 D9 hu9
          refine ⟨.int v, rfl, .ref p, rfl, .ref u, rfl, v, p, u, e, gOf x0 x1 g0 f1 f2, rfl, by omega, SqT.of ep10, FU.fd h01 h02 h12 hnm, small_of hok, fcg, fun t2 H11 k11 s11 => ?_⟩
          rw [hff] at s11
          have FU := FU.kept k11
          have FV := FV.kept k11
          have s10 := k11.sqt s10 (fun z => z)
          have ep11 := k11.tup ep10 (fun z => z)
          have D11 := D10.stay k11
          clear ep10 D10 k11
          -- told, and told again
          refine ⟨.ref t2, rfl, t2, dF ff.1 ff.2, rfl, dpTwo s11, sh, rfl, by show 1 ≤ 100; decide, len, .ref t1, rfl, t1, dF ff.1 ff.2, rfl, dpTwo s10, sh, rfl, by show 1 ≤ 100; decide, len, rfl, ?_⟩
          rw [decide_eq_true rfl]
          refine ⟨_, rfl, iteF ?_⟩
          refine ⟨.int v, rfl, .ref p, rfl, .ref u, rfl, v, p, u, e, gOf x0 x1 g0 f1 f2, rfl, by omega, SqT.of ep11, FU.fd h01 h02 h12 hnm, small_of hok, fcg, fun t3 H12 k12 s12 => ?_⟩
          rw [hff] at s12
          have FU := FU.kept k12
          have FV := FV.kept k12
          have s10 := k12.sqt s10 (fun z => z)
          have s11 := k12.sqt s11 (fun z => z)
          have ep12 := k12.tup ep11 (fun z => z)
          have D12 := D11.stay k12
          clear ep11 D11 k12
          refine ⟨t3, dF ff.1 ff.2, rfl, dpTwo s12, sh, rfl, by show 1 ≤ 100; decide, len, .ref t1, rfl, t1, dF ff.1 ff.2, rfl, dpTwo s10, sh, rfl, by show 1 ≤ 100; decide, len, rfl, ?_⟩
          rw [decide_eq_true rfl]
          refine ⟨_, rfl, iteF ?_⟩
          refine ⟨.ref u, rfl, .ref b, rfl, u, b, _, rfl, rfl, FU.at_, FV.at_, all3 h01 h02 h12 q0 p1 p2, _, rfl, iteF ?_⟩
          -- what was handed in is emptied
          refine ⟨.ref u, rfl, .inr (.inr (.inl ⟨rfl, .inl ⟨_, FU.at_⟩⟩)), u, _, rfl, rfl, FU.at_, ?_⟩
          have tupU : ∀ {q : Addr} {xs : List V}, H12 q = some (.tup xs) → upd H12 u (.dK []) q = some (.tup xs) := fun {q xs} h => by
            rw [upd_ne (ne_of h FU.at_ (by intro z; cases z))]; exact h
          have FW : F3 (upd H12 u (.dK [])) b v x0 x1 x2 q0 p1 p2 g0 f1 f2 := ⟨by rw [upd_ne hub]; exact FV.at_, tupU FV.e0, tupU FV.e1, tupU FV.e2⟩
          have s10 := sqt_updD (o := .dK []) s10 FU.at_
          have s11 := sqt_updD (o := .dK []) s11 FU.at_
          have ep13 := tupU ep12
          have D13 : Dr (upd H12 u (.dK [])) d c (ns ++ [0]) (200 * i + 110) := D12.keep hud huc
          generalize upd H12 u (.dK []) = H13 at FW s10 s11 ep13 D13 ⊢
          refine ⟨.ref t2, rfl, t2, dF ff.1 ff.2, rfl, dpTwo s11, sh, rfl, by show 1 ≤ 100; decide, len, .ref t1, rfl, t1, dF ff.1 ff.2, rfl, dpTwo s10, sh, rfl, by show 1 ≤ 100; decide, len, rfl, ?_⟩
          rw [decide_eq_true rfl]
          refine ⟨_, rfl, iteF ?_⟩
          refine ⟨.int v, rfl, .ref p, rfl, .ref b, rfl, v, p, b, e, gOf x0 x1 g0 f1 f2, rfl, by omega, SqT.of ep13, FW.fd h01 h02 h12 hnm, small_of hok, fcg, fun t4 H14 k14 s14 => ?_⟩
          rw [hff] at s14
          have s10 := k14.sqt s10 (fun z => z)
          refine ⟨t4, dF ff.1 ff.2, rfl, dpTwo s14, sh, rfl, by show 1 ≤ 100; decide, len, .ref t1, rfl, t1, dF ff.1 ff.2, rfl, dpTwo s10, sh, rfl, by show 1 ≤ 100; decide, len, rfl, ?_⟩
          rw [decide_eq_true rfl]
          refine ⟨_, rfl, iteF ?_⟩
          exact ⟨(D13.stay k14).more (by omega), _, _, _, _, _, _, _, _, _, _, rfl⟩
        · have same : ∀ (z7 z8 : Option V), ∃ (q0 : Addr) (g0 : F2) (z7' z8' : Option V), [some (.ref a), some (.ref d), some (.int (0 + (i : Int))), some (.int (v : Int)), some (.ref l), some (.ref p), some (.ref b), z7, z8, y9, y10, y11, none] = [some (V.ref a), some (.ref d), some (.int (0 + (i : Int))), some (.int (v : Int)), some (.ref l), some (.ref p), some (.ref b), z7', z8', y9, y10, y11, none] ∧ Dr H7 d c (ns ++ [0]) (200 * i + 110) ∧ H7 p = some (.tup e.vs) ∧ Fc v g0 ∧ F3 H7 b v x0 x1 x2 q0 p1 p2 g0 f1 f2 := fun z7 z8 => ⟨p0, f0, z7, z8, rfl, DB, epB, c0, FB⟩
          refine ⟨.ref p, rfl, p, e.vs, 0, .str e.word, rfl, rfl, SqT.of epB, atI_nat (j := 0) rfl, rfl, _, rfl, ite2 (fun _ => ?_) (fun _ => iteF (tail _ _ (same y7 y8)))⟩
          refine ⟨.int v, rfl, rfl, _, rfl, ite2 (fun z4 => ?_) (fun _ => tail _ _ (same y7 y8))⟩
          obtain rfl : v = 4 := by
            have := V.int.inj (of_decide_eq_true z4)
            omega
          obtain ⟨q1, q2, q3⟩ := mask4 f0.1 c0.hz f0.2 c0.ho c0.no
          obtain ⟨w0, _, _⟩ := val3 h01 h02 h12 (.ref p0) (.ref p1) (.ref p2)
          refine ⟨.ref b, rfl, .ref l, rfl, l, _, 0, .str x0, rfl, rfl, elB, atI_nat (j := 0) rfl, b, .ref p0, rfl, (by rw [← w0]; exact DGet.k (k := Sum.inr x0) FB.at_), p0, _, rfl, SqT.of FB.e0, rfl, .int (f0.1 : Int), _, rfl, .int (f0.2 : Int), _, rfl, rfl, ?_⟩
          refine ⟨.int (f0.1 : Int), rfl, .int (f0.2 : Int), rfl, f0.2, 8, rfl, rfl, 8, f0.2 &&& 8, rfl, rfl, q3, f0.1, 8 - (f0.2 &&& 8), rfl, rfl, .int (f0.2 : Int), rfl, (show 2 ≤ sizeLine by decide), fun t ht => ?_⟩
          have eb8 : upd H7 t (.tup [.int ((f0.1 ||| (8 - (f0.2 &&& 8)) : Nat) : Int), .int (f0.2 : Int)]) b = some (.dK (kv3 x0 x1 x2 (.ref p0) (.ref p1) (.ref p2))) := by rw [upd_ne (ne_of_none FB.at_ ht)]; exact FB.at_
          refine ⟨.ref b, rfl, .ref l, rfl, l, _, 0, .str x0, rfl, rfl, sql_new elB ht, atI_nat (j := 0) rfl, b, _, rfl, DPut.k (k := Sum.inr x0) eb8 (show 3 < sizeLine by decide), tail _ _ ⟨t, (f0.1 ||| (8 - (f0.2 &&& 8)), f0.2), _, _, rfl, ?_, ?_, ⟨q1, c0.ho, q2⟩, ?_⟩⟩
          · exact (DB.new ht).keep hbd hbc
          · rw [upd_ne (ne_of epB FB.at_ (by intro z; cases z)), upd_ne (ne_of_none epB ht)]
            exact epB
          · have far : ∀ {q : Addr} {xs : List V}, H7 q = some (.tup xs) → upd (upd H7 t (.tup [.int ((f0.1 ||| (8 - (f0.2 &&& 8)) : Nat) : Int), .int (f0.2 : Int)])) b (.dK (putK (kv3 x0 x1 x2 (.ref p0) (.ref p1) (.ref p2)) (Sum.inr x0) (.ref t))) q = some (.tup xs) := fun {q xs} h => by
              rw [upd_ne (ne_of h FB.at_ (by intro z; cases z)), upd_ne (ne_of_none h ht)]; exact h
            refine ⟨?_, ?_, far FB.e1, far FB.e2⟩
            · rw [upd_same, put3 h01 h02]
            · rw [upd_ne (Ne.symm (ne_of_none FB.at_ ht)), upd_same]; rfl
    · obtain ⟨_, y2, y3, y4, y5, y6, y7, y8, y9, y10, y11, rfl⟩ := h
      exact q H2
end
end K11

set_option Elab.async false
set_option linter.all false
set_option maxRecDepth 100000
set_option maxHeartbeats 0
namespace K11
open PySem PySem.W PySem.Spec PyProof.Rows L2
/-! ### the head: facts by names, the table, the run -/
def mkD (x : PySem.Str) (i : Nat) : He.DefD := ⟨(x, none), x, x, defArgs (top i), defBody (top i), defScope (top i), [], []⟩
def fn : List He.DefD := [mkD "is_whole" 4, mkD "names_in" 6, mkD "is_facts" 8, mkD "common_facts" 9, mkD "expr_facts" 10, mkD "made_facts" 11, mkD "_number" 12, mkD "_copy" 13, mkD "_sum" 14, mkD "_difference" 15, mkD "_carried" 16, mkD "_both" 17, mkD "_either" 18, mkD "_unlike" 19, mkD "_same" 20, mkD "_below" 21, mkD "_truth" 22, mkD "_up" 23, mkD "_down" 24, mkD "_pick" 25, mkD "_law_begin" 28, mkD "_law_mixed" 29, mkD "_law_next" 30, mkD "_law_facts" 31, mkD "_law_names" 32, mkD "_law_expr" 33, mkD "_law_comes" 34, mkD "_law_due" 35, mkD "law" 36]
def fa : List He.Fa := [.glo "is_whole", .glo "names_in", .glo "is_facts", .glo "common_facts", .glo "expr_facts", .glo "made_facts", .glo "_number", .glo "_copy", .glo "_sum", .glo "_difference", .glo "_carried", .glo "_both", .glo "_either", .glo "_unlike", .glo "_same", .glo "_below", .glo "_truth", .glo "_up", .glo "_down", .glo "_pick", .glo "_law_begin", .glo "_law_mixed", .glo "_law_next", .glo "_law_facts", .glo "_law_names", .glo "_law_expr", .glo "_law_comes", .glo "_law_due", .glo "law", .free "type", .free "int", .free "str", .free "tuple", .free "len", .free "range", .free "repr", .free "min", .free "max", .free "dict", .free "sum", .free "enumerate", .free "isinstance", .glo "FACTS_BY_EXPR"]
def tkv : List (PySem.Str × He.Dv) := [("number", .glo "_number"), ("copy", .glo "_copy"), ("add", .glo "_sum"), ("less", .glo "_difference"), ("and", .glo "_both"), ("or", .glo "_either"), ("unlike", .glo "_unlike"), ("same", .glo "_same"), ("below", .glo "_below"), ("up", .glo "_up"), ("down", .glo "_down"), ("pick", .glo "_pick")]
def tb : List He.Tab := [(fun K => He.ga K "FACTS_BY_EXPR", tkv.map (·.1))]
def ex (K : PySem.W.Frag) : Bool := He.valsB K (He.ga K "FACTS_BY_EXPR") tkv
abbrev R : PySem.W.OpenRow := PySem.W.OpenLaw.row PySem.Challenge.rw_bitneed_k11_whole_facts_of_each_expr
abbrev hkS : PySem.W.Hook := He.hookX 4 fa fn tb [] ex
def ob (s : PySem.W.SharedT) : He.AlX := He.obsX 4 fa fn tb [] ex (HandSHeadRun.getT s)
theorem ob_eq (s : PySem.W.SharedT) : ob s = hkS.obs s.abs := He.obsX_eq (HandSHeadRun.getT_eq s)
def loose : List PySem.Str := ["BitError", "BadFacts", "FACTS_BY_EXPR", "is_whole", "names_in", "is_facts", "common_facts", "expr_facts", "made_facts", "_number", "_copy", "_sum", "_difference", "_carried", "_both", "_either", "_unlike", "_same", "_below", "_truth", "_up", "_down", "_pick", "_law_begin", "_law_mixed", "_law_next", "_law_facts", "_law_names", "_law_expr", "_law_comes", "_law_due"]
theorem run (w : World) : HandSHeadRun.RunEq R (PySem.W.view R.prog [36]) hkS ob 6000 loose w := by
  refine byRow2 "special-get-raises" (P := fun w => HandSHeadRun.RunEq R (PySem.W.view R.prog [36]) hkS ob 6000 loose w) (fun w => ?_) (fun w => ?_) w
  · intro os
    kernel_rfl
  · intro os
    kernel_rfl
theorem facts {P : Program} {w : World} {K : PySem.W.Frag} {h : Heap} {mg : PySem.Str → Option Value} {f : Addr} (X : K.In h) (G : h.Ns mainGlobals mg) (hfa : mg ("law" : PySem.Str) = some (.ref f)) (cx : He.SaysX fa fn tb [] ex w h K) :
    ∃ fd : FuncData, (∀ (s : Shared) (v : Value), BindsTo s fd ⟨[v], []⟩ [("script", v)]) ∧ ∀ base : Heap, K.In base → base.Ns mainGlobals mg → FnG P w K mg base 5 f fd ["script"] (spLaw K) := by
  have c := cx.t.d
  have m_tab := He.glo_ok X G (c.fact 42 (f := .glo "FACTS_BY_EXPR") rfl)
  have tv : ∀ {q : PySem.Str × He.Dv}, q ∈ tkv → KDct K w (He.ga K "FACTS_BY_EXPR") q.1 (q.2.v K) := fun {q} hq => by
    obtain ⟨es, n, lk, kl, sm⟩ := cx.t.tab 0 (t := (fun K => He.ga K "FACTS_BY_EXPR", tkv.map (·.1))) rfl
    obtain ⟨u, e, r⟩ := He.valsB_ok cx.more hq
    exact ⟨es, n, u, lk, kl, e, r⟩
  obtain ⟨fdIsWhole, FIsWhole⟩ := c.def_ 0 (d := mkD "is_whole" 4) rfl
  obtain ⟨fdNamesIn, FNamesIn⟩ := c.def_ 1 (d := mkD "names_in" 6) rfl
  obtain ⟨fdIsFacts, FIsFacts⟩ := c.def_ 2 (d := mkD "is_facts" 8) rfl
  obtain ⟨fdCommonFacts, FCommonFacts⟩ := c.def_ 3 (d := mkD "common_facts" 9) rfl
  obtain ⟨fdExprFacts, FExprFacts⟩ := c.def_ 4 (d := mkD "expr_facts" 10) rfl
  obtain ⟨fdMadeFacts, FMadeFacts⟩ := c.def_ 5 (d := mkD "made_facts" 11) rfl
  obtain ⟨fdNumber, FNumber⟩ := c.def_ 6 (d := mkD "_number" 12) rfl
  obtain ⟨fdCopy, FCopy⟩ := c.def_ 7 (d := mkD "_copy" 13) rfl
  obtain ⟨fdSum, FSum⟩ := c.def_ 8 (d := mkD "_sum" 14) rfl
  obtain ⟨fdDifference, FDifference⟩ := c.def_ 9 (d := mkD "_difference" 15) rfl
  obtain ⟨fdCarried, FCarried⟩ := c.def_ 10 (d := mkD "_carried" 16) rfl
  obtain ⟨fdBoth, FBoth⟩ := c.def_ 11 (d := mkD "_both" 17) rfl
  obtain ⟨fdEither, FEither⟩ := c.def_ 12 (d := mkD "_either" 18) rfl
  obtain ⟨fdUnlike, FUnlike⟩ := c.def_ 13 (d := mkD "_unlike" 19) rfl
  obtain ⟨fdSame, FSame⟩ := c.def_ 14 (d := mkD "_same" 20) rfl
  obtain ⟨fdBelow, FBelow⟩ := c.def_ 15 (d := mkD "_below" 21) rfl
  obtain ⟨fdTruth, FTruth⟩ := c.def_ 16 (d := mkD "_truth" 22) rfl
  obtain ⟨fdUp, FUp⟩ := c.def_ 17 (d := mkD "_up" 23) rfl
  obtain ⟨fdDown, FDown⟩ := c.def_ 18 (d := mkD "_down" 24) rfl
  obtain ⟨fdPick, FPick⟩ := c.def_ 19 (d := mkD "_pick" 25) rfl
  obtain ⟨fdLBegin, FLBegin⟩ := c.def_ 20 (d := mkD "_law_begin" 28) rfl
  obtain ⟨fdLMixed, FLMixed⟩ := c.def_ 21 (d := mkD "_law_mixed" 29) rfl
  obtain ⟨fdLNext, FLNext⟩ := c.def_ 22 (d := mkD "_law_next" 30) rfl
  obtain ⟨fdLFacts, FLFacts⟩ := c.def_ 23 (d := mkD "_law_facts" 31) rfl
  obtain ⟨fdLNames, FLNames⟩ := c.def_ 24 (d := mkD "_law_names" 32) rfl
  obtain ⟨fdLExpr, FLExpr⟩ := c.def_ 25 (d := mkD "_law_expr" 33) rfl
  obtain ⟨fdLComes, FLComes⟩ := c.def_ 26 (d := mkD "_law_comes" 34) rfl
  obtain ⟨fdLDue, FLDue⟩ := c.def_ 27 (d := mkD "_law_due" 35) rfl
  obtain ⟨fdLaw, FLaw⟩ := c.def_ 28 (d := mkD "law" 36) rfl
  have e := hfa.symm.trans (He.glo_ok X G (c.fact 28 (f := .glo "law") rfl))
  cases e
  have gIsWhole := He.glo_ok X G (c.fact 0 (f := .glo "is_whole") rfl)
  have gNamesIn := He.glo_ok X G (c.fact 1 (f := .glo "names_in") rfl)
  have gIsFacts := He.glo_ok X G (c.fact 2 (f := .glo "is_facts") rfl)
  have gCommonFacts := He.glo_ok X G (c.fact 3 (f := .glo "common_facts") rfl)
  have gExprFacts := He.glo_ok X G (c.fact 4 (f := .glo "expr_facts") rfl)
  have gMadeFacts := He.glo_ok X G (c.fact 5 (f := .glo "made_facts") rfl)
  have gNumber := He.glo_ok X G (c.fact 6 (f := .glo "_number") rfl)
  have gCopy := He.glo_ok X G (c.fact 7 (f := .glo "_copy") rfl)
  have gSum := He.glo_ok X G (c.fact 8 (f := .glo "_sum") rfl)
  have gDifference := He.glo_ok X G (c.fact 9 (f := .glo "_difference") rfl)
  have gCarried := He.glo_ok X G (c.fact 10 (f := .glo "_carried") rfl)
  have gBoth := He.glo_ok X G (c.fact 11 (f := .glo "_both") rfl)
  have gEither := He.glo_ok X G (c.fact 12 (f := .glo "_either") rfl)
  have gUnlike := He.glo_ok X G (c.fact 13 (f := .glo "_unlike") rfl)
  have gSame := He.glo_ok X G (c.fact 14 (f := .glo "_same") rfl)
  have gBelow := He.glo_ok X G (c.fact 15 (f := .glo "_below") rfl)
  have gTruth := He.glo_ok X G (c.fact 16 (f := .glo "_truth") rfl)
  have gUp := He.glo_ok X G (c.fact 17 (f := .glo "_up") rfl)
  have gDown := He.glo_ok X G (c.fact 18 (f := .glo "_down") rfl)
  have gPick := He.glo_ok X G (c.fact 19 (f := .glo "_pick") rfl)
  have gLBegin := He.glo_ok X G (c.fact 20 (f := .glo "_law_begin") rfl)
  have gLMixed := He.glo_ok X G (c.fact 21 (f := .glo "_law_mixed") rfl)
  have gLNext := He.glo_ok X G (c.fact 22 (f := .glo "_law_next") rfl)
  have gLFacts := He.glo_ok X G (c.fact 23 (f := .glo "_law_facts") rfl)
  have gLNames := He.glo_ok X G (c.fact 24 (f := .glo "_law_names") rfl)
  have gLExpr := He.glo_ok X G (c.fact 25 (f := .glo "_law_expr") rfl)
  have gLComes := He.glo_ok X G (c.fact 26 (f := .glo "_law_comes") rfl)
  have gLDue := He.glo_ok X G (c.fact 27 (f := .glo "_law_due") rfl)
  have m_type := He.free_ok X G (c.fact 29 (f := .free "type") rfl)
  have m_int := He.free_ok X G (c.fact 30 (f := .free "int") rfl)
  have m_str := He.free_ok X G (c.fact 31 (f := .free "str") rfl)
  have m_tuple := He.free_ok X G (c.fact 32 (f := .free "tuple") rfl)
  have m_len := He.free_ok X G (c.fact 33 (f := .free "len") rfl)
  have m_range := He.free_ok X G (c.fact 34 (f := .free "range") rfl)
  have m_repr := He.free_ok X G (c.fact 35 (f := .free "repr") rfl)
  have m_min := He.free_ok X G (c.fact 36 (f := .free "min") rfl)
  have m_max := He.free_ok X G (c.fact 37 (f := .free "max") rfl)
  have m_dict := He.free_ok X G (c.fact 38 (f := .free "dict") rfl)
  have m_sum := He.free_ok X G (c.fact 39 (f := .free "sum") rfl)
  have m_enumerate := He.free_ok X G (c.fact 40 (f := .free "enumerate") rfl)
  have m_isinstance := He.free_ok X G (c.fact 41 (f := .free "isinstance") rfl)
  have b := FunD.bindsA (ps := ["script"]) FLaw fun _ _ _ _ _ _ us hl => match us, hl with | [_], _ => rfl
  have bIsWhole : Binds K fdIsWhole ["thing", "least", "most"] [] := FunD.bindsN FIsWhole fun _ _ _ _ _ _ us hl => match us, hl with | [_, _, _], _ => rfl
  have bNamesIn : Binds K fdNamesIn ["expr"] [] := FunD.bindsN FNamesIn fun _ _ _ _ _ _ us hl => match us, hl with | [_], _ => rfl
  have bIsFacts : Binds K fdIsFacts ["wide", "thing"] [] := FunD.bindsN FIsFacts fun _ _ _ _ _ _ us hl => match us, hl with | [_, _], _ => rfl
  have bCommonFacts : Binds K fdCommonFacts ["one", "other"] [] := FunD.bindsN FCommonFacts fun _ _ _ _ _ _ us hl => match us, hl with | [_, _], _ => rfl
  have bExprFacts : Binds K fdExprFacts ["wide", "expr", "facts"] [] := FunD.bindsN FExprFacts fun _ _ _ _ _ _ us hl => match us, hl with | [_, _, _], _ => rfl
  have bMadeFacts : Binds K fdMadeFacts ["wide", "expr", "facts"] [] := FunD.bindsN FMadeFacts fun _ _ _ _ _ _ us hl => match us, hl with | [_, _, _], _ => rfl
  have bNumber : Binds K fdNumber ["most", "n"] [] := FunD.bindsN FNumber fun _ _ _ _ _ _ us hl => match us, hl with | [_, _], _ => rfl
  have bCopy : Binds K fdCopy ["most", "y"] [] := FunD.bindsN FCopy fun _ _ _ _ _ _ us hl => match us, hl with | [_, _], _ => rfl
  have bSum : Binds K fdSum ["most", "y", "z"] [] := FunD.bindsN FSum fun _ _ _ _ _ _ us hl => match us, hl with | [_, _, _], _ => rfl
  have bDifference : Binds K fdDifference ["most", "y", "z"] [] := FunD.bindsN FDifference fun _ _ _ _ _ _ us hl => match us, hl with | [_, _, _], _ => rfl
  have bCarried : Binds K fdCarried ["most", "y", "z", "carry"] [] := FunD.bindsN FCarried fun _ _ _ _ _ _ us hl => match us, hl with | [_, _, _, _], _ => rfl
  have bBoth : Binds K fdBoth ["most", "y", "z"] [] := FunD.bindsN FBoth fun _ _ _ _ _ _ us hl => match us, hl with | [_, _, _], _ => rfl
  have bEither : Binds K fdEither ["most", "y", "z"] [] := FunD.bindsN FEither fun _ _ _ _ _ _ us hl => match us, hl with | [_, _, _], _ => rfl
  have bUnlike : Binds K fdUnlike ["most", "y", "z"] [] := FunD.bindsN FUnlike fun _ _ _ _ _ _ us hl => match us, hl with | [_, _, _], _ => rfl
  have bSame : Binds K fdSame ["most", "y", "z"] [] := FunD.bindsN FSame fun _ _ _ _ _ _ us hl => match us, hl with | [_, _, _], _ => rfl
  have bBelow : Binds K fdBelow ["most", "y", "z"] [] := FunD.bindsN FBelow fun _ _ _ _ _ _ us hl => match us, hl with | [_, _, _], _ => rfl
  have bTruth : Binds K fdTruth ["most", "never", "always"] [] := FunD.bindsN FTruth fun _ _ _ _ _ _ us hl => match us, hl with | [_, _, _], _ => rfl
  have bUp : Binds K fdUp ["most", "y", "k"] [] := FunD.bindsN FUp fun _ _ _ _ _ _ us hl => match us, hl with | [_, _, _], _ => rfl
  have bDown : Binds K fdDown ["most", "y", "k"] [] := FunD.bindsN FDown fun _ _ _ _ _ _ us hl => match us, hl with | [_, _, _], _ => rfl
  have bPick : Binds K fdPick ["most", "c", "y", "z"] [] := FunD.bindsN FPick fun _ _ _ _ _ _ us hl => match us, hl with | [_, _, _, _], _ => rfl
  have bLBegin : Binds K fdLBegin ["script"] [] := FunD.bindsN FLBegin fun _ _ _ _ _ _ us hl => match us, hl with | [_], _ => rfl
  have bLMixed : Binds K fdLMixed ["cell", "k"] [] := FunD.bindsN FLMixed fun _ _ _ _ _ _ us hl => match us, hl with | [_, _], _ => rfl
  have bLNext : Binds K fdLNext ["draw", "many"] [] := FunD.bindsN FLNext fun _ _ _ _ _ _ us hl => match us, hl with | [_, _], _ => rfl
  have bLFacts : Binds K fdLFacts ["draw", "wide"] [] := FunD.bindsN FLFacts fun _ _ _ _ _ _ us hl => match us, hl with | [_, _], _ => rfl
  have bLNames : Binds K fdLNames ["draw"] [] := FunD.bindsN FLNames fun _ _ _ _ _ _ us hl => match us, hl with | [_], _ => rfl
  have bLExpr : Binds K fdLExpr ["draw", "wide", "names"] [] := FunD.bindsN FLExpr fun _ _ _ _ _ _ us hl => match us, hl with | [_, _, _], _ => rfl
  have bLComes : Binds K fdLComes ["wide", "expr", "words"] [] := FunD.bindsN FLComes fun _ _ _ _ _ _ us hl => match us, hl with | [_, _, _], _ => rfl
  have bLDue : Binds K fdLDue ["wide", "expr", "facts"] [] := FunD.bindsN FLDue fun _ _ _ _ _ _ us hl => match us, hl with | [_, _, _], _ => rfl
  refine ⟨fdLaw, fun s v => b s [v] rfl, fun base _ _ => ?_⟩
  have kIsWhole : FnOk P w K mg base CX0 1 _ fdIsWhole _ _ := ok_whole FIsWhole m_type m_int
  have kIsFacts : FnOk P w K mg base CX0 2 _ fdIsFacts _ _ := ok_isfacts FIsFacts kIsWhole bIsWhole FIsWhole.kp gIsWhole m_type m_tuple m_len
  have kNamesIn : FnOk P w K mg base CX0 1 _ fdNamesIn _ _ := ok_names_in FNamesIn m_type m_str
  have kCommon : FnOk P w K mg base CX0 1 _ fdCommonFacts _ _ := ok_common FCommonFacts
  have kCarried : FnOk P w K mg base CX0 1 _ fdCarried _ _ := ok_carried FCarried
  have kTruth : FnOk P w K mg base CX0 1 _ fdTruth _ _ := ok_truth FTruth
  have kNumber : FnOk P w K mg base CX0 2 _ fdNumber _ _ := (ok_number FNumber).mono (by decide)
  have kCopy : FnOk P w K mg base CX0 2 _ fdCopy _ _ := (ok_copy FCopy).mono (by decide)
  have kSum : FnOk P w K mg base CX0 2 _ fdSum _ _ := ok_sum FSum kCarried bCarried FCarried.kp gCarried
  have kDifference : FnOk P w K mg base CX0 2 _ fdDifference _ _ := ok_diff FDifference kCarried bCarried FCarried.kp gCarried
  have kBoth : FnOk P w K mg base CX0 2 _ fdBoth _ _ := (ok_both FBoth).mono (by decide)
  have kEither : FnOk P w K mg base CX0 2 _ fdEither _ _ := (ok_either FEither).mono (by decide)
  have kUnlike : FnOk P w K mg base CX0 2 _ fdUnlike _ _ := (ok_unlike FUnlike).mono (by decide)
  have kSame : FnOk P w K mg base CX0 2 _ fdSame _ _ := ok_same FSame kTruth bTruth FTruth.kp gTruth
  have kBelow : FnOk P w K mg base CX0 2 _ fdBelow _ _ := ok_below FBelow kTruth bTruth FTruth.kp gTruth
  have kUp : FnOk P w K mg base CX0 2 _ fdUp _ _ := (ok_up FUp).mono (by decide)
  have kDown : FnOk P w K mg base CX0 2 _ fdDown _ _ := (ok_down FDown).mono (by decide)
  have kPick : FnOk P w K mg base CX0 2 _ fdPick _ _ := ok_pick FPick kCommon bCommonFacts FCommonFacts.kp gCommonFacts
  have T : TabF K w (He.ga K "FACTS_BY_EXPR") _ _ _ _ _ _ _ _ _ _ _ _ := ⟨tv (q := ("number", .glo "_number")) (by simp [tkv]), tv (q := ("copy", .glo "_copy")) (by simp [tkv]), tv (q := ("add", .glo "_sum")) (by simp [tkv]), tv (q := ("less", .glo "_difference")) (by simp [tkv]), tv (q := ("and", .glo "_both")) (by simp [tkv]), tv (q := ("or", .glo "_either")) (by simp [tkv]), tv (q := ("unlike", .glo "_unlike")) (by simp [tkv]), tv (q := ("same", .glo "_same")) (by simp [tkv]), tv (q := ("below", .glo "_below")) (by simp [tkv]), tv (q := ("up", .glo "_up")) (by simp [tkv]), tv (q := ("down", .glo "_down")) (by simp [tkv]), tv (q := ("pick", .glo "_pick")) (by simp [tkv])⟩
  have acts : Acts P w K mg base (He.ga K "FACTS_BY_EXPR") := acts_ok T ⟨⟨_, _, kNumber, FNumber.kp, bNumber⟩⟩ ⟨⟨_, _, kCopy, FCopy.kp, bCopy⟩⟩ ⟨⟨_, _, kSum, FSum.kp, bSum⟩⟩ ⟨⟨_, _, kDifference, FDifference.kp, bDifference⟩⟩ ⟨⟨_, _, kBoth, FBoth.kp, bBoth⟩⟩ ⟨⟨_, _, kEither, FEither.kp, bEither⟩⟩ ⟨⟨_, _, kUnlike, FUnlike.kp, bUnlike⟩⟩ ⟨⟨_, _, kSame, FSame.kp, bSame⟩⟩ ⟨⟨_, _, kBelow, FBelow.kp, bBelow⟩⟩ ⟨⟨_, _, kUp, FUp.kp, bUp⟩⟩ ⟨⟨_, _, kDown, FDown.kp, bDown⟩⟩ ⟨⟨_, _, kPick, FPick.kp, bPick⟩⟩
  have kMade : FnOk P w K mg base CX0 3 _ fdMadeFacts _ _ := ok_made FMadeFacts m_tab acts m_type m_str
  have kExpr : FnOk P w K mg base CX0 4 _ fdExprFacts _ _ := ok_exprf FExprFacts kNamesIn bNamesIn FNamesIn.kp gNamesIn kIsFacts bIsFacts FIsFacts.kp gIsFacts kMade bMadeFacts FMadeFacts.kp gMadeFacts m_type m_dict
  have kLBegin : FnOk P w K mg base CX0 1 _ fdLBegin _ _ := ok_begin FLBegin
  have kLMixed : FnOk P w K mg base CX0 1 _ fdLMixed _ _ := ok_mixed FLMixed
  have kLNext : FnOk P w K mg base CX0 2 _ fdLNext _ _ := ok_next FLNext kLMixed bLMixed FLMixed.kp gLMixed m_len
  have kLFacts : FnOk P w K mg base CX0 3 _ fdLFacts _ _ := ok_lfacts FLFacts kLNext bLNext FLNext.kp gLNext m_range m_max m_int
  have kLNames : FnOk P w K mg base CX0 3 _ fdLNames _ _ := ok_lnames FLNames kLNext bLNext FLNext.kp gLNext m_range
  have kLExpr : FnOk P w K mg base CX0 3 _ fdLExpr _ _ := ok_lexpr FLExpr kLNext bLNext FLNext.kp gLNext m_range m_tuple
  have kLComes : FnOk P w K mg base CX0 1 _ fdLComes _ _ := ok_lcomes FLComes m_range m_int m_sum m_enumerate
  have kLDue : FnOk P w K mg base CX0 2 _ fdLDue _ _ := ok_ldue FLDue kLComes bLComes FLComes.kp gLComes m_range m_isinstance m_str
  exact ok_law FLaw ⟨_, _, kLBegin, bLBegin, FLBegin.kp, gLBegin⟩ ⟨_, _, kLNext, bLNext, FLNext.kp, gLNext⟩ ⟨_, _, kLFacts, bLFacts, FLFacts.kp, gLFacts⟩ ⟨_, _, kLNames, bLNames, FLNames.kp, gLNames⟩ ⟨_, _, kLExpr, bLExpr, FLExpr.kp, gLExpr⟩ ⟨_, _, kLDue, bLDue, FLDue.kp, gLDue⟩ ⟨_, _, kExpr, bExprFacts, FExprFacts.kp, gExprFacts⟩ m_range m_min m_len m_dict m_repr
end K11
open PySem PySem.W PySem.Calls PyProof.Rows
theorem PySem.Challenge.cw_bitneed_k11_whole_facts_of_each_expr_holds : PySem.Challenge.rw_bitneed_k11_whole_facts_of_each_expr.Holds := by
  w_on; o_law
  refine HandSHeadRun.head_any (r := OpenLaw.row PySem.Challenge.rw_bitneed_k11_whole_facts_of_each_expr) (q := view (OpenLaw.row PySem.Challenge.rw_bitneed_k11_whole_facts_of_each_expr).prog [36]) (H := K11.hkS) (ob := K11.ob) (M := 6000) (loose := K11.loose) (d := HandSHeadRun.topDef (OpenLaw.row PySem.Challenge.rw_bitneed_k11_whole_facts_of_each_expr).prog 36) (kwd := []) K11.ob_eq
    (by kernel_rfl) (fun s => by kernel_rfl) K11.run (by kernel_rfl) (by kernel_rfl) (by kernel_rfl) (by rfl) (by first | assumption | decide +kernel) (by decide +kernel) ⟨rfl, rfl, rfl, rfl, rfl, by decide +kernel⟩ ?hw ?hc
  case hw => w_witness2
  case hc =>
    refine K11.walkG (l := PySem.Challenge.rw_bitneed_k11_whole_facts_of_each_expr) (n := 63) (k := 5) (x := "script") rfl (by decide) (by kernel_rfl) ⟨rfl, by decide, by decide⟩ ?F
    intro w mg f h Y G hmg0
    obtain ⟨K, KX, c⟩ := Y
    have hmg : mg ("law" : PySem.Str) = some (.ref f) := by
      have e : (HandSHeadRun.topDef (OpenLaw.row PySem.Challenge.rw_bitneed_k11_whole_facts_of_each_expr).prog 36).name = ("law" : PySem.Str) := by kernel_rfl
      rw [← e]
      exact hmg0
    obtain ⟨fd, hb, hF⟩ := K11.facts (P := (PySem.Challenge.rw_bitneed_k11_whole_facts_of_each_expr).prog) (w := w) KX G hmg c
    exact ⟨K, fd, K11.spLaw K, KX, hb, hF, fun H a ns hl hS => ⟨a, ns, rfl, hS, hl, fun _ => rfl⟩⟩

