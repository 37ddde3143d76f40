import PyProof.Rows.All
import HandS.ForMost
import HandS.ExcInit
import HandS.ExcField
import HandS.ExcValue
import HandS.ExcIs
import HandS.FStr
import HandS.ClsMeth
import HandS.Ends
import PyProof.ReprRoads
import KE.KExcIs
import KE.KIsAll
import HandS.HeadHook4
import HandS.HeadWalk
import HandS.Head2
import HandS.AnyAll
import HandS.StrMore
import HandS.IsInst
import HandS.More
import HandS.Flow
import HandS.Style
import HandS.WideBits
import HandS.Text
import HandS.TupLe
import HandS.Star
import HandS.CallLocal
import KE.DatumOrd
import PyProof.ReprBulk
import KE.IntTextLaws
import PyProof.StrLawsChain
import HandS.Conv
import HandS.RaiseMore
import PySem.Challenge.RW_bitneed_k07_whole_programs_to_text_and_b
set_option Elab.async false
set_option linter.all false
set_option maxRecDepth 100000
set_option maxHeartbeats 2000000
namespace K7
open PySem PySem.Spec PyProof.Rows L2
/-! ### the text -/
def top (i : Nat) : Stmt := PySem.Challenge.pw_bitneed_k07_whole_programs_to_text_and_b.main.body.getD i (.Pass ⟨0, 0, 0, 0⟩)
abbrev FnP (K : PySem.W.Frag) (x : PySem.Str) (st : Stmt) (f : Addr) (fd : FuncData) : Prop := FunD K x x (defArgs st) (defBody st) (defScope st) [] [] f fd
/-! ### rules of our own -/
section
variable {X : Cx}
/-- a list that is only read, and a new one behind it -/
theorem op_catR : OpR X (binaryOp .Add) (fun x y H Q => ∃ l b xs zs, x = .ref l ∧ y = .ref b ∧ SqL X.K H l xs ∧ H b = some (.lst zs) ∧ xs.length + zs.length ≤ sizeLine ∧ ∀ p, H p = none → Q (.ref p) (upd H p (.lst (xs ++ zs)))) := by
  intro pins s σ H x y v u Q I rx ry h
  obtain ⟨l, b, xs, zs, rfl, rfl, hs, hB, hz, q⟩ := h
  cases rx
  cases ry
  obtain ⟨its, rv, ⟨o, n, ho, hc, hdn, hd⟩, hlen⟩ := I.list hs
  obtain ⟨cls, dd, data, sl⟩ := o
  obtain rfl : cls = Value.type "list" := hc
  obtain rfl : data = Data.seq its.toArray n := hd
  obtain ⟨z2, its2, n2, r2, hl2, e2⟩ := I.lstM hB
  have hl := rv.length
  have ea : its.toArray ++ its2.toArray = (its ++ its2).toArray := by simp
  refine concat_meets ⟨_, ho, rfl⟩ ⟨_, e2, rfl⟩ noFill_list_add seq_list_add PySem.F.slot_list_add PySem.F.entry_list_add (PySem.F.args_list_add_2 _ _)
    (list_addW l b its.toArray its2.toArray n n2 dd none sl #[] (by rw [List.size_toArray, List.size_toArray, ← hl, ← hl2]; exact hz)) ⟨ho, e2, ?_⟩
  rw [ea]
  exact ⟨.ref _, _, I.lnew (t' := s.toks) (rv.append r2) (by rw [List.length_append]; exact hz), rfl, q _ I.fresh⟩
end
/-- a def whose code object is told -/
theorem okC {P : Program} {w : World} {K : PySem.W.Frag} {mg : PySem.Str → Option Value} {base : Heap} {x : PySem.Str} {st : Stmt} {fd : FuncData} {N ps : List PySem.Str} {k : Nat} {sp : Sp} {p : PySem.Str × Option PySem.Str} (F : FnP K x st (He.fAd K p) fd) (S : FnScope N ps (defScope st))
    (len : ∀ vs H Q E, sp vs H Q E → vs.length = ps.length)
    (hbody : ∀ (A : Around) (outer : List Env) (s : Shared) (H : Hp) (vs : List V) (Q : VK) (E : XK), Room k (A.deeper (envOfC x (defScope st) s.heap.objs.size (He.fAd K p) (.ref (He.codeOf K p)))) → sp vs H Q E →
      ∃ t, PSs (cxOf CX0 P w K mg base N x (defScope st) (He.fAd K p) (.ref (He.codeOf K p)) A outer s H E).nox (defBody st) t ∧ t { nx := fun _ H' => Q .non H', rt := Q } (start N vs) H) : FnOk P w K mg base CX0 (k + 1) (He.fAd K p) fd ps sp := by
  obtain ⟨oc, od, dV, kV, doc, pm, an, cdv, ct, osl, rfl, lk, hcd, _, _⟩ := F.ex
  obtain ⟨c, rfl⟩ := He.codeIn_ref hcd
  have e : He.codeOf K p = c := He.codeOf_eq lk rfl
  subst e
  refine fn_of lk hcd S len fun A outer s H vs Q E hr hsp => ?_
  obtain ⟨t, h, q⟩ := hbody A outer s H vs Q E hr hsp
  exact ⟨t, h.nox, q⟩
/-! ### what stays -/
/-- an object of the heap ahead, as it may stand behind: tables may have grown -/
def Ko (o : HO) (x : Option HO) : Prop := match o with
  | .tbl ps => ∃ qs, x = some (.tbl qs) ∧ (TriplesOk ps.toList → TriplesOk qs.toList)
  | o => x = some o
theorem ko_refl (o : HO) : Ko o (some o) := by
  cases o <;> first | rfl | exact ⟨_, rfl, fun h => h⟩
theorem ko_some {o : HO} {x : Option HO} (h : Ko o x) : ∃ u, x = some u := by
  cases o <;> first | exact ⟨_, h⟩ | (obtain ⟨qs, e, _⟩ := h; exact ⟨_, e⟩)
theorem ko_trans {o : HO} {x y : Option HO} (h : Ko o x) (k : ∀ u, x = some u → Ko u y) : Ko o y := by
  cases o <;> first | exact k _ h | (obtain ⟨qs, e, z⟩ := h; obtain ⟨rs, e2, z2⟩ := k _ e; exact ⟨rs, e2, fun q => z2 (z q)⟩)
/-- all that was tracked stands, but what stands at the addresses for which D holds -/
def Kept (D : Addr → Prop) (H H' : Hp) : Prop := ∀ b o, H b = some o → ¬ D b → Ko o (H' b)
theorem Kept.refl {D : Addr → Prop} {H : Hp} : Kept D H H := fun b o e _ => by rw [e]; exact ko_refl o
theorem Kept.trans {D : Addr → Prop} {H H1 H2 : Hp} (a : Kept D H H1) (b : Kept D H1 H2) : Kept D H H2 := fun c o e n => ko_trans (a c o e n) fun u q => b c u q n
theorem Kept.weak {D D' : Addr → Prop} {H H1 : Hp} (a : Kept D H H1) (h : ∀ b, D b → D' b) : Kept D' H H1 := fun c o e n => a c o e fun d => n (h c d)
theorem Kept.new {D : Addr → Prop} {H H1 : Hp} {p : Addr} {o : HO} (a : Kept D H H1) (n : H p = none) : Kept D H (upd H1 p o) := fun c u e d => by
  rw [upd_ne (ne_of_none e n)]
  exact a c u e d
theorem Kept.upd {D : Addr → Prop} {H H1 : Hp} {p : Addr} {o : HO} (a : Kept D H H1) (d : D p) : Kept D H (upd H1 p o) := fun c u e n => by
  rw [upd_ne (fun z => n (by rw [z]; exact d))]
  exact a c u e n
abbrev None : Addr → Prop := fun _ => False
theorem Kept.free {H H1 : Hp} (a : Kept None H H1) {p : Addr} (h : H1 p = none) : H p = none := by
  cases e : H p with
  | none => rfl
  | some o =>
    obtain ⟨u, q⟩ := ko_some (a p o e (fun z => z))
    rw [h] at q
    cases q
theorem Kept.lst {D : Addr → Prop} {H H1 : Hp} (a : Kept D H H1) {p : Addr} {xs : List V} (h : H p = some (.lst xs)) (n : ¬ D p) : H1 p = some (.lst xs) := a p _ h n
theorem Kept.tup {D : Addr → Prop} {H H1 : Hp} (a : Kept D H H1) {p : Addr} {xs : List V} (h : H p = some (.tup xs)) (n : ¬ D p) : H1 p = some (.tup xs) := a p _ h n
theorem Kept.dK {D : Addr → Prop} {H H1 : Hp} (a : Kept D H H1) {p : Addr} {kvs : List (Key × V)} (h : H p = some (.dK kvs)) (n : ¬ D p) : H1 p = some (.dK kvs) := a p _ h n
theorem Kept.frz {D : Addr → Prop} {H H1 : Hp} (a : Kept D H H1) {p : Addr} {o : Obj} {u : HO} (h : H p = some (.frz o u)) (n : ¬ D p) : H1 p = some (.frz o u) := a p _ h n
theorem Kept.tab {D : Addr → Prop} {H H1 : Hp} (a : Kept D H H1) {p : Addr} (h : GxR.TabG H p) (n : ¬ D p) : GxR.TabG H1 p := by
  obtain ⟨ps, e, z⟩ := h
  obtain ⟨qs, e2, z2⟩ := a p _ e n
  exact ⟨qs, e2, z2 z⟩
theorem Kept.sql {K : PySem.W.Frag} {D : Addr → Prop} {H H1 : Hp} (a : Kept D H H1) {p : Addr} {xs : List V} (h : SqL K H p xs) (n : ¬ D p) : SqL K H1 p xs := by
  rcases h with (h | ⟨o, h⟩) | h
  · exact .inl (.inl (a.lst h n))
  · exact .inl (.inr ⟨o, a.frz h n⟩)
  · exact .inr h
theorem Kept.of_tabbed {P : Addr} {H H1 : Hp} (t : GxR.TabG H P) (h : GxR.Tabbed P H H1) : Kept None H H1 := fun b o e _ => by
  by_cases hb : b = P
  · subst hb
    obtain ⟨ps, e1, z1⟩ := t
    obtain ⟨⟨qs, e2, z2⟩, _⟩ := h
    rw [e1] at e
    cases e
    exact ⟨qs, e2, fun _ => z2⟩
  · rw [h.2 b hb, e]
    exact ko_refl o
end K7

set_option Elab.async false
set_option linter.all false
set_option maxRecDepth 100000
set_option maxHeartbeats 2000000
namespace K7
open PySem PySem.Spec PyProof.Rows L2
/-! ### the draws -/
abbrev sBegin : Stmt := top 27
abbrev sMixed : Stmt := top 28
abbrev sNext : Stmt := top 29
theorem scBegin : FnScope ["script"] ["script"] (defScope sBegin) := ⟨rfl, rfl, rfl, by decide +kernel, rfl, by decide +kernel, by decide +kernel⟩
theorem scMixed : FnScope ["cell", "k", "number"] ["cell", "k"] (defScope sMixed) := ⟨rfl, rfl, rfl, by decide +kernel, rfl, by decide +kernel, by decide +kernel⟩
theorem scNext : FnScope ["draw", "many", "found", "cells", "cell"] ["draw", "many"] (defScope sNext) := ⟨rfl, rfl, rfl, by decide +kernel, rfl, by decide +kernel, by decide +kernel⟩
/-- the draw's pairs -/
def drK (c : Addr) (a l u : Int) : List (Key × V) := [(.inr "cells", .ref c), (.inr "at", .int a), (.inr "left", .int l), (.inr "used", .int u)]
theorem kn {x y : PySem.Str} (h : ¬ x = y) : ¬ (Sum.inr x : Key) = Sum.inr y := fun e => h (Sum.inr.inj e)
theorem n1 : ¬ (("cells" : PySem.Str) = "at") := by decide +kernel
theorem n2 : ¬ (("cells" : PySem.Str) = "left") := by decide +kernel
theorem n3 : ¬ (("cells" : PySem.Str) = "used") := by decide +kernel
theorem n4 : ¬ (("at" : PySem.Str) = "left") := by decide +kernel
theorem n5 : ¬ (("at" : PySem.Str) = "used") := by decide +kernel
theorem n6 : ¬ (("left" : PySem.Str) = "used") := by decide +kernel
theorem g_cells (c : Addr) (a l u : Int) : valV (drK c a l u) (Sum.inr "cells" : Key) = some (.ref c) := valV_pos rfl
theorem g_at (c : Addr) (a l u : Int) : valV (drK c a l u) (Sum.inr "at" : Key) = some (.int a) := (valV_neg (kn n1)).trans (valV_pos rfl)
theorem g_left (c : Addr) (a l u : Int) : valV (drK c a l u) (Sum.inr "left" : Key) = some (.int l) := (valV_neg (kn n2)).trans ((valV_neg (kn n4)).trans (valV_pos rfl))
theorem g_used (c : Addr) (a l u : Int) : valV (drK c a l u) (Sum.inr "used" : Key) = some (.int u) := (valV_neg (kn n3)).trans ((valV_neg (kn n5)).trans ((valV_neg (kn n6)).trans (valV_pos rfl)))
theorem p_at (c : Addr) (a l u z : Int) : putK (drK c a l u) (Sum.inr "at" : Key) (.int z) = drK c z l u := by
  unfold putK
  rw [if_pos (by rw [valV_any, g_at]; rfl)]
  unfold drK
  simp only [List.map_cons, List.map_nil, if_neg (kn n1), if_pos rfl, if_neg (kn (fun e => n4 e.symm)), if_neg (kn (fun e => n5 e.symm))]
  rfl
theorem p_left (c : Addr) (a l u z : Int) : putK (drK c a l u) (Sum.inr "left" : Key) (.int z) = drK c a z u := by
  unfold putK
  rw [if_pos (by rw [valV_any, g_left]; rfl)]
  unfold drK
  simp only [List.map_cons, List.map_nil, if_neg (kn n2), if_pos rfl, if_neg (kn n4), if_neg (kn (fun e => n6 e.symm))]
  rfl
theorem p_used (c : Addr) (a l u z : Int) : putK (drK c a l u) (Sum.inr "used" : Key) (.int z) = drK c a l z := by
  unfold putK
  rw [if_pos (by rw [valV_any, g_used]; rfl)]
  unfold drK
  simp only [List.map_cons, List.map_nil, if_neg (kn n3), if_pos rfl, if_neg (kn n5), if_neg (kn n6)]
  rfl
/-- a draw at d, its cells at c, at most n numbers drawn -/
structure Dr (H : Hp) (d c : Addr) (ns : List Int) (n : Nat) : Prop where
  at_ : ∃ a l u : Int, H d = some (.dK (drK c a l u)) ∧ 0 ≤ a ∧ a ≤ (n : Int) ∧ 0 ≤ l ∧ 0 ≤ u ∧ u ≤ (n : Int)
  cs : H c = some (.lst (ns.map V.int))
  ne : 1 ≤ ns.length ∧ ns.length ≤ 64
theorem Dr.dc {H : Hp} {d c : Addr} {ns : List Int} {n : Nat} (D : Dr H d c ns n) : c ≠ d := by
  obtain ⟨a, l, u, h, _⟩ := D.at_
  exact ne_of D.cs h (by intro z; cases z)
/-- only the draw may change -/
abbrev At (d : Addr) : Addr → Prop := fun b => b = d
theorem Dr.stay {H H1 : Hp} {d c : Addr} {ns : List Int} {n : Nat} (D : Dr H d c ns n) (k : Kept None H H1) : Dr H1 d c ns n := by
  obtain ⟨a, l, u, h, r⟩ := D.at_
  exact ⟨⟨a, l, u, k.dK h (fun z => z), r⟩, k.lst D.cs (fun z => z), D.ne⟩
theorem Dr.more {H : Hp} {d c : Addr} {ns : List Int} {n m : Nat} (D : Dr H d c ns n) (h : n ≤ m) : Dr H d c ns m := by
  obtain ⟨a, l, u, e, h1, h2, h3, h4, h5⟩ := D.at_
  exact ⟨⟨a, l, u, e, h1, by omega, h3, h4, by omega⟩, D.cs, D.ne⟩
theorem Dr.new {H : Hp} {d c p : Addr} {o : HO} {ns : List Int} {n : Nat} (D : Dr H d c ns n) (h : H p = none) : Dr (upd H p o) d c ns n := D.stay (Kept.refl.new h)
/-- a new address is new for what stood ahead, too -/
theorem At.free {H H1 : Hp} {d c : Addr} {ns : List Int} {n : Nat} (k : Kept (At d) H H1) (D : Dr H1 d c ns n) {p : Addr} (h : H1 p = none) : H p = none := by
  cases e : H p with
  | none => rfl
  | some o =>
    have hp : ¬ p = d := fun z => by
      obtain ⟨a, l, u, q, _⟩ := D.at_
      rw [z, q] at h
      cases h
    obtain ⟨u, q⟩ := ko_some (k p o e hp)
    rw [h] at q
    cases q
def spBegin (K : PySem.W.Frag) : Sp := fun vs H Q _ => ∃ (a : Addr) (ns : List Int), vs = [.ref a] ∧ SqL K H a (ns.map V.int) ∧ ns.length ≤ 63 ∧ ∀ d c H', H d = none → Kept None H H' → Dr H' d c (ns ++ [0]) 0 → Q (.ref d) H'
def spMixed : Sp := fun vs H Q _ => ∃ (x k : Int), vs = [.int x, .int k] ∧ 0 ≤ k ∧ k ≤ 1152921504606846976 ∧ ∀ r : Int, 0 ≤ r → Q (.int r) H
def spNext : Sp := fun vs H Q _ => ∃ (d c : Addr) (ns : List Int) (n : Nat) (m : Int), vs = [.ref d, .int m] ∧ Dr H d c ns n ∧ n ≤ 1000000000 ∧ 1 ≤ m ∧ m < 1073741824 ∧ ∀ (r : Int) H', 0 ≤ r → r < m → Kept (At d) H H' → Dr H' d c ns (n + 1) → Q (.int r) H'
section
variable {P : Program} {w : World} {K : PySem.W.Frag} {mg : PySem.Str → Option Value} {base : Heap} {f fM fN : Addr} {fd fdM fdN : FuncData}
theorem ok_begin (F : FnP K "_law_begin" sBegin f fd) : FnOk P w K mg base CX0 1 f fd ["script"] (spBegin K) := by
  refine F.ok (k := 0) scBegin (fun vs H Q E h => ?_) (fun cdv A outer s H vs Q E hr h => ?_)
  · obtain ⟨a, ns, rfl, _⟩ := h
    rfl
  · obtain ⟨a, ns, rfl, hS, hl, q⟩ := h
    refine ⟨_, PSs.nox (pss_one (ps_ret (pe_disp (pps_cons pe_str (pe_op op_catR (pv 0) (pe_lst (pa_cons pe_int pa_nil))) (pps_cons pe_str pe_int (pps_cons pe_str pe_int (pps_cons pe_str pe_int pps_nil)))) (by rfl) (by rfl) (fun z => by cases z) (by decide)))), ?_⟩
    refine fun d hd => ⟨.ref a, rfl, by show 1 ≤ sizeLine; decide, fun b hb => ?_⟩
    have k1 : Kept None H (upd H d (.dK [])) := Kept.refl.new hd
    have k2 : Kept None (upd H d (.dK [])) (upd (upd H d (.dK [])) b (.lst [.int 0])) := Kept.refl.new hb
    refine ⟨a, b, ns.map V.int, [.int 0], rfl, rfl, (k1.trans k2).sql hS (fun z => z), upd_same, ?_, fun c hc => ?_⟩
    · rw [List.length_map, sizeLine_eq]
      simp only [List.length_cons, List.length_nil]
      omega
    · have hdb : d ≠ b := fun e => by
        rw [← e, upd_same] at hb
        cases hb
      have hdc : d ≠ c := fun e => by
        rw [← e, upd_ne hdb, upd_same] at hc
        cases hc
      have k3 : Kept None (upd (upd H d (.dK [])) b (.lst [.int 0])) (upd (upd (upd H d (.dK [])) b (.lst [.int 0])) c (.lst (ns.map V.int ++ [.int 0]))) := Kept.refl.new hc
      refine ⟨by rw [upd_ne hdc, upd_ne hdb, upd_same], drK c 0 0 0, rfl, by show 4 ≤ 15; decide, ?_⟩
      have em : mergeK [] (drK c 0 0 0) = drK c 0 0 0 := by
        unfold mergeK drK
        simp [putK, kn n1, kn n2, kn n3, kn n4, kn n5, kn n6, n1, n2, n3, n4, n5, n6]
      rw [em]
      refine q d c _ hd ?_ ⟨⟨0, 0, 0, upd_same, by omega, by omega, by omega, by omega, by omega⟩, ?_, by rw [List.length_append]; simp only [List.length_cons, List.length_nil]; omega⟩
      · intro x o e n
        have hx : x ≠ d := ne_of_none e hd
        rw [upd_ne hx]
        exact ((k1.trans k2).trans k3) x o e n
      · rw [upd_ne (Ne.symm hdc), upd_same, List.map_append]
        rfl
theorem ok_mixed (F : FnP K "_law_mixed" sMixed f fd) : FnOk P w K mg base CX0 1 f fd ["cell", "k"] spMixed := by
  refine F.ok (k := 0) scMixed (fun vs H Q E h => ?_) (fun cdv A outer s H vs Q E hr h => ?_)
  · obtain ⟨x, k, rfl, _⟩ := h
    rfl
  · obtain ⟨x, k, rfl, h0, h1, q⟩ := h
    refine ⟨_, PSs.nox (pss_cons (ps_set (i := 2) scMixed.nd rfl (Or.inl rfl) (pe_op op_mod (pe_op op_add (pe_op op_add (pe_op op_add (pe_op op_mod (pv 0) pe_int) (pe_op op_mul (pe_op op_mul pe_int (pv 1)) (pv 1))) (pe_op op_mul pe_int (pv 1))) pe_int) pe_int))
      (pss_cons (ps_set (i := 2) scMixed.nd rfl (Or.inl rfl) (pe_op op_mod (pe_op op_mul (pe_op op_mod (pe_op op_mul (pv 2) (pv 2)) pe_int) (pv 2)) pe_int))
      (pss_one (ps_ret (pe_op op_fdiv (pe_op op_mod (pe_op op_mul (pv 2) (pe_op op_add pe_int (pe_op op_mul pe_int (pe_op op_mod (pv 1) pe_int)))) pe_int) pe_int))))), ?_⟩
    refine ⟨.int x, rfl, x, 1000000007, rfl, rfl, (by show (0 : Int) < 1000000007; decide), .int k, rfl, 7919, k, rfl, rfl, .inl ⟨by decide, by decide⟩, .int k, rfl, _, k, rfl, rfl, .inr ⟨by omega, by omega⟩, _, _, rfl, rfl, .int k, rfl, 31, k, rfl, rfl, .inl ⟨by decide, by decide⟩, _, _, rfl, rfl, _, _, rfl, rfl, _, _, rfl, rfl, (by show (0 : Int) < 2147483647; decide), ?_⟩
    dsimp only
    generalize hy : (x % 1000000007 + 7919 * k * k + 31 * k + 7) % 2147483647 = y
    have y0 : 0 ≤ y := by rw [← hy]; exact Int.emod_nonneg _ (by decide)
    have y1 : y < 2147483647 := by rw [← hy]; exact Int.emod_lt_of_pos _ (by decide)
    refine ⟨.int y, rfl, .int y, rfl, y, y, rfl, rfl, .inl ⟨by omega, by omega⟩, _, _, rfl, rfl, (by show (0 : Int) < 2147483647; decide), .int y, rfl, _, y, rfl, rfl, .inr ⟨by omega, by omega⟩, _, _, rfl, rfl, (by show (0 : Int) < 2147483629; decide), ?_⟩
    dsimp only
    generalize hz : (y * y % 2147483647 * y) % 2147483629 = z
    have z0 : 0 ≤ z := by rw [← hz]; exact Int.emod_nonneg _ (by decide)
    have z1 : z < 2147483629 := by rw [← hz]; exact Int.emod_lt_of_pos _ (by decide)
    refine ⟨.int z, rfl, .int k, rfl, k, 1000, rfl, rfl, (by show (0 : Int) < 1000; decide), 2, _, rfl, rfl, .inl ⟨by decide, by decide⟩, _, _, rfl, rfl, z, _, rfl, rfl, .inl ⟨by omega, by omega⟩, _, _, rfl, rfl, (by show (0 : Int) < 2147483647; decide), _, _, rfl, rfl, ⟨by show (0 : Int) < 7; decide, by show (7 : Int) < 1073741824; decide⟩, ?_⟩
    exact q _ (Int.ediv_nonneg (Int.emod_nonneg _ (by decide)) (by decide))
end
end K7

set_option Elab.async false
set_option linter.all false
set_option maxRecDepth 100000
set_option maxHeartbeats 2000000
namespace K7
open PySem PySem.Spec PyProof.Rows L2
section
variable {H : Hp} {d c : Addr} {a l u z : Int}
theorem gd_cells (h : H d = some (.dK (drK c a l u))) : DGet H d (.str "cells") (some (.ref c)) := by rw [← g_cells c a l u]; exact DGet.k (k := Sum.inr "cells") h
theorem gd_at (h : H d = some (.dK (drK c a l u))) : DGet H d (.str "at") (some (.int a)) := by rw [← g_at c a l u]; exact DGet.k (k := Sum.inr "at") h
theorem gd_left (h : H d = some (.dK (drK c a l u))) : DGet H d (.str "left") (some (.int l)) := by rw [← g_left c a l u]; exact DGet.k (k := Sum.inr "left") h
theorem gd_used (h : H d = some (.dK (drK c a l u))) : DGet H d (.str "used") (some (.int u)) := by rw [← g_used c a l u]; exact DGet.k (k := Sum.inr "used") h
theorem four : (drK c a l u).length < sizeLine := by show 4 < sizeLine; decide
theorem pd_at (h : H d = some (.dK (drK c a l u))) : DPut H d (.str "at") (.int z) (upd H d (.dK (drK c z l u))) := by rw [← p_at c a l u z]; exact DPut.k (k := Sum.inr "at") h four
theorem pd_left (h : H d = some (.dK (drK c a l u))) : DPut H d (.str "left") (.int z) (upd H d (.dK (drK c a z u))) := by rw [← p_left c a l u z]; exact DPut.k (k := Sum.inr "left") h four
theorem pd_used (h : H d = some (.dK (drK c a l u))) : DPut H d (.str "used") (.int z) (upd H d (.dK (drK c a l z))) := by rw [← p_used c a l u z]; exact DPut.k (k := Sum.inr "used") h four
end
section
variable {P : Program} {w : World} {K : PySem.W.Frag} {mg : PySem.Str → Option Value} {base : Heap} {f fM fN : Addr} {fd fdM fdN : FuncData}
theorem ok_next (F : FnP K "_law_next" sNext f fd) (GM : FnOk P w K mg base CX0 1 fM fdM ["cell", "k"] spMixed) (bM : Binds K fdM ["cell", "k"] []) (kM : PySem.W.keepIn K (.ref fM) = true) (gM : mg "_law_mixed" = some (.ref fM)) (m1 : mg "len" = none) :
    FnOk P w K mg base CX0 2 f fd ["draw", "many"] spNext := by
  refine F.ok (k := 1) scNext (fun vs H Q E h => ?_) (fun cdv A outer s H vs Q E hr h => ?_)
  · obtain ⟨d, c, ns, n, m, rfl, _⟩ := h
    rfl
  · obtain ⟨d, c, ns, n, m, rfl, D, hn, m0, m1', q⟩ := h
    have hu := hu_of hr
    refine ⟨_, PSs.nox (pss_cons (ps_if (pt_cmpR op_gt (pe_dget hu (pv 0) pe_str (fun _ _ => rfl)) pe_int (nomark _))
        (pss_cons (ps_set (i := 2) scNext.nd rfl (Or.inl rfl) (pe_op op_mod (pe_dget hu (pv 0) pe_str (fun _ _ => rfl)) (pv 1)))
        (pss_cons (ps_dput hu (pv 0) pe_str (pe_op op_fdiv (pe_dget hu (pv 0) pe_str (fun _ _ => rfl)) (pv 1)) rfl)
        (pss_one (ps_ret (pv 2))))) pss_nil)
      (pss_cons (ps_set (i := 3) scNext.nd rfl (Or.inl rfl) (pe_dget hu (pv 0) pe_str (fun _ _ => rfl)))
      (pss_cons (ps_set (i := 4) scNext.nd rfl (Or.inl rfl) (pe_ix ix_list (pv 3) (pe_op op_mod (pe_dget hu (pv 0) pe_str (fun _ _ => rfl)) (pe_callB call_len_seq (by rfl) m1 PySem.boot_len (pa_cons (pv 3) pa_nil))) (fun _ _ => rfl)))
      (pss_cons (ps_dput hu (pv 0) pe_str (pe_op op_add (pe_dget hu (pv 0) pe_str (fun _ _ => rfl)) pe_int) rfl)
      (pss_cons (ps_if (PW.pt (pw_and (pt_cmpR op_ge (pv 4) (pe_op op_pow pe_int pe_int) (nomark _)) (pw_and1 (pt_cmpR op_le (pe_dget hu (pv 0) pe_str (fun _ _ => rfl)) (pe_callB call_len_seq (by rfl) m1 PySem.boot_len (pa_cons (pv 3) pa_nil)) (nomark _)))))
        (pss_cons (ps_dput hu (pv 0) pe_str (pe_op op_fdiv (pv 4) (pv 1)) rfl) (pss_one (ps_ret (pe_op op_mod (pv 4) (pv 1))))) pss_nil)
      (pss_cons (ps_dput hu (pv 0) pe_str (pe_op op_add (pe_dget hu (pv 0) pe_str (fun _ _ => rfl)) pe_int) rfl)
      (pss_one (ps_ret (pe_op op_mod (pe_call GM hr (by rfl) gM kM bM .nil pass0 (pa_cons (by exact (pe_call GM hr (by rfl) gM kM bM .nil pass0 (pa_cons (pv 4) (pa_cons (pe_dget hu (pv 0) pe_str (fun _ _ => rfl)) pa_nil)))) (pa_cons (pe_dget hu (pv 0) pe_str (fun _ _ => rfl)) pa_nil))) (pv 1)))))))))), ?_⟩
    obtain ⟨a, l, u, hd, a0, a1, l0, u0, u1⟩ := D.at_
    have dc := D.dc
    refine ⟨.ref d, rfl, d, .int l, rfl, gd_left hd, l, 0, rfl, rfl, _, rfl, ite2 (fun hl => ?_) (fun hl => ?_)⟩
    · have hl' : 0 < l := of_decide_eq_true hl
      refine ⟨.ref d, rfl, d, .int l, rfl, gd_left hd, .int m, rfl, l, m, rfl, rfl, (by show 0 < m; omega), ?_⟩
      refine ⟨.ref d, rfl, d, .int l, rfl, gd_left hd, .int m, rfl, l, m, rfl, rfl, ⟨by omega, by omega⟩, .ref d, rfl, d, _, rfl, pd_left hd, ?_⟩
      refine ⟨.int (l % m), rfl, ?_⟩
      refine q (l % m) _ (Int.emod_nonneg _ (by omega)) (Int.emod_lt_of_pos _ (by omega)) (Kept.refl.upd rfl) ⟨⟨a, l / m, u, upd_same, a0, by omega, Int.ediv_nonneg l0 (by omega), u0, by omega⟩, by rw [upd_ne dc]; exact D.cs, D.ne⟩
    · have hL : (ns.map V.int).length = ns.length := List.length_map ..
      obtain ⟨h1, h64⟩ := D.ne
      refine ⟨.ref d, rfl, d, .ref c, rfl, gd_cells hd, ?_⟩
      have j0 : 0 ≤ a % (ns.length : Int) := Int.emod_nonneg _ (by omega)
      have j1 : a % (ns.length : Int) < (ns.length : Int) := Int.emod_lt_of_pos _ (by omega)
      obtain ⟨j, hj⟩ : ∃ j : Nat, a % (ns.length : Int) = (j : Int) := ⟨(a % (ns.length : Int)).toNat, by omega⟩
      have hjl : j < ns.length := by omega
      have hat : atI (ns.map V.int) (a % (((ns.map V.int).length : Nat) : Int)) = some (.int ns[j]) := by
        rw [hL, hj]
        exact atI_nat (j := j) (by rw [List.getElem?_map, List.getElem?_eq_getElem hjl]; rfl)
      refine ⟨.ref c, rfl, .ref d, rfl, d, .int a, rfl, gd_at hd, .ref c, rfl, c, ns.map V.int, rfl, .inl (.inl (.inl D.cs)), a, _, rfl, rfl, (by rw [hL]; omega), c, ns.map V.int, _, .int ns[j], rfl, rfl, .inl (.inl D.cs), hat, ?_⟩
      refine ⟨.ref d, rfl, d, .int a, rfl, gd_at hd, a, 1, rfl, rfl, .ref d, rfl, d, _, rfl, pd_at hd, ?_⟩
      have hd1 : upd H d (.dK (drK c (a + 1) l u)) d = some (.dK (drK c (a + 1) l u)) := upd_same
      have hc1 : upd H d (.dK (drK c (a + 1) l u)) c = some (.lst (ns.map V.int)) := by rw [upd_ne dc]; exact D.cs
      have kk1 : Kept (At d) H (upd H d (.dK (drK c (a + 1) l u))) := Kept.refl.upd rfl
      generalize upd H d (.dK (drK c (a + 1) l u)) = H1 at hd1 hc1 kk1 ⊢
      -- the last way
      have last : tSeq (sDPut (tVar 0) (tC (.str "used")) (tOp (rI0 fun i j => .int (i + j)) (tDGet (tVar 0) (tC (.str "used"))) (tC (.int 1)))) (tRet (tOp (rI (fun _ j => 0 < j) fun i j => .int (i % j)) (tCall spMixed [] E0 (tCons (tCall spMixed [] E0 (tCons (tVar 4) (tCons (tDGet (tVar 0) (tC (.str "at"))) tNil))) (tCons (tDGet (tVar 0) (tC (.str "used"))) tNil))) (tVar 1)))
          { nx := fun _ H' => Q .non H', rt := Q } [some (.ref d), some (.int m), none, some (.ref c), some (.int ns[j])] H1 := by
        refine ⟨.ref d, rfl, d, .int u, rfl, gd_used hd1, u, 1, rfl, rfl, .ref d, rfl, d, _, rfl, pd_used hd1, ?_⟩
        have hd2 : upd H1 d (.dK (drK c (a + 1) l (u + 1))) d = some (.dK (drK c (a + 1) l (u + 1))) := upd_same
        have hc2 : upd H1 d (.dK (drK c (a + 1) l (u + 1))) c = some (.lst (ns.map V.int)) := by rw [upd_ne dc]; exact hc1
        have kk2 : Kept (At d) H (upd H1 d (.dK (drK c (a + 1) l (u + 1)))) := kk1.upd rfl
        generalize upd H1 d (.dK (drK c (a + 1) l (u + 1))) = H2 at hd2 hc2 kk2 ⊢
        refine ⟨.int ns[j], rfl, .ref d, rfl, d, .int (a + 1), rfl, gd_at hd2, ns[j], a + 1, rfl, by omega, by omega, fun r1 hr1 => ?_⟩
        refine ⟨.ref d, rfl, d, .int (u + 1), rfl, gd_used hd2, r1, u + 1, rfl, by omega, by omega, fun r2 hr2 => ?_⟩
        refine ⟨.int m, rfl, r2, m, rfl, rfl, (by show 0 < m; omega), ?_⟩
        exact q (r2 % m) H2 (Int.emod_nonneg _ (by omega)) (Int.emod_lt_of_pos _ (by omega)) kk2 ⟨⟨a + 1, l, u + 1, hd2, by omega, by omega, l0, by omega, by omega⟩, hc2, D.ne⟩
      refine ⟨.int ns[j], rfl, 10, 18, rfl, rfl, ⟨by decide, by decide, by decide⟩, ns[j], _, rfl, rfl, _, rfl, ite2 (fun hge => ?_) (fun hge => ?_)⟩
      · refine ⟨.ref d, rfl, d, .int (a + 1), rfl, gd_at hd1, .ref c, rfl, c, ns.map V.int, rfl, .inl (.inl (.inl hc1)), a + 1, _, rfl, rfl, _, rfl, ite2 (fun hle => ?_) (fun hle => ?_)⟩
        · have hbig : (10 : Int) ^ (18 : Int).toNat ≤ ns[j] := of_decide_eq_true hge
          have hpos : (0 : Int) ≤ ns[j] := Int.le_trans (by decide) hbig
          refine ⟨.int ns[j], rfl, .int m, rfl, ns[j], m, rfl, rfl, ⟨by omega, by omega⟩, .ref d, rfl, d, _, rfl, pd_left hd1, ?_⟩
          refine ⟨.int ns[j], rfl, .int m, rfl, ns[j], m, rfl, rfl, (by show 0 < m; omega), ?_⟩
          exact q (ns[j] % m) _ (Int.emod_nonneg _ (by omega)) (Int.emod_lt_of_pos _ (by omega)) (kk1.upd rfl) ⟨⟨a + 1, ns[j] / m, u, upd_same, by omega, by omega, Int.ediv_nonneg hpos (by omega), u0, by omega⟩, by rw [upd_ne dc]; exact hc1, D.ne⟩
        · exact last
      · exact iteF last
end
end K7

set_option Elab.async false
set_option linter.all false
set_option maxRecDepth 100000
set_option maxHeartbeats 2000000
namespace K7
open PySem PySem.Spec PyProof.Rows L2
section
variable {X : Cx}
/-- repr(x), x a list or a tuple -/
def rRepr (K : PySem.W.Frag) : List V → Hp → VK → Prop := fun xs H Q => ∃ (a : Addr) (d : PyData), xs = [.ref a] ∧ Dp K H (.ref a) d ∧ d.showable = true ∧ d.hasDict = false ∧ d.depth ≤ 100 ∧ d.shown.length ≤ sizeLine ∧ Q (.str d.shown) H
theorem call_reprL (hg : X.A.guards = some []) {k : Nat} (hr : Room k X.A) : CallR X (.builtin "repr") (rRepr X.K) := by
  intro pins s σ H xs us Q I r h
  obtain ⟨a, d, rfl, hD, hs, hn, h1, hz, q⟩ := h
  cases r with
  | cons rx rr =>
    cases rr
    cases rx
    obtain ⟨as, R⟩ := Dp.reads I d _ _ hD rfl
    refine repr_of_reads' R hs (fun z => by rw [hn] at z; cases z) hg (by have := hr.un; omega) (fun _ _ z => z) (fun h' u tk kp => ?_) hz
    exact ⟨.str d.shown, H, I.kept (t' := tk) kp, ⟨_, rfl⟩, q⟩
end
end K7

set_option Elab.async false
set_option linter.all false
set_option maxRecDepth 100000
set_option maxHeartbeats 2000000
namespace K7
open PySem PySem.Spec PyProof.Rows L2
/-! ### defs whose promise wants that no text of a thing is under way (repr) -/
structure FnG (P : Program) (w : World) (K : PySem.W.Frag) (mg : PySem.Str → Option Value) (base : Heap) (k : Nat) (f : Addr) (fd : FuncData) (ps : List PySem.Str) (sp : Sp) : Prop where
  len : ∀ vs H Q E, sp vs H Q E → vs.length = ps.length
  go : ∀ (A : Around) (outer : List Env) (s : Shared) (H : Hp) (ar : Args) (us : List Value) (vs : List V) (Q : VK) (E : XK), A.guards = some [] → Room k A → Env0 P w K mg base A outer s H → BindsTo s fd ar (ps.zip us) → Vals vs us → sp vs H Q E →
    codeAny (model P w) A (.call (.ref f) ar) (CR CX0 outer P w H s Q E) s
/-- by the body -/
theorem fnG_of {P : Program} {w : World} {K : PySem.W.Frag} {mg : PySem.Str → Option Value} {base : Heap} {x : PySem.Str} {st : Stmt} {f : Addr} {fd : FuncData} {N ps : List PySem.Str} {k : Nat} {sp : Sp} (F : FnP K x st f fd) (S : FnScope N ps (defScope st))
    (len : ∀ vs H Q E, sp vs H Q E → vs.length = ps.length)
    (body : ∀ (cdv : Value) (A : Around) (outer : List Env) (s : Shared) (H : Hp) (vs : List V) (Q : VK) (E : XK), A.guards = some [] → Room k (A.deeper (envOfC x (defScope st) s.heap.objs.size f cdv)) → sp vs H Q E →
      ∃ t, PSs (cxOf CX0 P w K mg base N x (defScope st) f cdv A outer s H E) (defBody st) t ∧ t { nx := fun _ H' => Q .non H', rt := Q } (start N vs) H) : FnG P w K mg base (k + 1) f fd ps sp := by
  obtain ⟨oc, od, dV, kV, doc, pm, an, cdv, ct, osl, rfl, look, code, _, _⟩ := F.ex
  refine ⟨len, fun A outer s H ar us vs Q E gd room e0 bnd rel spq => ?_⟩
  have inK : K.In s.heap := e0.mod.kin.keeps fun b o z => (e0.bs b o z).1
  have kinds : ∀ y ∈ ps.zip us, (defScope st).names.lookup y.1 = some .local ∨ ((defScope st).names.lookup y.1 = some .cell ∧ ((cellsFrom (s.heap.objs.size + 1) (defScope st).names []).lookup y.1).isSome = true) := by
    rintro ⟨n, v⟩ hy
    rcases S.par n (List.of_mem_zip hy).1 with z | z
    · exact .inl z
    · exact .inr ⟨z, PySem.W.cellsFrom_some _ _ _ (.inl z)⟩
  refine codeAny_call_function room.depth (inK _ _ look) rfl S.co S.gen rfl (PySem.W.codeRec_of inK code) (bnd _ _ _ _ ?_)
  refine wpAny_newFunctionEnv_cells S.kind kinds fun env ee s1 entered => ?_
  subst ee
  refine ⟨(e0.mod.nolimit.keeps fun b o z => (e0.bs b o z).1).keeps entered.toInCall.keep, codeAny_func ?_⟩
  obtain ⟨t, ht, z0⟩ := body cdv A outer s H vs Q E gd (room.deeper _) spq
  refine wpAny_mono (ht.run [] s1 (start N vs) H _ (inv_start S room.hd e0 (len _ _ _ _ spq) rel entered) z0) (fun fl s' out => ?_) fun _ _ z => z
  match fl, out with
  | .ret u, ⟨v, _, H', J, rv, z⟩ => exact ⟨v, H', J.os, J.bare, J.base, J.hok, rv, z⟩
  | .next, ⟨_, H', J, z⟩ => exact ⟨.non, H', J.os, J.bare, J.base, J.hok, rfl, z⟩
  | .brk, ⟨_, _, _, z⟩ => exact z.elim
  | .cont, ⟨_, _, _, z⟩ => exact z.elim
section
variable {X : Cx} {k : Nat} {f : Addr} {fd : FuncData} {ps : List PySem.Str} {sp : Sp} {E : XK} {x : PySem.Str} {p pos : Pos} {e : Expr} {es : List Expr} {t : TA}
/-- f(e, ..) -/
theorem pe_callG (F : FnG X.prog X.w X.K X.mg X.base k f fd ps sp) (gd : X.A.guards = some []) (room : Room k X.A) (gl : Gl X x) (gm : X.mg x = some (.ref f)) (kp : PySem.W.keepIn X.K (.ref f) = true) (bi : Binds X.K fd ps []) (px : Passes CX0 X E)
    (ha : PA X (e :: es) t) (db : (x == ("__debug__" : PySem.Str)) = false := by decide) (st : starEach (e :: es) X.env = (false, eval e X.env) :: starEach es X.env := by rfl) (pl : (backTo pos (starEach es X.env)).any (·.1) = false := by rfl) :
    PE X (.Call (.Name x p) (e :: es) [] pos) (tCall sp [] E t) := by
  refine ⟨fun pins s σ H Q I h => wpAny_Call_Name_kw (ld_glob I gl gm ?_ db)⟩
  refine PySem.W.callWith_K (h₀ := X.base) I.ok.mod.kin kp (thn (ha.run pos pins s σ H _ I h) fun us s1 ⟨vs, H1, I1, rel, z⟩ => ⟨I1.kIn, ?_⟩) st pl
  have z : sp (vs ++ []) H1 Q E := z
  rw [List.append_nil] at z
  have n1 : us.length = ps.length := (rel.length.symm).trans (F.len _ _ _ _ z)
  have bnd := bi s1 us I1.kIn (by rw [List.append_nil]; exact n1)
  rw [List.append_nil] at bnd
  refine wpAny_call (codeAny_mono (F.go X.A X.stack s1 H1 ⟨us, []⟩ us vs Q E gd room I1.env0 bnd rel z) fun r s' out => ?_)
  match r, out with
  | .error er, out => exact px pins σ H1 s1 er s' I1 out
  | .ok (.ret u), out => exact I1.after out
  | .ok .next, out => exact out.elim
  | .ok .brk, out => exact out.elim
  | .ok .cont, out => exact out.elim
end
/-- the law's own call -/
theorem goG {P : Program} {w : World} {K : PySem.W.Frag} {mg mb : PySem.Str → Option Value} {k : Nat} {f a : Addr} {fd : FuncData} {x : PySem.Str} {sp : Sp} {s : Shared} {us : List Value} {ns : List Int}
    (inK : K.In s.heap) (nG : s.heap.Ns mainGlobals mg) (nB : s.heap.Ns builtinsNs mb) (isB : ∀ y : PySem.Str, y ≠ "__name__" → mb y = bootBuiltins y) (lim : s.heap.NoLimit) (gens : s.gens = #[])
    (scr : s.heap.get? a = some { cls := .type "list", data := .seq us.toArray }) (iv : IntsAre us ns) (few : ns.length ≤ sizeLine) (room : Room k callerA)
    (F : ∀ base : Heap, K.In base → base.Ns mainGlobals mg → FnG P w K mg base k f fd [x] sp) (bi : ∀ (s : Shared) (u : Value), BindsTo s fd ⟨[u], []⟩ [(x, u)])
    (spq : ∀ H : Hp, Only H → SqL K H a (ns.map V.int) → sp [.ref a] H (fun v _ => v = .bl true) fun _ _ _ => False) :
    codeAny (model P w) callerA (.call (.ref f) ⟨[.ref a], []⟩) (fun r s' => r = .ok (.ret (.bool true)) ∧ OldK s.heap s'.heap ∧ s'.os = s.os ∧ AllBare s'.gens) s := by
  have main : ∀ H : Hp, Only H → SqL K H a (ns.map V.int) → HOk P w H s.heap → (∀ b, H b ≠ none → b = a ∧ K.lookup a = none) →
      codeAny (model P w) callerA (.call (.ref f) ⟨[.ref a], []⟩) (fun r s' => r = .ok (.ret (.bool true)) ∧ OldK s.heap s'.heap ∧ s'.os = s.os ∧ AllBare s'.gens) s := fun H only seq ok just => by
    have isNone : ∀ {b : Addr}, (b = a → K.lookup a = none → False) → H b = none := fun {b} no => by
      cases z : H b with
      | none => rfl
      | some u => exact (no (just b (by rw [z]; exact fun q => nomatch q)).1 (just b (by rw [z]; exact fun q => nomatch q)).2).elim
    have dictN : ∀ {b : Addr} {m : PySem.Str → Option Value}, s.heap.Ns b m → (hidT s.heap H).Ns b m := fun {b m} ⟨o, es, ep, at_, dat, more⟩ =>
      ⟨o, es, ep, hidT_get at_ (isNone fun eb _ => by
        subst eb
        have z := congrArg Obj.data (Option.some.inj (scr.symm.trans at_))
        have z' : Data.seq us.toArray _ = Data.dict es ep := z.trans dat
        cases z'), dat, more⟩
    have inK' : K.In (hidT s.heap H) := fun b o at_ => hidT_get (inK b o at_) (isNone fun eb no => by
      subst eb
      rw [no] at at_
      cases at_)
    have env : Env0 P w K mg (hidT s.heap H) callerA [] s H := by
      obtain ⟨mc, l1, l2⟩ := lim
      exact ⟨rfl, ⟨inK', dictN nG, ⟨mb, dictN nB, isB⟩, ⟨mc, dictN l1, l2⟩⟩, fun _ _ z => of_hidT z, Nat.le_of_eq (hidT_size _ _), trivial, fun b hb => (nomatch (show b ∈ ([] : List Addr) from hb)), ok, .of_eq gens⟩
    refine codeAny_mono ((F _ inK' (dictN nG)).go callerA [] s H ⟨[.ref a], []⟩ [.ref a] [.ref a] _ _ rfl room env (bi s (.ref a)) (.cons rfl .nil) (spq H only seq)) fun r s' out => ?_
    match r, out with
    | .error er, out => exact False.elim out
    | .ok .next, out => exact False.elim out
    | .ok .brk, out => exact False.elim out
    | .ok .cont, out => exact False.elim out
    | .ok (.ret u), ⟨v, H', os, bare, un, ok', rv, ev⟩ =>
      have ev' : v = .bl true := ev
      subst ev'
      obtain rfl : u = Value.bool true := rv
      refine ⟨rfl, OldK.of_keep fun b o at_ => ?_, os, bare⟩
      cases z : H b with
      | none => exact un.keep b o at_ z (fun q => (nomatch (show b ∈ ([] : List Addr) from q))) (fun q => nomatch q)
      | some u =>
        rcases only b with z' | ⟨ob, xs, z'⟩
        · rw [z] at z'
          cases z'
        · have one := (ok b _ z').1
          have two := (ok' b _ (un.frzs b ob _ z')).1
          rw [at_] at one
          cases one
          exact two
  have rel := vals_ints iv
  cases look : K.lookup a with
  | some o =>
    have eo := Option.some.inj (scr.symm.trans (inK a o look))
    subst eo
    exact main (fun _ => none) (fun _ => .inl rfl) (.inr ⟨_, us.toArray, _, look, rfl, rfl, rfl, by rw [List.size_toArray, iv.length]; exact few, by simpa using rel⟩) (fun b u z => by
      have z' : (none : Option HO) = some u := z
      cases z') fun b z => (z rfl).elim
  | none =>
    have on : ∀ b u, (if b = a then some (HO.frz { cls := .type "list", data := .seq us.toArray } (.lst (ns.map V.int))) else none) = some u → b = a ∧ u = HO.frz { cls := .type "list", data := .seq us.toArray } (.lst (ns.map V.int)) := fun b u z => by
      by_cases eb : b = a
      · rw [if_pos eb] at z
        exact ⟨eb, (Option.some.inj z).symm⟩
      · rw [if_neg eb] at z
        cases z
    refine main (fun b => if b = a then some (.frz { cls := .type "list", data := .seq us.toArray } (.lst (ns.map V.int))) else none) (fun b => ?_) (.inl (.inr ⟨_, if_pos rfl⟩)) (fun b u z => ?_) (fun b z => ?_)
    · by_cases eb : b = a
      · exact .inr ⟨_, _, if_pos eb⟩
      · exact .inl (if_neg eb)
    · obtain ⟨eb, eu⟩ := on b u z
      subst eb eu
      exact ⟨scr, by rw [List.length_map]; exact few, us, _, rel, scr⟩
    · by_cases eb : b = a
      · exact ⟨eb, look⟩
      · exact (z (if_neg eb)).elim
/-- the end -/
theorem walkG {l : PySem.W.OpenLaw} {n k : Nat} {q : Program} {loose : List PySem.Str} {XP : (PySem.Str → Option Value) → Heap → Prop} {YP : World → Heap → Prop} {d : DefRec} {x : PySem.Str} (most : l.most = some n) (small : n ≤ sizeLine) (nodf : d.params.defaults = []) (room : Room k callerA)
    (F : ∀ (w : World) (mg : PySem.Str → Option Value) (f : Addr) (h : Heap), YP w h → h.Ns mainGlobals mg → mg d.name = some (.ref f) → ∃ (K : PySem.W.Frag) (fd : FuncData) (sp : Sp), K.In h ∧ (∀ (s : Shared) (u : Value), BindsTo s fd ⟨[u], []⟩ [(x, u)]) ∧
      (∀ base : Heap, K.In base → base.Ns mainGlobals mg → FnG l.prog w K mg base k f fd [x] sp) ∧ ∀ (H : Hp) (a : Addr) (ns : List Int), ns.length ≤ n → SqL K H a (ns.map V.int) → sp [.ref a] H (fun v _ => v = .bl true) fun _ _ _ => False) :
    PySem.W.WalkO q loose XP YP l.row.toRowW d [] (fun f vs => PySem.call f vs) := by
  refine Att.attach_call most nodf fun w s0 s1 mg mb f o pm cd doc a us ns G Y _ _ _ hmg scr iv few gens => ?_
  obtain ⟨K, fd, sp, inK, bi, hF, spq⟩ := F w mg f _ Y G.T.g hmg
  exact goG inK G.T.g G.T.b G.T.builtins G.T.nolimit gens scr iv (Nat.le_trans few small) room hF bi fun H _ seq => spq H a ns few seq
end K7

set_option Elab.async false
set_option linter.all false
set_option maxRecDepth 100000
set_option maxHeartbeats 4000000
namespace K7
open PySem
/-! ### the mathematics -/
theorem bA (a b : Nat) : Builtin.bitAnd (a : Int) (b : Int) = ((a &&& b : Nat) : Int) := by
  rw [PyProof.Rows.bitAnd_pp (Int.natCast_nonneg a) (Int.natCast_nonneg b), Int.toNat_natCast, Int.toNat_natCast]
theorem bO (a b : Nat) : Builtin.bitOr (a : Int) (b : Int) = ((a ||| b : Nat) : Int) := by
  rw [Bits.bitOr_pp (Int.natCast_nonneg a) (Int.natCast_nonneg b), Int.toNat_natCast, Int.toNat_natCast]
theorem bX (a b : Nat) : Builtin.bitXor (a : Int) (b : Int) = ((a ^^^ b : Nat) : Int) := by
  rw [Bits.bitXor_pp (Int.natCast_nonneg a) (Int.natCast_nonneg b), Int.toNat_natCast, Int.toNat_natCast]
section
open PySem.Spec PyProof.Rows L2
variable {X : Cx}
def rAndN : R2 := fun x y H Q => ∃ n m : Nat, x = .int (n : Int) ∧ y = .int (m : Int) ∧ Q (.int ((n &&& m : Nat) : Int)) H
def rOrN : R2 := fun x y H Q => ∃ n m : Nat, x = .int (n : Int) ∧ y = .int (m : Int) ∧ Q (.int ((n ||| m : Nat) : Int)) H
def rXorN : R2 := fun x y H Q => ∃ n m : Nat, x = .int (n : Int) ∧ y = .int (m : Int) ∧ Q (.int ((n ^^^ m : Nat) : Int)) H
def rShlN : R2 := fun x y H Q => ∃ n k : Nat, x = .int (n : Int) ∧ y = .int (k : Int) ∧ (n ≤ 1073741824 ∧ k ≤ 1000000) ∧ Q (.int ((n * 2 ^ k : Nat) : Int)) H
def rBit : R2 := fun x y H Q => ∃ k : Nat, x = .int 1 ∧ y = .int (k : Int) ∧ k ≤ 1000000 ∧ Q (.int ((2 ^ k : Nat) : Int)) H
def rShrN : R2 := fun x y H Q => ∃ n k : Nat, x = .int (n : Int) ∧ y = .int (k : Int) ∧ Q (.int ((n >>> k : Nat) : Int)) H
def rEqN : R2 := fun x y H Q => ∃ n m : Nat, x = .int (n : Int) ∧ y = .int (m : Int) ∧ Q (.bl (decide (n = m))) H
def rLtN : R2 := fun x y H Q => ∃ n m : Nat, x = .int (n : Int) ∧ y = .int (m : Int) ∧ Q (.bl (decide (n < m))) H
def rGtN : R2 := fun x y H Q => ∃ n m : Nat, x = .int (n : Int) ∧ y = .int (m : Int) ∧ Q (.bl (decide (m < n))) H
def rSubN : R2 := fun x y H Q => ∃ n m : Nat, x = .int (n : Int) ∧ y = .int (m : Int) ∧ m ≤ n ∧ Q (.int ((n - m : Nat) : Int)) H
def rAddN : R2 := fun x y H Q => ∃ n m : Nat, x = .int (n : Int) ∧ y = .int (m : Int) ∧ Q (.int ((n + m : Nat) : Int)) H
theorem n_sub : OpR X (binaryOp .Sub) rSubN := op_subN
theorem n_add : OpR X (binaryOp .Add) rAddN := op_addN
theorem n_and : OpR X (binaryOp .BitAnd) rAndN := by
  intro pins s σ H x y v u Q I rx ry h
  obtain ⟨n, m, rfl, rfl, q⟩ := h
  rw [← bA] at q
  exact op_and pins s σ H _ _ v u Q I rx ry ⟨_, _, rfl, rfl, q⟩
theorem n_or : OpR X (binaryOp .BitOr) rOrN := by
  intro pins s σ H x y v u Q I rx ry h
  obtain ⟨n, m, rfl, rfl, q⟩ := h
  rw [← bO] at q
  exact op_or pins s σ H _ _ v u Q I rx ry ⟨_, _, rfl, rfl, q⟩
theorem n_xor : OpR X (binaryOp .BitXor) rXorN := by
  intro pins s σ H x y v u Q I rx ry h
  obtain ⟨n, m, rfl, rfl, q⟩ := h
  rw [← bX] at q
  exact op_xor pins s σ H _ _ v u Q I rx ry ⟨_, _, rfl, rfl, q⟩
theorem n_shl : OpR X (binaryOp .LShift) rShlN := by
  intro pins s σ H x y v u Q I rx ry h
  obtain ⟨n, k, rfl, rfl, ⟨c1, c2⟩, q⟩ := h
  have e : ((n * 2 ^ k : Nat) : Int) = (n : Int) * 2 ^ ((k : Int)).toNat := by rw [Int.toNat_natCast]; simp
  rw [e] at q
  exact op_shl pins s σ H _ _ v u Q I rx ry ⟨_, _, rfl, rfl, ⟨Int.natCast_nonneg k, by omega, by omega⟩, q⟩
theorem n_bit : OpR X (binaryOp .LShift) rBit := by
  intro pins s σ H x y v u Q I rx ry h
  obtain ⟨k, rfl, rfl, c, q⟩ := h
  have e : ((2 ^ k : Nat) : Int) = (1 : Int) * 2 ^ ((k : Int)).toNat := by rw [Int.toNat_natCast]; simp
  rw [e] at q
  exact op_shl pins s σ H _ _ v u Q I rx ry ⟨_, _, rfl, rfl, ⟨Int.natCast_nonneg k, by omega, by decide⟩, q⟩
theorem n_shr : OpR X (binaryOp .RShift) rShrN := by
  intro pins s σ H x y v u Q I rx ry h
  obtain ⟨n, k, rfl, rfl, q⟩ := h
  have e : ((n >>> k : Nat) : Int) = (n : Int) / 2 ^ ((k : Int)).toNat := by rw [Int.toNat_natCast, Nat.shiftRight_eq_div_pow]; simp
  rw [e] at q
  exact op_shr pins s σ H _ _ v u Q I rx ry ⟨_, _, rfl, rfl, Int.natCast_nonneg k, q⟩
theorem n_eq : OpR X (compareOp .Eq) rEqN := by
  intro pins s σ H x y v u Q I rx ry h
  obtain ⟨n, m, rfl, rfl, q⟩ := h
  refine op_eq pins s σ H _ _ v u Q I rx ry ⟨rfl, ?_⟩
  rw [show decide (V.int (n : Int) = V.int (m : Int)) = decide (n = m) from decide_eq_decide.mpr ⟨fun z => by have := V.int.inj z; omega, fun z => by rw [z]⟩]
  exact q
theorem n_lt : OpR X (compareOp .Lt) rLtN := by
  intro pins s σ H x y v u Q I rx ry h
  obtain ⟨n, m, rfl, rfl, q⟩ := h
  refine op_lt pins s σ H _ _ v u Q I rx ry ⟨_, _, rfl, rfl, ?_⟩
  show Q (.bl (decide ((n : Int) < (m : Int)))) H
  rw [show decide ((n : Int) < (m : Int)) = decide (n < m) from decide_eq_decide.mpr (by omega)]
  exact q
theorem n_gt : OpR X (compareOp .Gt) rGtN := by
  intro pins s σ H x y v u Q I rx ry h
  obtain ⟨n, m, rfl, rfl, q⟩ := h
  refine op_gt pins s σ H _ _ v u Q I rx ry ⟨_, _, rfl, rfl, ?_⟩
  show Q (.bl (decide ((m : Int) < (n : Int)))) H
  rw [show decide ((m : Int) < (n : Int)) = decide (m < n) from decide_eq_decide.mpr (by omega)]
  exact q
def rNeN : R2 := fun x y H Q => ∃ n m : Nat, x = .int (n : Int) ∧ y = .int (m : Int) ∧ Q (.bl (!decide (n = m))) H
theorem n_ne : OpR X (compareOp .NotEq) rNeN := by
  intro pins s σ H x y v u Q I rx ry h
  obtain ⟨n, m, rfl, rfl, q⟩ := h
  refine op_ne pins s σ H _ _ v u Q I rx ry ⟨rfl, ?_⟩
  rw [show decide (V.int (n : Int) = V.int (m : Int)) = decide (n = m) from decide_eq_decide.mpr ⟨fun z => by have := V.int.inj z; omega, fun z => by rw [z]⟩]
  exact q
def rGeN : R2 := fun x y H Q => ∃ n m : Nat, x = .int (n : Int) ∧ y = .int (m : Int) ∧ Q (.bl (decide (m ≤ n))) H
theorem n_ge : OpR X (compareOp .GtE) rGeN := by
  intro pins s σ H x y v u Q I rx ry h
  obtain ⟨n, m, rfl, rfl, q⟩ := h
  refine op_ge pins s σ H _ _ v u Q I rx ry ⟨_, _, rfl, rfl, ?_⟩
  show Q (.bl (decide ((m : Int) ≤ (n : Int)))) H
  rw [show decide ((m : Int) ≤ (n : Int)) = decide (m ≤ n) from decide_eq_decide.mpr (by omega)]
  exact q
def rLeN : R2 := fun x y H Q => ∃ n m : Nat, x = .int (n : Int) ∧ y = .int (m : Int) ∧ Q (.bl (decide (n ≤ m))) H
theorem n_le : OpR X (compareOp .LtE) rLeN := by
  intro pins s σ H x y v u Q I rx ry h
  obtain ⟨n, m, rfl, rfl, q⟩ := h
  refine op_le pins s σ H _ _ v u Q I rx ry ⟨_, _, rfl, rfl, ?_⟩
  show Q (.bl (decide ((n : Int) ≤ (m : Int)))) H
  rw [show decide ((n : Int) ≤ (m : Int)) = decide (n ≤ m) from decide_eq_decide.mpr (by omega)]
  exact q
/-- n & ~m -/
def rAndC : R2 := fun x y H Q => ∃ n m : Nat, x = .int (n : Int) ∧ y = .int (Builtin.bitNot (m : Int)) ∧ Q (.int ((n - (n &&& m) : Nat) : Int)) H
theorem bC (n m : Nat) : Builtin.bitAnd (n : Int) (Builtin.bitNot (m : Int)) = ((n - (n &&& m) : Nat) : Int) := by
  have h1 : decide ((0 : Int) ≤ (n : Int)) = true := decide_eq_true (Int.natCast_nonneg n)
  have h2 : decide ((0 : Int) ≤ Builtin.bitNot (m : Int)) = false := decide_eq_false (by unfold Builtin.bitNot; omega)
  have h3 : (Builtin.bitNot (Builtin.bitNot (m : Int))).toNat = m := by
    unfold Builtin.bitNot
    omega
  unfold Builtin.bitAnd
  rw [h1, h2]
  show (n : Int) - (((n : Int).toNat &&& (Builtin.bitNot (Builtin.bitNot (m : Int))).toNat : Nat) : Int) = _
  rw [h3, Int.toNat_natCast]
  have : n &&& m ≤ n := Nat.and_le_left
  omega
theorem n_andC : OpR X (binaryOp .BitAnd) rAndC := by
  intro pins s σ H x y v u Q I rx ry h
  obtain ⟨n, m, rfl, rfl, q⟩ := h
  rw [← bC] at q
  exact op_and pins s σ H _ _ v u Q I rx ry ⟨_, _, rfl, rfl, q⟩
def rAddE : R2 := fun x y H Q => ∃ i j k : Int, x = .int i ∧ y = .int j ∧ i + j = k ∧ Q (.int k) H
theorem op_addE : OpR X (binaryOp .Add) rAddE := by
  intro pins s σ H x y v u Q I rx ry h
  obtain ⟨i, j, k, rfl, rfl, rfl, q⟩ := h
  exact op_add pins s σ H _ _ v u Q I rx ry ⟨_, _, rfl, rfl, q⟩
def rModN : R2 := fun x y H Q => ∃ n m : Nat, x = .int (n : Int) ∧ y = .int (m : Int) ∧ 0 < m ∧ Q (.int ((n % m : Nat) : Int)) H
theorem n_mod : OpR X (binaryOp .Mod) rModN := by
  intro pins s σ H x y v u Q I rx ry h
  obtain ⟨n, m, rfl, rfl, c, q⟩ := h
  rw [Int.natCast_emod] at q
  exact op_mod pins s σ H _ _ v u Q I rx ry ⟨_, _, rfl, rfl, (by show (0 : Int) < (m : Int); omega), q⟩
def rMulN : R2 := fun x y H Q => ∃ n m : Nat, x = .int (n : Int) ∧ y = .int (m : Int) ∧ n ≤ 4294967296 ∧ Q (.int ((n * m : Nat) : Int)) H
theorem n_mul : OpR X (binaryOp .Mult) rMulN := op_mulN
end
end K7

set_option Elab.async false
set_option linter.all false
set_option maxRecDepth 100000
set_option maxHeartbeats 2000000
namespace K7
open PySem PySem.Spec PyProof.Rows L2
/-! ### helpers: what stays, facts as tuples -/
theorem Kept.sqt {K : PySem.W.Frag} {D : Addr → Prop} {H H1 : Hp} (a : Kept D H H1) {p : Addr} {xs : List V} (h : SqT K H p xs) (n : ¬ D p) : SqT K H1 p xs := by
  rcases h with (h | ⟨o, h⟩) | h
  · exact .inl (.inl (a.tup h n))
  · exact .inl (.inr ⟨o, a.frz h n⟩)
  · exact .inr h
theorem sqt_new {K : PySem.W.Frag} {H : Hp} {p b : Addr} {xs : List V} {o : HO} (h : SqT K H p xs) (n : H b = none) : SqT K (upd H b o) p xs := by
  rcases h with (h | ⟨o', h⟩) | h
  · exact .inl (.inl (by rw [upd_ne (ne_of_none h n)]; exact h))
  · exact .inl (.inr ⟨o', by rw [upd_ne (ne_of_none h n)]; exact h⟩)
  · exact .inr h
theorem sqt_upd {K : PySem.W.Frag} {H : Hp} {p b : Addr} {xs ys zs : List V} (h : SqT K H p xs) (e : H b = some (.lst ys)) : SqT K (upd H b (.lst zs)) p xs := by
  rcases h with (h | ⟨o', h⟩) | h
  · exact .inl (.inl (by rw [upd_ne (ne_of h e (by intro z; cases z))]; exact h))
  · exact .inl (.inr ⟨o', by rw [upd_ne (ne_of h e (by intro z; cases z))]; exact h⟩)
  · exact .inr h
theorem sql_new {K : PySem.W.Frag} {H : Hp} {p b : Addr} {xs : List V} {o : HO} (h : SqL K H p xs) (n : H b = none) : SqL K (upd H b o) p xs := by
  rcases h with (h | ⟨o', h⟩) | h
  · exact .inl (.inl (by rw [upd_ne (ne_of_none h n)]; exact h))
  · exact .inl (.inr ⟨o', by rw [upd_ne (ne_of_none h n)]; exact h⟩)
  · exact .inr h
theorem Kept.nu {H H1 : Hp} {d c p : Addr} {o : HO} {ns : List Int} {n : Nat} (k : Kept (At d) H H1) (D : Dr H1 d c ns n) (h : H1 p = none) : Kept (At d) H (L2.upd H1 p o) := k.new (At.free k D h)
def two (z o : Nat) : List V := [.int (z : Int), .int (o : Int)]
def twoF (f : Nat × Nat) : List V := two f.1 f.2
def most (w : Nat) : Nat := 2 ^ w - 1
theorem pow_bound {w : Nat} (h : w ≤ 12) : (2 : Nat) ^ w ≤ 4096 := Nat.pow_le_pow_right (by decide) h
theorem pow_pos' {w : Nat} : 1 ≤ (2 : Nat) ^ w := Nat.one_le_two_pow
theorem most_pow (w : Nat) : most w + 1 = 2 ^ w := by
  have := pow_pos' (w := w)
  unfold most
  omega
theorem dpTwo {K : PySem.W.Frag} {H : Hp} {p : Addr} {z o : Nat} (h : SqT K H p (two z o)) : Dp K H (.ref p) (.tuple [.int z, .int o]) := .tup h (.cons (.int _) (.cons (.int _) .nil))
def nums (l : List Nat) : List V := l.map fun n : Nat => V.int (n : Int)
def numsD (l : List Nat) : PyData := .list (l.map fun n : Nat => PyData.int (n : Int))
theorem dpNums {K : PySem.W.Frag} {H : Hp} : ∀ l : List Nat, DpAll K H (nums l) (l.map fun n : Nat => PyData.int (n : Int))
  | [] => .nil
  | x :: l => .cons (.int _) (dpNums l)
theorem small_log {i : Int} (h0 : 0 ≤ i) (h1 : i < 1000000000) : i.natAbs.log2 < 1920 := by
  by_cases h : i.natAbs = 0
  · rw [h]; decide
  · exact (Nat.log2_lt h).mpr (Nat.lt_of_lt_of_le (show i.natAbs < 2 ^ 30 by omega) (Nat.pow_le_pow_right (by decide) (by decide)))
theorem short_int {i : Int} (h0 : 0 ≤ i) (h1 : i < 1000000000) : (PyData.int i).leavesShort 2000 = true := by
  have e := int_text_len_1921 (small_log h0 h1)
  exact decide_eq_true (Nat.le_trans (show (PyData.shown (.int i)).length ≤ 1921 from e) (by decide))
theorem show_int {i : Int} (h0 : 0 ≤ i) (h1 : i < 1000000000) : (PyData.int i).showable = true := decide_eq_true (small_log h0 h1)
def dF (z o : Nat) : PyData := .tuple [.int z, .int o]
theorem dF_ok {z o : Nat} (hz : z < 5000) (ho : o < 5000) : (dF z o).showable = true ∧ (dF z o).shown.length ≤ sizeLine := by
  have a := short_int (i := (z : Int)) (by omega) (by omega)
  have b := short_int (i := (o : Int)) (by omega) (by omega)
  have c := show_int (i := (z : Int)) (by omega) (by omega)
  have d := show_int (i := (o : Int)) (by omega) (by omega)
  constructor
  · show (PyData.showable (PyData.int (z : Int)) && (PyData.showable (PyData.int (o : Int)) && true)) = true
    rw [c, d]; rfl
  · have e := PyData.shown_le_bulk 2000 (by decide) (dF z o) (by
      show (PyData.leavesShort 2000 (PyData.int (z : Int)) && (PyData.leavesShort 2000 (PyData.int (o : Int)) && true)) = true
      rw [a, b]; rfl)
    have f : (dF z o).bulk = 2 := rfl
    rw [f] at e
    rw [sizeLine_eq]
    omega
/-- a def that stands, with its promise -/
def Def (P : Program) (w : World) (K : PySem.W.Frag) (mg : PySem.Str → Option Value) (base : Heap) (k : Nat) (x : PySem.Str) (ps : List PySem.Str) (sp : Sp) : Prop := ∃ f fd, FnOk P w K mg base CX0 k f fd ps sp ∧ Binds K fd ps [] ∧ PySem.W.keepIn K (.ref f) = true ∧ mg x = some (.ref f)
def DefG (P : Program) (w : World) (K : PySem.W.Frag) (mg : PySem.Str → Option Value) (base : Heap) (k : Nat) (x : PySem.Str) (ps : List PySem.Str) (sp : Sp) : Prop := ∃ f fd, FnG P w K mg base k f fd ps sp ∧ Binds K fd ps [] ∧ PySem.W.keepIn K (.ref f) = true ∧ mg x = some (.ref f)
end K7

set_option Elab.async false
set_option linter.all false
set_option maxRecDepth 100000
set_option maxHeartbeats 2000000
namespace K7
open PySem PySem.StrLaws PySem.Builtin PySem.Builtin.Str
/-! ### texts as lists of signs -/
def mkS (l : List Nat) : PySem.Str := ⟨l.toArray⟩
theorem mkS_list (l : List Nat) : (mkS l).cps.toList = l := by simp [mkS]
theorem mkS_len (l : List Nat) : (mkS l).length = l.length := by simp [mkS, PySem.Str.length]
theorem mkS_of (x : PySem.Str) : mkS x.cps.toList = x := by cases x; simp [mkS]
theorem mkS_inj {a b : List Nat} (h : mkS a = mkS b) : a = b := by
  have e := congrArg (fun s : PySem.Str => s.cps.toList) h
  simpa [mkS] using e
theorem len_list (x : PySem.Str) : x.length = x.cps.toList.length := by simp [PySem.Str.length]
/-! ### parting by one sign -/
def pr (c : Nat) : List Nat → List Nat × List (List Nat)
  | [] => ([], [])
  | x :: l => if x = c then ([], (pr c l).1 :: (pr c l).2) else (x :: (pr c l).1, (pr c l).2)
def parts (c : Nat) (l : List Nat) : List (List Nat) := (pr c l).1 :: (pr c l).2
theorem parts_hit (c : Nat) (l : List Nat) : parts c (c :: l) = [] :: parts c l := by
  unfold parts; rw [pr, if_pos rfl]
theorem parts_miss {c x : Nat} (h : x ≠ c) (l : List Nat) : parts c (x :: l) = (x :: (pr c l).1) :: (pr c l).2 := by
  unfold parts; rw [pr, if_neg h]
theorem parts_len (c : Nat) : ∀ l : List Nat, (parts c l).length ≤ l.length + 1
  | [] => by simp [parts, pr]
  | x :: l => by
    have ih := parts_len c l
    by_cases h : x = c
    · subst h; rw [parts_hit]; simp only [List.length_cons]; omega
    · rw [parts_miss h]; unfold parts at ih; simp only [List.length_cons] at ih ⊢; omega
theorem parts_mem_len (c : Nat) : ∀ l : List Nat, ∀ w ∈ parts c l, w.length ≤ l.length
  | [], w, hw => by simp [parts, pr] at hw; simp [hw]
  | x :: l, w, hw => by
    have ih := parts_mem_len c l
    by_cases h : x = c
    · subst h; rw [parts_hit] at hw
      rcases List.mem_cons.mp hw with e | hw
      · subst e; exact Nat.zero_le _
      · exact Nat.le_succ_of_le (ih w hw)
    · rw [parts_miss h] at hw
      rcases List.mem_cons.mp hw with e | hw
      · subst e
        have := ih _ (by unfold parts; exact List.mem_cons_self)
        simp only [List.length_cons]; omega
      · exact Nat.le_succ_of_le (ih w (by unfold parts; exact List.mem_cons_of_mem _ hw))
/-- one sign more -/
theorem parts_snoc (c : Nat) : ∀ (l : List Nat) (x : Nat), ∃ d u, parts c l = d ++ [u] ∧ parts c (l ++ [x]) = if x = c then d ++ [u] ++ [[]] else d ++ [u ++ [x]]
  | [], x => by
    refine ⟨[], [], rfl, ?_⟩
    by_cases h : x = c
    · subst h; rw [if_pos rfl]; show parts x [x] = _; rw [parts_hit]; rfl
    · rw [if_neg h]; show parts c [x] = _; rw [parts_miss h]; rfl
  | y :: l, x => by
    obtain ⟨d, u, e1, e2⟩ := parts_snoc c l x
    show ∃ d u, parts c (y :: l) = d ++ [u] ∧ parts c (y :: (l ++ [x])) = _
    by_cases hy : y = c
    · subst hy
      refine ⟨[] :: d, u, by rw [parts_hit, e1]; rfl, ?_⟩
      rw [parts_hit, e2]
      split <;> rfl
    · rw [parts_miss hy, parts_miss hy]
      have p1 : (pr c l).1 :: (pr c l).2 = d ++ [u] := e1
      have p2 : (pr c (l ++ [x])).1 :: (pr c (l ++ [x])).2 = if x = c then d ++ [u] ++ [[]] else d ++ [u ++ [x]] := e2
      cases d with
      | nil =>
        obtain ⟨q1, q2⟩ := List.cons.inj p1
        refine ⟨[], y :: u, by rw [q1, q2]; rfl, ?_⟩
        by_cases hx : x = c
        · rw [if_pos hx] at p2 ⊢
          obtain ⟨z1, z2⟩ := List.cons.inj p2
          rw [z1, z2]; rfl
        · rw [if_neg hx] at p2 ⊢
          obtain ⟨z1, z2⟩ := List.cons.inj p2
          rw [z1, z2]; rfl
      | cons g d =>
        obtain ⟨q1, q2⟩ := List.cons.inj p1
        refine ⟨(y :: g) :: d, u, by rw [q1, q2]; rfl, ?_⟩
        by_cases hx : x = c
        · rw [if_pos hx] at p2 ⊢
          obtain ⟨z1, z2⟩ := List.cons.inj p2
          rw [z1, z2]; rfl
        · rw [if_neg hx] at p2 ⊢
          obtain ⟨z1, z2⟩ := List.cons.inj p2
          rw [z1, z2]; rfl
/-! ### split by one sign -/
def idx (c : Nat) : Nat → List Nat → List Nat
  | _, [] => []
  | a, y :: r => if y = c then a :: idx c (a + 1) r else idx c (a + 1) r
theorem idx_ge (c : Nat) : ∀ (a : Nat) (l : List Nat), ∀ k ∈ idx c a l, a ≤ k
  | _, [], _, h => by simp [idx] at h
  | a, y :: r, k, h => by
    unfold idx at h
    split at h
    · rcases List.mem_cons.mp h with e | h
      · omega
      · have := idx_ge c (a + 1) r k h; omega
    · have := idx_ge c (a + 1) r k h; omega
theorem sub1 (x : PySem.Str) (c i : Nat) : (i + (⟨#[c]⟩ : PySem.Str).length ≤ x.length ∧ subAt x ⟨#[c]⟩ i = true) ↔ x.cps.toList[i]? = some c := by
  have hl : (⟨#[c]⟩ : PySem.Str).length = 1 := rfl
  rw [subAt_eq, hl]
  have hn := len_list x
  constructor
  · rintro ⟨h1, h2⟩
    have h3 := eq_of_beq h2
    have hi : i < x.cps.toList.length := by omega
    have e : (x.cps.toList.drop i).take 1 = [x.cps.toList[i]] := by
      rw [List.drop_eq_getElem_cons hi]; rfl
    rw [e] at h3
    rw [List.getElem?_eq_getElem hi]
    have : [x.cps.toList[i]] = [c] := h3
    rw [List.cons.inj this |>.1]
  · intro h
    obtain ⟨hi, e⟩ := List.getElem?_eq_some_iff.mp h
    refine ⟨by omega, ?_⟩
    rw [List.drop_eq_getElem_cons hi, e]
    exact beq_self_eq_true _
theorem occ_run (x : PySem.Str) (c : Nat) : ∀ (l : List Nat) (a : Nat) (st : Array Nat × Nat), x.cps.toList.drop a = l → a + l.length = x.length → st.fst.size ≤ a → st.snd ≤ a →
    (forIn (List.range' a (l.length + 1)) st (occBody x ⟨#[c]⟩ x.length (x.length + 1))).run.fst.toList = st.fst.toList ++ idx c a l
  | [], a, st, hd, hz, h1, h2 => by
    show (forIn (List.range' a 1) st (occBody x ⟨#[c]⟩ x.length (x.length + 1))).run.fst.toList = _
    rw [List.range'_succ, List.forIn_cons]
    unfold occBody
    have hne : ¬ (((st.fst.size < x.length + 1 ∧ st.snd ≤ a) ∧ a + (⟨#[c]⟩ : PySem.Str).length ≤ x.length) ∧ subAt x ⟨#[c]⟩ a = true) := by
      rintro ⟨⟨_, h⟩, _⟩
      have hl : (⟨#[c]⟩ : PySem.Str).length = 1 := rfl
      simp only [List.length_nil] at hz
      omega
    rw [if_neg hne]
    simp [idx]
  | y :: r, a, st, hd, hz, h1, h2 => by
    show (forIn (List.range' a ((r.length + 1) + 1)) st (occBody x ⟨#[c]⟩ x.length (x.length + 1))).run.fst.toList = _
    rw [List.range'_succ, List.forIn_cons]
    have hg : x.cps.toList[a]? = some y := by
      have e := congrArg (fun l : List Nat => l[0]?) hd
      simp only [List.getElem?_drop, Nat.add_zero] at e
      simpa using e
    have hd' : x.cps.toList.drop (a + 1) = r := by
      rw [← List.drop_drop, hd]; rfl
    have hz' : (a + 1) + r.length = x.length := by simp only [List.length_cons] at hz; omega
    by_cases hy : y = c
    · subst hy
      have hp : ((st.fst.size < x.length + 1 ∧ st.snd ≤ a) ∧ a + (⟨#[y]⟩ : PySem.Str).length ≤ x.length) ∧ subAt x ⟨#[y]⟩ a = true := by
        have q := (sub1 x y a).mpr hg
        exact ⟨⟨⟨by omega, h2⟩, q.1⟩, q.2⟩
      have e1 : occBody x ⟨#[y]⟩ x.length (x.length + 1) a st = pure (ForInStep.yield (st.fst.push a, a + (⟨#[y]⟩ : PySem.Str).length)) := by
        unfold occBody; rw [if_pos hp]
      rw [e1]
      have ih := occ_run x y r (a + 1) (st.fst.push a, a + 1) hd' hz' (by simp; omega) (Nat.le_refl _)
      have hl : (⟨#[y]⟩ : PySem.Str).length = 1 := rfl
      show (forIn (List.range' (a + 1) (r.length + 1)) (st.fst.push a, a + (⟨#[y]⟩ : PySem.Str).length) (occBody x ⟨#[y]⟩ x.length (x.length + 1))).run.fst.toList = _
      rw [hl, ih]
      simp [idx]
    · have hn : ¬ (((st.fst.size < x.length + 1 ∧ st.snd ≤ a) ∧ a + (⟨#[c]⟩ : PySem.Str).length ≤ x.length) ∧ subAt x ⟨#[c]⟩ a = true) := by
        rintro ⟨⟨_, h3⟩, h4⟩
        have q := (sub1 x c a).mp ⟨h3, h4⟩
        rw [hg] at q
        exact hy (Option.some.inj q)
      have e1 : occBody x ⟨#[c]⟩ x.length (x.length + 1) a st = pure (ForInStep.yield (st.fst, st.snd)) := by
        unfold occBody; rw [if_neg hn]
      rw [e1]
      have ih := occ_run x c r (a + 1) (st.fst, st.snd) hd' hz' (by show st.fst.size ≤ a + 1; omega) (by show st.snd ≤ a + 1; omega)
      show (forIn (List.range' (a + 1) (r.length + 1)) (st.fst, st.snd) (occBody x ⟨#[c]⟩ x.length (x.length + 1))).run.fst.toList = _
      rw [ih]
      simp [idx, hy]
theorem occ_idx (x : PySem.Str) (c : Nat) : occurrences x ⟨#[c]⟩ 0 x.length (x.length + 1) = idx c 0 x.cps.toList := by
  rw [occ_eq]
  have h := occ_run x c x.cps.toList 0 (#[], 0) rfl (by rw [len_list x]; omega) (Nat.le_refl _) (Nat.le_refl _)
  have e : x.length + 1 - 0 = x.cps.toList.length + 1 := by rw [len_list x]; omega
  rw [e, h]
  rfl
theorem sub_mk (x : PySem.Str) (a b : Nat) : strSub x a b = mkS ((x.cps.toList.drop a).take (b - a)) := by
  have h := strSub_toList x a b
  rw [← mkS_of (strSub x a b), h]
theorem partsFrom_idx (x : PySem.Str) (c : Nat) : ∀ (l : List Nat) (a : Nat), x.cps.toList.drop a = l → a + l.length = x.length → partsFrom x 1 a (idx c a l) = (parts c l).map mkS
  | [], a, hd, hz => by
    show [strSub x a x.length] = _
    rw [sub_mk, hd, List.take_nil]
    rfl
  | y :: r, a, hd, hz => by
    have hd' : x.cps.toList.drop (a + 1) = r := by rw [← List.drop_drop, hd]; rfl
    have hz' : (a + 1) + r.length = x.length := by simp only [List.length_cons] at hz; omega
    have ih := partsFrom_idx x c r (a + 1) hd' hz'
    by_cases hy : y = c
    · subst hy
      have e1 : idx y a (y :: r) = a :: idx y (a + 1) r := by rw [idx, if_pos rfl]
      rw [e1, parts_hit]
      show strSub x a a :: partsFrom x 1 (a + 1) (idx y (a + 1) r) = _
      rw [ih, sub_mk]
      simp
    · have e1 : idx c a (y :: r) = idx c (a + 1) r := by rw [idx, if_neg hy]
      rw [e1, parts_miss hy]
      have hge := idx_ge c (a + 1) r
      generalize idx c (a + 1) r = cuts at ih hge
      have ih' : partsFrom x 1 (a + 1) cuts = mkS (pr c r).1 :: ((pr c r).2).map mkS := ih
      have hsub : ∀ k, a + 1 ≤ k → ∀ w, strSub x (a + 1) k = mkS w → strSub x a k = mkS (y :: w) := by
        intro k hk w e
        rw [sub_mk] at e ⊢
        rw [hd'] at e
        rw [hd]
        have e' := mkS_inj e
        have : k - a = (k - (a + 1)) + 1 := by omega
        rw [this, List.take_succ_cons, e']
      cases cuts with
      | nil =>
        have i2 : [strSub x (a + 1) x.length] = mkS (pr c r).1 :: ((pr c r).2).map mkS := ih'
        obtain ⟨q1, q2⟩ := List.cons.inj i2
        show [strSub x a x.length] = mkS (y :: (pr c r).1) :: ((pr c r).2).map mkS
        rw [hsub x.length (by omega) _ q1, ← q2]
      | cons k rest =>
        have i2 : strSub x (a + 1) k :: partsFrom x 1 (k + 1) rest = mkS (pr c r).1 :: ((pr c r).2).map mkS := ih'
        obtain ⟨q1, q2⟩ := List.cons.inj i2
        show strSub x a k :: partsFrom x 1 (k + 1) rest = mkS (y :: (pr c r).1) :: ((pr c r).2).map mkS
        rw [hsub k (hge k List.mem_cons_self) _ q1, q2]
theorem idx_nil {c : Nat} : ∀ {l : List Nat} {a : Nat}, idx c a l = [] → parts c l = [l]
  | [], _, _ => rfl
  | y :: r, a, h => by
    unfold idx at h
    split at h
    · cases h
    · rename_i hy
      rw [parts_miss hy]
      have ih := idx_nil h
      unfold parts at ih
      obtain ⟨q1, q2⟩ := List.cons.inj ih
      rw [q1, q2]
theorem kind_le (x : PySem.Str) (c : Nat) (hc : c < 256) : ¬ (Builtin.Str.strKind x < Builtin.Str.strKind ⟨#[c]⟩) := by
  have e : Builtin.Str.strKind (⟨#[c]⟩ : PySem.Str) = 1 := by
    unfold Builtin.Str.strKind
    rw [if_pos (by simp [hc])]
  rw [e]
  unfold Builtin.Str.strKind
  split
  · omega
  · split <;> omega
theorem split_parts (x : PySem.Str) (c : Nat) (hc : c < 256) : Txt.split x ⟨#[c]⟩ = (parts c x.cps.toList).map mkS := by
  unfold Txt.split
  have hl : (⟨#[c]⟩ : PySem.Str).length = 1 := rfl
  by_cases h0 : x.length < 1
  · have hx : x.cps.toList = [] := List.eq_nil_of_length_eq_zero (by rw [← len_list]; omega)
    rw [if_pos (by rw [hl, decide_eq_true h0]; rfl), hx]
    show [x] = [mkS []]
    rw [← hx, mkS_of]
  · rw [if_neg (by rw [hl, decide_eq_false h0, decide_eq_false (kind_le x c hc)]; decide), occ_idx]
    by_cases hn : idx c 0 x.cps.toList = []
    · rw [if_pos (by rw [hn]; rfl), idx_nil hn]
      show [x] = [mkS x.cps.toList]
      rw [mkS_of]
    · rw [if_neg (by intro z; exact hn (by simpa using z)), partsBetween_eq]
      exact partsFrom_idx x c x.cps.toList 0 rfl (by rw [len_list x]; omega)
/-! ### rows of words -/
def ne0 (w : List Nat) : Bool := !w.isEmpty
def words (l : List Nat) : List (List Nat) := (parts 32 l).filter ne0
def rows (l : List Nat) : List (List (List Nat)) := (parts 10 l).map words
end K7

set_option Elab.async false
set_option linter.all false
set_option maxRecDepth 100000
set_option maxHeartbeats 4000000
namespace K7
open PySem PySem.Spec PyProof.Rows L2
/-! ### the program's own defs -/
abbrev sName : Stmt := top 6
abbrev sNum : Stmt := top 7
abbrev sRows : Stmt := top 8
theorem scName : FnScope ["thing"] ["thing"] (defScope sName) := ⟨rfl, rfl, rfl, by decide +kernel, rfl, by decide +kernel, by decide +kernel⟩
theorem scNum : FnScope ["word", "figures"] ["word"] (defScope sNum) := ⟨rfl, rfl, rfl, by decide +kernel, rfl, by decide +kernel, by decide +kernel⟩
theorem scRows : FnScope ["text", "found", "line", "words", "word"] ["text"] (defScope sRows) := ⟨rfl, rfl, rfl, by decide +kernel, rfl, by decide +kernel, by decide +kernel⟩
section
variable {P : Program} {w : World} {K : PySem.W.Frag} {mg : PySem.Str → Option Value} {base : Heap} {f : Addr} {fd : FuncData}
/-! #### signs -/
def lowB (l : List Nat) : Bool := l.all fun c => !decide ([c] < ("a" : PySem.Str).cps.toList) && !decide (("z" : PySem.Str).cps.toList < [c])
def figB (l : List Nat) : Bool := l.all fun c => !decide ([c] < ("0" : PySem.Str).cps.toList) && !decide (("9" : PySem.Str).cps.toList < [c])
def nameB (x : V) : Bool := match x with
  | .str z => (decide (1 ≤ z.length) && decide (z.length ≤ 8)) && lowB z.cps.toList
  | _ => false
def spName (K : PySem.W.Frag) : Sp := fun vs H Q _ => ∃ (x : V) (T : String), vs = [x] ∧ TyB K H x T ∧ (∀ z, x = .str z → z.length ≤ sizeLine) ∧ ∀ H', Kept None H H' → Q (.bl (nameB x)) H'
theorem asc : ∀ c, c < 128 → (Unicode.isAlpha c = (Unicode.isLower c || (Unicode.isUpper c || Unicode.isTitle c))) ∧ (Unicode.isLower c = (!decide ([c] < ("a" : PySem.Str).cps.toList) && !decide (("z" : PySem.Str).cps.toList < [c]))) ∧ ((Unicode.isLower c && (Unicode.isUpper c || Unicode.isTitle c)) = false) := by decide +kernel
theorem low_asc {c : Nat} (h : (!decide ([c] < ("a" : PySem.Str).cps.toList) && !decide (("z" : PySem.Str).cps.toList < [c])) = true) : c < 128 := by
  obtain ⟨h1, h2⟩ := Bool.and_eq_true_iff.mp h
  have h3 : ¬ (("z" : PySem.Str).cps.toList < [c]) := fun e => by rw [decide_eq_true e] at h2; cases h2
  have e : ("z" : PySem.Str).cps.toList = [122] := by decide +kernel
  rw [e] at h3
  have : ¬ (122 : Nat) < c := fun e => h3 (List.Lex.rel e)
  omega
theorem name_low (l : List Nat) (h : l ≠ []) : ((l.all fun c => decide (c < 128)) && ((l.all Unicode.isAlpha) && (l.any Unicode.isLower && !(l.any fun c => Unicode.isUpper c || Unicode.isTitle c)))) = lowB l := by
  rw [Bool.eq_iff_iff]
  unfold lowB
  simp only [Bool.and_eq_true, List.all_eq_true, List.any_eq_true, decide_eq_true_eq, Bool.not_eq_true', List.any_eq_false]
  constructor
  · rintro ⟨h1, h2, h3, h4⟩ c hc
    obtain ⟨a1, a2, a3⟩ := asc c (h1 c hc)
    have e := h2 c hc
    rw [a1] at e
    have e4 : (Unicode.isUpper c || Unicode.isTitle c) = false := by simpa using h4 c hc
    rw [e4, Bool.or_false, a2] at e
    simpa using e
  · intro h1
    have key : ∀ c ∈ l, c < 128 ∧ Unicode.isLower c = true := fun c hc => by
      have q : (!decide ([c] < ("a" : PySem.Str).cps.toList) && !decide (("z" : PySem.Str).cps.toList < [c])) = true := by simpa using h1 c hc
      have lt := low_asc q
      exact ⟨lt, by rw [(asc c lt).2.1]; exact q⟩
    refine ⟨fun c hc => (key c hc).1, fun c hc => ?_, ?_, fun c hc => ?_⟩
    · rw [(asc c (key c hc).1).1, (key c hc).2]; rfl
    · cases l with
      | nil => exact absurd rfl h
      | cons c r => exact ⟨c, List.mem_cons_self, (key c List.mem_cons_self).2⟩
    · have q := (asc c (key c hc).1).2.2
      rw [(key c hc).2, Bool.true_and] at q
      simp [q]
theorem txt_name (z : PySem.Str) (h : 1 ≤ z.length) : (Txt.isascii z && (Txt.isalpha z && Txt.islower z)) = lowB z.cps.toList := by
  have hl : z.length = z.cps.toList.length := by simp [PySem.Str.length]
  have ne : z.cps.toList ≠ [] := fun e => by rw [hl, e] at h; simp at h
  rw [← name_low _ ne]
  unfold Txt.isascii Txt.isalpha Txt.islower
  rw [decide_eq_true (show z.length > 0 by omega), Bool.true_and]
  simp only [← Array.all_toList, ← Array.any_toList]
theorem tyb_str {K : PySem.W.Frag} {H : Hp} {x : V} {T : String} (t : TyB K H x T) : (T = "str" ∧ ∃ z, x = .str z) ∨ (T ≠ "str" ∧ nameB x = false) := by
  cases t with
  | str z => exact .inl ⟨rfl, z, rfl⟩
  | _ => exact .inr ⟨by decide, rfl⟩
theorem ok_name (F : FnP K "is_name" sName f fd) (m2 : mg "type" = none) (m3 : mg "str" = none) (m4 : mg "len" = none) (m5 : ∃ t, mg "LONGEST_NAME" = some (.int 8 t)) : FnOk P w K mg base CX0 2 f fd ["thing"] (spName K) := by
  obtain ⟨t5, m5⟩ := m5
  refine F.ok (k := 1) scName (fun vs H Q E h => ?_) (fun cdv A outer s H vs Q E hr h => ?_)
  · obtain ⟨x, T, rfl, _⟩ := h
    rfl
  · obtain ⟨x, T, rfl, hT, hz, q⟩ := h
    refine ⟨_, PSs.nox (pss_cons (ps_if (PW.pt (pw_or (pt_cmpR op_notTyB (pe_callTy call_type1 (by rfl) m2 (by decide +kernel) (pa_cons (pv 0) pa_nil)) (pe_bltn (v := .ty "str") (by rfl) m3 (by decide +kernel) rfl) (nomark _))
        (pw_or1 (pt_not (pt_chain op_le op_le pe_int (pe_callB call_len_str (by rfl) m4 PySem.boot_len (pa_cons (pv 0) pa_nil)) (pe_glob (v := .int 8) (by rfl) m5 ⟨_, rfl⟩)))))) (pss_one (ps_ret pe_bl)) pss_nil)
      (pss_one (ps_ret (pe_and (pe_m0 PySem.F.slot_str_isascii PySem.F.type_str_isascii mt_isascii (pv 0)) (pe_and (pe_m0 PySem.F.slot_str_isalpha PySem.F.type_str_isalpha mt_isalpha (pv 0)) (pe_one (pe_m0 PySem.F.slot_str_islower PySem.F.type_str_islower mt_islower (pv 0)))))))), ?_⟩
    refine ⟨x, rfl, x, T, rfl, hT, T, "str", rfl, rfl, _, rfl, ?_⟩
    rcases tyb_str hT with ⟨rfl, z, rfl⟩ | ⟨hn, hw⟩
    · rw [decide_eq_true rfl]
      refine iteF ⟨.str z, rfl, z, rfl, hz z rfl, 1, (z.length : Int), rfl, rfl, _, rfl, ?_⟩
      have bad : (decide (1 ≤ z.length) && decide (z.length ≤ 8)) = false → Q (.bl false) H := fun e => by
        have e2 := q H Kept.refl
        unfold nameB at e2
        dsimp only at e2
        rw [e] at e2
        exact e2
      by_cases h1 : 1 ≤ z.length
      · rw [decide_eq_true (show (1 : Int) ≤ (z.length : Int) by omega)]
        refine iteT ⟨(z.length : Int), 8, rfl, rfl, _, rfl, ?_⟩
        by_cases h2 : z.length ≤ 8
        · rw [decide_eq_true (show (z.length : Int) ≤ 8 by omega)]
          refine iteF ?_
          have all : Q (.bl (Txt.isascii z && (Txt.isalpha z && Txt.islower z))) H := by
            have e := q H Kept.refl
            unfold nameB at e
            dsimp only at e
            rw [decide_eq_true h1, decide_eq_true h2] at e
            rw [txt_name z h1]
            exact e
          refine ⟨.str z, rfl, ⟨z, rfl⟩, z, rfl, rfl, trivial, _, rfl, ?_⟩
          cases e1 : Txt.isascii z with
          | false => rw [e1] at all; exact iteF all
          | true =>
            rw [e1] at all
            refine iteT ⟨.str z, rfl, ⟨z, rfl⟩, z, rfl, rfl, trivial, _, rfl, ?_⟩
            cases e2 : Txt.isalpha z with
            | false => rw [e2] at all; exact iteF all
            | true =>
              rw [e2] at all
              exact iteT ⟨.str z, rfl, ⟨z, rfl⟩, z, rfl, rfl, trivial, all⟩
        · rw [decide_eq_false (show ¬ (z.length : Int) ≤ 8 by omega)]
          refine iteT ?_
          exact bad (by rw [decide_eq_false h2, Bool.and_false])
      · rw [decide_eq_false (show ¬ (1 : Int) ≤ (z.length : Int) by omega)]
        refine iteF ⟨_, rfl, iteT ?_⟩
        exact bad (by rw [decide_eq_false h1, Bool.false_and])
    · rw [decide_eq_false hn]
      refine iteT ?_
      have e := q H Kept.refl
      rw [hw] at e
      exact e
end
/-! ### number_in -/
theorem lt1 (c d : Nat) : ([c] < [d]) ↔ c < d := by
  rw [List.cons_lt_cons_iff]
  simp
theorem figB_iff (l : List Nat) : figB l = true ↔ NumText.AllDigits l := by
  unfold figB NumText.AllDigits
  rw [List.all_eq_true]
  have e0 : ("0" : PySem.Str).cps.toList = [48] := by decide +kernel
  have e9 : ("9" : PySem.Str).cps.toList = [57] := by decide +kernel
  rw [e0, e9]
  constructor
  · intro h c hc
    have q := h c hc
    simp only [Bool.and_eq_true, Bool.not_eq_true', decide_eq_false_iff_not, lt1] at q
    omega
  · intro h c hc
    have q := h c hc
    simp only [Bool.and_eq_true, Bool.not_eq_true', decide_eq_false_iff_not, lt1]
    omega
/-- the figures of a word -/
def fig (l : List Nat) : List Nat := if l.head? = some 45 then l.tail else l
theorem minus_eq : ("-" : PySem.Str) = mkS [45] := by decide +kernel
theorem affix_none (x : PySem.Str) : Txt.affix x Option.none = x := by unfold Txt.affix; rfl
theorem prefix_fig (z : PySem.Str) : Txt.removeprefix z ("-" : PySem.Str) = mkS (fig z.cps.toList) := by
  rw [minus_eq]
  unfold Txt.removeprefix fig
  have e : (mkS [45]).length = 1 := rfl
  have hs : Builtin.Str.subAt z (mkS [45]) 0 = true ↔ z.cps.toList.head? = some 45 := by
    have q := sub1 z 45 0
    have e2 : (⟨#[45]⟩ : PySem.Str).length = 1 := rfl
    rw [show z.cps.toList.head? = z.cps.toList[0]? by cases z.cps.toList <;> rfl]
    show Builtin.Str.subAt z ⟨#[45]⟩ 0 = true ↔ _
    constructor
    · intro h
      by_cases h1 : 0 + (⟨#[45]⟩ : PySem.Str).length ≤ z.length
      · exact q.mp ⟨h1, h⟩
      · exfalso
        have hz : z.cps.toList = [] := List.eq_nil_of_length_eq_zero (by rw [← len_list]; omega)
        rw [StrLaws.subAt_eq, hz] at h
        revert h
        decide
    · intro h
      exact (q.mpr h).2
  by_cases h : z.cps.toList.head? = some 45
  · rw [if_pos (hs.mpr h), if_pos h]
    have hc : ∃ r, z.cps.toList = 45 :: r := by
      cases q : z.cps.toList with
      | nil => rw [q] at h; cases h
      | cons a r => rw [q] at h; exact ⟨r, by rw [Option.some.inj h]⟩
    obtain ⟨r, hr⟩ := hc
    have hl := len_list z
    rw [hr, List.length_cons] at hl
    show (if (z.length - (mkS [45]).length == z.length) = true then z else Builtin.Str.strSub z (mkS [45]).length z.length) = _
    rw [e, if_neg (by rw [beq_iff_eq]; omega), sub_mk, hr]
    show mkS ((List.drop 1 (45 :: r)).take (z.length - 1)) = mkS r
    rw [hl, List.drop_one, List.tail_cons, Nat.add_sub_cancel, List.take_length]
  · rw [if_neg (fun q => h (hs.mp q)), if_neg h, affix_none, mkS_of]
def numOk (l : List Nat) : Bool := ((decide (1 ≤ (fig l).length) && decide ((fig l).length ≤ 4)) && figB (fig l)) && !(decide ((fig l).head? = some 48) && !decide (l = [48]))
def numI (l : List Nat) : Int := if l.head? = some 45 then -((NumText.digitsVal (fig l) : Nat) : Int) else ((NumText.digitsVal (fig l) : Nat) : Int)
def numV (l : List Nat) : V := if numOk l = true then .int (numI l) else .non
theorem num_read {z : PySem.Str} (h : numOk z.cps.toList = true) : intText? z = some (numI z.cps.toList) ∧ z.length ≤ 640 := by
  unfold numOk at h
  simp only [Bool.and_eq_true, decide_eq_true_eq] at h
  obtain ⟨⟨⟨h1, h2⟩, h3⟩, _⟩ := h
  have ad := (figB_iff _).mp h3
  have hz := len_list z
  unfold numI
  by_cases hm : z.cps.toList.head? = some 45
  · rw [if_pos hm]
    have e : z.cps.toList = 45 :: fig z.cps.toList := by
      unfold fig
      rw [if_pos hm]
      cases q : z.cps.toList with
      | nil => rw [q] at hm; cases hm
      | cons a r => rw [q] at hm; rw [Option.some.inj hm]; rfl
    have hl : z.length = (fig z.cps.toList).length + 1 := by rw [hz]; conv => lhs; rw [e]; rw [List.length_cons]
    exact ⟨intText_neg e ad (fun q => by rw [q] at h1; exact absurd h1 (by decide)) (by omega), by omega⟩
  · rw [if_neg hm]
    have e : fig z.cps.toList = z.cps.toList := by unfold fig; rw [if_neg hm]
    rw [e] at ad h1 h2 ⊢
    exact ⟨intText_digits ad (fun q => by rw [q] at h1; exact absurd h1 (by decide)) (by omega), by omega⟩
def spNum : Sp := fun vs H Q _ => ∃ z : PySem.Str, vs = [.str z] ∧ z.length ≤ sizeLine ∧ ∀ H', Kept None H H' → Q (numV z.cps.toList) H'
section
variable {P : Program} {w : World} {K : PySem.W.Frag} {mg : PySem.Str → Option Value} {base : Heap} {f fF : Addr} {fd fdF : FuncData}
theorem ascd : ∀ c, c < 128 → Unicode.isDigit c = (!decide ([c] < ("0" : PySem.Str).cps.toList) && !decide (("9" : PySem.Str).cps.toList < [c])) := by decide +kernel
theorem fig_asc {c : Nat} (h : (!decide ([c] < ("0" : PySem.Str).cps.toList) && !decide (("9" : PySem.Str).cps.toList < [c])) = true) : c < 128 := by
  have e9 : ("9" : PySem.Str).cps.toList = [57] := by decide +kernel
  rw [e9] at h
  simp only [Bool.and_eq_true, Bool.not_eq_true', decide_eq_false_iff_not, lt1] at h
  omega
theorem txt_fig (l : List Nat) (h : l ≠ []) : (Txt.isascii (mkS l) && Txt.isdigit (mkS l)) = figB l := by
  have hl : (mkS l).length = l.length := mkS_len l
  have e0 : 0 < l.length := List.length_pos_iff.mpr h
  unfold Txt.isascii Txt.isdigit
  rw [decide_eq_true (show (mkS l).length > 0 by omega), Bool.true_and]
  simp only [← Array.all_toList]
  rw [mkS_list, Bool.eq_iff_iff]
  unfold figB
  simp only [Bool.and_eq_true, List.all_eq_true, decide_eq_true_eq]
  constructor
  · rintro ⟨h1, h2⟩ c hc
    have q := h2 c hc
    rw [ascd c (h1 c hc)] at q
    simpa using q
  · intro h1
    have key : ∀ c ∈ l, c < 128 ∧ Unicode.isDigit c = true := fun c hc => by
      have q : (!decide ([c] < ("0" : PySem.Str).cps.toList) && !decide (("9" : PySem.Str).cps.toList < [c])) = true := by simpa using h1 c hc
      have lt := fig_asc q
      exact ⟨lt, by rw [ascd c lt]; exact q⟩
    exact ⟨fun c hc => (key c hc).1, fun c hc => (key c hc).2⟩
theorem zero_list : ("0" : PySem.Str) = mkS [48] := by decide +kernel
theorem ok_num (F : FnP K "number_in" sNum f fd) 
    (m1 : mg "len" = none) (m2 : mg "int" = none) (m3 : ∃ t, mg "MOST_FIGURES" = some (.int 4 t)) : FnOk P w K mg base CX0 3 f fd ["word"] spNum := by
  obtain ⟨t3, m3⟩ := m3
  refine F.ok (k := 2) scNum (fun vs H Q E h => ?_) (fun cdv A outer s H vs Q E hr h => ?_)
  · obtain ⟨z, rfl, _⟩ := h
    rfl
  · obtain ⟨z, rfl, hz, q⟩ := h
    refine ⟨_, PSs.nox (pss_cons (ps_set (i := 1) scNum.nd rfl (Or.inl rfl) (pe_m1 PySem.F.slot_str_removeprefix PySem.F.type_str_removeprefix mt_removeprefix (pv 0) pe_str))
      (pss_cons (ps_if (pt_not (pt_chain op_le op_le pe_int (pe_callB call_len_str (by rfl) m1 PySem.boot_len (pa_cons (pv 1) pa_nil)) (pe_glob (v := .int 4) (by rfl) m3 ⟨_, rfl⟩))) (pss_one (ps_ret pe_non)) pss_nil)
      (pss_cons (ps_if (PW.pt (pw_or (pt_not (pt_val (pe_m0 PySem.F.slot_str_isascii PySem.F.type_str_isascii mt_isascii (pv 1)))) (pw_or1 (pt_not (pt_val (pe_m0 PySem.F.slot_str_isdigit PySem.F.type_str_isdigit mt_isdigit (pv 1))))))) (pss_one (ps_ret pe_non)) pss_nil)
      (pss_cons (ps_if (PW.pt (pw_and (pt_cmpR op_eq (pe_ix ix_str (pv 1) pe_int (fun _ _ => rfl)) pe_str (nomark _)) (pw_and1 (pt_cmpR op_ne (pv 0) pe_str (nomark _))))) (pss_one (ps_ret pe_non)) pss_nil)
      (pss_one (ps_ret (pe_callTy call_int_str (by rfl) m2 (by decide +kernel) (pa_cons (pv 0) pa_nil)))))))), ?_⟩
    have hfl : (mkS (fig z.cps.toList)).length = (fig z.cps.toList).length := mkS_len _
    have hfz : (fig z.cps.toList).length ≤ z.length := by
      rw [len_list]; unfold fig; split
      · rw [List.length_tail]; omega
      · exact Nat.le_refl _
    have bad : ∀ H', Kept None H H' → numOk z.cps.toList = false → Q .non H' := fun H' kp e => by
      have e2 := q H' kp
      unfold numV at e2
      rw [e] at e2
      exact e2
    refine ⟨.str z, rfl, ⟨z, rfl⟩, z, "-", rfl, rfl, hz, ?_⟩
    rw [prefix_fig]
    refine ⟨.str (mkS (fig z.cps.toList)), rfl, mkS (fig z.cps.toList), rfl, (by rw [hfl]; omega), 1, ((mkS (fig z.cps.toList)).length : Int), rfl, rfl, _, rfl, ?_⟩
    rw [hfl]
    by_cases h1 : 1 ≤ (fig z.cps.toList).length
    · rw [decide_eq_true (show (1 : Int) ≤ ((fig z.cps.toList).length : Int) by omega)]
      refine iteT ⟨((fig z.cps.toList).length : Int), 4, rfl, rfl, _, rfl, ?_⟩
      by_cases h2 : (fig z.cps.toList).length ≤ 4
      · rw [decide_eq_true (show ((fig z.cps.toList).length : Int) ≤ 4 by omega)]
        refine iteF ?_
        have k1 : Kept None H H := Kept.refl
        have hd := txt_fig (fig z.cps.toList) (fun q => by rw [q] at h1; exact absurd h1 (by decide))
        have no : figB (fig z.cps.toList) = false → numOk z.cps.toList = false := fun h3 => by unfold numOk; rw [h3, Bool.and_false, Bool.false_and]
        refine ⟨.str (mkS (fig z.cps.toList)), rfl, ⟨_, rfl⟩, mkS (fig z.cps.toList), rfl, rfl, trivial, _, rfl, ?_⟩
        cases h3a : Txt.isascii (mkS (fig z.cps.toList)) with
        | false =>
          rw [h3a, Bool.false_and] at hd
          exact iteT (bad H k1 (no hd.symm))
        | true =>
        refine iteF ⟨.str (mkS (fig z.cps.toList)), rfl, ⟨_, rfl⟩, mkS (fig z.cps.toList), rfl, rfl, trivial, _, rfl, ?_⟩
        cases h3b : Txt.isdigit (mkS (fig z.cps.toList)) with
        | false =>
          rw [h3b, Bool.and_false] at hd
          exact iteT (bad H k1 (no hd.symm))
        | true =>
          rw [h3a, h3b] at hd
          have h3 : figB (fig z.cps.toList) = true := hd.symm
          refine iteF ?_
          obtain ⟨c, r, hcr⟩ : ∃ c r, fig z.cps.toList = c :: r := by
            cases e : fig z.cps.toList with
            | nil => rw [e] at h1; exact absurd h1 (by decide)
            | cons c r => exact ⟨c, r, rfl⟩
          refine ⟨.str (mkS (fig z.cps.toList)), rfl, mkS (fig z.cps.toList), 0, c, rfl, rfl, (by rw [hfl]; omega), ?_, rfl, _, rfl, ?_⟩
          · rw [mkS_list, hcr]; exact atI_nat (j := 0) rfl
          · have ec : decide (V.str (⟨#[c]⟩ : PySem.Str) = V.str ("0" : PySem.Str)) = decide (c = 48) := by
              refine decide_eq_decide.mpr ?_
              rw [zero_list]
              constructor
              · intro h
                have e := mkS_inj (a := [c]) (V.str.inj h)
                exact (List.cons.inj e).1
              · intro h; subst h; rfl
            have ez : decide (V.str z = V.str ("0" : PySem.Str)) = decide (z.cps.toList = [48]) := by
              refine decide_eq_decide.mpr ?_
              rw [zero_list]
              constructor
              · intro h; rw [V.str.inj h, mkS_list]
              · intro h; rw [← mkS_of z, h]
            have hh : (fig z.cps.toList).head? = some c := by rw [hcr]; rfl
            have fin : numOk z.cps.toList = true → ∃ a n, [V.str z] = [V.str a] ∧ intText? a = some n ∧ a.length ≤ 640 ∧ Q (V.int n) H := fun e => by
              obtain ⟨e1, e2⟩ := num_read e
              refine ⟨z, _, rfl, e1, e2, ?_⟩
              have e3 := q H k1
              unfold numV at e3
              rw [if_pos e] at e3
              exact e3
            have hok : numOk z.cps.toList = !(decide (c = 48) && !decide (z.cps.toList = [48])) := by
              unfold numOk
              rw [decide_eq_true h1, decide_eq_true h2, h3, hh]
              have : decide (some c = some 48) = decide (c = 48) := decide_eq_decide.mpr ⟨fun h => Option.some.inj h, fun h => by rw [h]⟩
              rw [this]
              rfl
            rw [ec]
            cases hc : decide (c = 48) with
            | false =>
              refine iteF (iteF ⟨.str z, rfl, ?_⟩)
              exact fin (by rw [hok, hc]; rfl)
            | true =>
              refine iteT ⟨.str z, rfl, rfl, _, rfl, ?_⟩
              rw [ez]
              cases hzz : decide (z.cps.toList = [48]) with
              | false =>
                refine iteT ?_
                exact bad H k1 (by rw [hok, hc, hzz]; rfl)
              | true =>
                refine iteF ⟨.str z, rfl, ?_⟩
                exact fin (by rw [hok, hc, hzz]; rfl)
      · rw [decide_eq_false (show ¬ ((fig z.cps.toList).length : Int) ≤ 4 by omega)]
        refine iteT ?_
        exact bad H Kept.refl (by unfold numOk; rw [decide_eq_false h2, Bool.and_false, Bool.false_and, Bool.false_and])
    · rw [decide_eq_false (show ¬ (1 : Int) ≤ ((fig z.cps.toList).length : Int) by omega)]
      refine iteF ⟨_, rfl, iteT ?_⟩
      exact bad H Kept.refl (by unfold numOk; rw [decide_eq_false h1, Bool.false_and, Bool.false_and, Bool.false_and])
end
/-! ### rows of words -/
def wv (w : List Nat) : V := .str (mkS w)
theorem words_len (l : List Nat) : (words l).length ≤ l.length + 1 := Nat.le_trans (List.length_filter_le _ _) (parts_len 32 l)
theorem sp_eq : (" " : PySem.Str) = ⟨#[32]⟩ := by decide +kernel
theorem nl_eq : ("\n" : PySem.Str) = ⟨#[10]⟩ := by decide +kernel
theorem split_sp (z : PySem.Str) : (Txt.split z (" " : PySem.Str)).map V.str = (parts 32 z.cps.toList).map wv := by
  rw [sp_eq, split_parts z 32 (by decide), List.map_map]; rfl
theorem split_nl (z : PySem.Str) : (Txt.split z ("\n" : PySem.Str)).map V.str = (parts 10 z.cps.toList).map wv := by
  rw [nl_eq, split_parts z 10 (by decide), List.map_map]; rfl
theorem take_map {α β : Type} (f : α → β) (l : List α) (i : Nat) (x : α) (h : l[i]? = some x) : (l.take (i + 1)).map f = (l.take i).map f ++ [f x] := by
  rw [List.take_add_one, h, List.map_append]; rfl
theorem take_filter {α : Type} (p : α → Bool) (l : List α) (i : Nat) (x : α) (h : l[i]? = some x) : (l.take (i + 1)).filter p = (l.take i).filter p ++ (if p x = true then [x] else []) := by
  rw [List.take_add_one, h, List.filter_append]
  show _ ++ List.filter p [x] = _
  cases e : p x <;> simp [e]
/-- a name's truth -/
def tTrV (K : PySem.W.Frag) (i : Nat) : TT := fun σ H Q => tVar i σ H fun x H' => ∃ k, TruV K x H' k ∧ Q k H'
def partsE (l : List Nat) : List (List Nat) := if l = [] then [] else parts 32 l
theorem partsE_words (l : List Nat) : (partsE l).filter ne0 = words l := by
  unfold partsE words
  by_cases h : l = []
  · rw [if_pos h, h]; rfl
  · rw [if_neg h]
theorem partsE_len (l : List Nat) : (partsE l).length ≤ l.length + 1 := by
  unfold partsE
  by_cases h : l = []
  · rw [if_pos h]; exact Nat.zero_le _
  · rw [if_neg h]; exact parts_len 32 l
theorem empty_eq : ("" : PySem.Str) = mkS [] := by decide +kernel
theorem inV_ws : ∀ ws : List (List Nat), inV (.str ("" : PySem.Str)) (ws.map wv) = decide ([] ∈ ws)
  | [] => rfl
  | y :: r => by
    have ih := inV_ws r
    unfold inV at ih ⊢
    rw [List.map_cons, List.any_cons, ih, empty_eq]
    cases y with
    | nil => simp [wv, eqV]
    | cons c d =>
      have h2 : ¬ (mkS (c :: d) = mkS []) := fun z => by cases mkS_inj z
      simp [eqV, wv, h2]
theorem flat_ws : ∀ ws : List (List Nat), (ws.map wv).all flatV = true
  | [] => rfl
  | _ :: r => flat_ws r
theorem filter_all : ∀ ws : List (List Nat), ¬ [] ∈ ws → ws.filter ne0 = ws
  | [], _ => rfl
  | [] :: r, h => absurd List.mem_cons_self h
  | (c :: d) :: r, h => by
    rw [List.filter_cons_of_pos rfl, filter_all r fun z => h (List.mem_cons_of_mem _ z)]
/-! #### rows_of -/
/-- at p stands a list of lists of words -/
def RowsAt (H0 H : Hp) (p : Addr) (rs : List (List (List Nat))) : Prop := ∃ as : List Addr, H p = some (.lst (as.map V.ref)) ∧ as.length = rs.length ∧ ∀ (i : Nat) (a : Addr) (r : List (List Nat)), as[i]? = some a → rs[i]? = some r → H a = some (.lst (r.map wv)) ∧ H0 a = none
theorem rows_len (l : List Nat) : (rows l).length ≤ l.length + 1 := by unfold rows; rw [List.length_map]; exact parts_len 10 l
def spRows : Sp := fun vs H Q _ => ∃ z : PySem.Str, vs = [.str z] ∧ z.length ≤ 1000000 ∧ ∀ p H', H p = none → Kept None H H' → RowsAt H H' p (rows z.cps.toList) → Q (.ref p) H'
/-- the rows that are made so far -/
structure Ra (H0 H' : Hp) (F : Addr) (ls : List (List Nat)) (as : List Addr) : Prop where
  k : Kept None H0 H'
  nF : H0 F = none
  f : H' F = some (.lst (as.map V.ref))
  len : as.length = ls.length
  old : ∀ (j : Nat) (a : Addr) (l : List Nat), as[j]? = some a → ls[j]? = some l → H' a = some (.lst ((words l).map wv)) ∧ a ≠ F ∧ H0 a = none
theorem Ra.stay {H0 H' H2 : Hp} {F : Addr} {ls : List (List Nat)} {as : List Addr} (p : Ra H0 H' F ls as) (k : Kept None H' H2) : Ra H0 H2 F ls as :=
  ⟨p.k.trans k, p.nF, k.lst p.f (fun z => z), p.len, fun j a l e1 e2 => let ⟨h1, h2, h3⟩ := p.old j a l e1 e2; ⟨k.lst h1 (fun z => z), h2, h3⟩⟩
theorem Ra.more {H0 H' : Hp} {F : Addr} {ls : List (List Nat)} {as : List Addr} (p : Ra H0 H' F ls as) {a : Addr} {l : List Nat} (ha : H' a = some (.lst ((words l).map wv))) (n : a ≠ F) (n0 : H0 a = none) : Ra H0 (upd H' F (.lst (as.map V.ref ++ [.ref a]))) F (ls ++ [l]) (as ++ [a]) := by
  refine ⟨fun b o e z => ?_, p.nF, by rw [upd_same, List.map_append]; rfl, by rw [List.length_append, List.length_append, p.len]; rfl, fun j b m e1 e2 => ?_⟩
  · rw [upd_ne (ne_of_none e p.nF)]
    exact p.k b o e z
  · by_cases hj : j < as.length
    · rw [List.getElem?_append_left hj] at e1
      rw [List.getElem?_append_left (by rw [← p.len]; exact hj)] at e2
      obtain ⟨f1, f2, f3⟩ := p.old j b m e1 e2
      exact ⟨by rw [upd_ne f2]; exact f1, f2, f3⟩
    · have hj2 : j = as.length := by
        have := (List.getElem?_eq_some_iff.mp e1).1
        rw [List.length_append] at this
        simp only [List.length_cons, List.length_nil] at this
        omega
      subst hj2
      rw [List.getElem?_append_right (Nat.le_refl _), Nat.sub_self] at e1
      rw [p.len, List.getElem?_append_right (Nat.le_refl _), Nat.sub_self] at e2
      have eb : a = b := Option.some.inj e1
      have el : l = m := Option.some.inj e2
      subst eb
      subst el
      exact ⟨by rw [upd_ne n]; exact ha, n, n0⟩
section
variable {P : Program} {w : World} {K : PySem.W.Frag} {mg : PySem.Str → Option Value} {base : Heap} {f fW : Addr} {fd fdW : FuncData}
theorem ok_rows (F : FnP K "rows_of" sRows f fd) : FnOk P w K mg base CX0 2 f fd ["text"] spRows := by
  refine F.ok (k := 1) scRows (fun vs H Q E h => ?_) (fun cdv A outer s H vs Q E hr h => ?_)
  · obtain ⟨z, rfl, _⟩ := h
    rfl
  · obtain ⟨z, rfl, hz, q⟩ := h
    refine ⟨_, PSs.nox (pss_cons (ps_set (i := 1) scRows.nd rfl (Or.inl rfl) (pe_lst pa_nil))
      (pss_cons (ps_for PassesOwn.never rfl (pi_list (pe_split (pv 0) pe_str)) (pg_name (i := 2) scRows.nd rfl (Or.inl rfl))
        (pss_cons (ps_set (i := 3) scRows.nd rfl (Or.inl rfl) (pe_ifExp (pt_truth (pv 2) (by intro _; rfl)) (pe_split (pv 2) pe_str) (pe_lst pa_nil)))
        (pss_one (ps_expr (pe_bm PySem.F.plainAttrs_list PySem.F.slot_list_append PySem.F.type_list_append mt_append (pv 1) (pa_cons (pe_ifExp (pt_cmpR op_in_seq pe_str (pv 3) (by rfl))
          (pe_lc (own := [("word", 4)]) (g := gName 4) (tt := tTrV K 4) (te := tVar 4) rfl scRows.nd (pi_list (pv 3)) (blkOk_by (own := [("word", 4)]) (N := ["text", "found", "line", "words", "word"]) (sc := defScope sRows) (by decide +kernel))
            (fun _ _ _ _ _ => pg_name (i := 4) scRows.nd rfl (Or.inl rfl)) (fun _ _ _ _ _ => pts_one (by exact (pt_truth (pv 4) (by intro _; rfl)))) (fun _ _ _ _ _ => pv 4)) (pv 3)) pa_nil))))))
      (pss_one (ps_ret (pv 1))))), ?_⟩
    have hsz := sizeLine_eq
    have hzl := len_list z
    have hpl := parts_len 10 z.cps.toList
    refine ⟨by show 0 ≤ sizeLine; omega, fun F1 hF => ?_⟩
    refine ⟨.str z, rfl, ⟨z, rfl⟩, z, "\n", rfl, rfl, by decide +kernel, by omega, fun p hp => ?_⟩
    rw [split_nl]
    have pF : p ≠ F1 := fun e => by rw [e, upd_same] at hp; cases hp
    refine ⟨p, rfl, ⟨_, .inl (.inl upd_same)⟩, ?_⟩
    refine for_list (K := K) (a := p) (xs := (parts 10 z.cps.toList).map wv) (fun i σ H' => ∃ (x2 x3 x4 : Option V) (as : List Addr), σ = [some (.str z), some (.ref F1), x2, x3, x4] ∧ H' p = some (.lst ((parts 10 z.cps.toList).map wv)) ∧ Ra H H' F1 ((parts 10 z.cps.toList).take i) as)
      ⟨none, none, none, [], rfl, upd_same, ⟨(Kept.refl.new hF).trans (Kept.refl.new hp), hF, by rw [upd_ne (Ne.symm pF), upd_same]; rfl, rfl, fun j a l e => by simp at e⟩⟩ (fun i σ H' _ h => ?_) (fun i x σ H' hx h => ?_) (fun σ H' h => ?_)
    · obtain ⟨_, _, _, _, _, h, _⟩ := h
      exact .inl (.inl h)
    · rw [List.getElem?_map] at hx
      obtain ⟨u, hu, rfl⟩ := Option.map_eq_some_iff.mp hx
      obtain ⟨x2, x3, x4, as, rfl, hp', ra⟩ := h
      have hul : u.length ≤ z.length := by rw [hzl]; exact parts_mem_len 10 _ u (List.mem_of_getElem? hu)
      have ht : (parts 10 z.cps.toList).take (i + 1) = (parts 10 z.cps.toList).take i ++ [u] := by rw [List.take_add_one, hu]; rfl
      have asl : as.length ≤ z.length + 1 := by rw [ra.len, List.length_take]; omega
      refine ⟨wv u, rfl, _, ⟨by show (mkS u).length ≤ sizeLine; rw [mkS_len]; omega, rfl⟩, ?_⟩
      have ek : (((mkS u).length : Int) != 0) = ne0 u := by
        rw [mkS_len]; unfold ne0
        cases u with
        | nil => rfl
        | cons a r => simp; omega
      rw [ek, ht]
      cases hn : ne0 u with
      | false =>
        have u0 : u = [] := by cases u with | nil => rfl | cons a r => cases hn
        subst u0
        refine iteF ⟨by show 0 ≤ sizeLine; omega, fun a ha => ?_⟩
        have ra2 : Ra H (upd H' a (.lst [])) F1 ((parts 10 z.cps.toList).take i) as := ra.stay (Kept.refl.new ha)
        have aF : a ≠ F1 := fun e => by rw [e, ra.f] at ha; cases ha
        have pa : a ≠ p := fun e => by rw [e, hp'] at ha; cases ha
        have a0 : H a = none := ra.k.free ha
        refine ⟨.ref F1, rfl, .inl ⟨rfl, _, SqL.of ra2.f⟩, .ref a, rfl, a, [], rfl, .inl (SqL.of upd_same), rfl, rfl, _, rfl, ?_⟩
        refine iteF ⟨.ref a, rfl, F1, _, .ref a, rfl, rfl, ra2.f, by rw [List.length_map]; omega, ?_⟩
        exact ⟨_, _, _, as ++ [a], rfl, by rw [upd_ne pF, upd_ne pa.symm]; exact hp', ra2.more (by rw [upd_same]; rfl) aF a0⟩
      | true =>
        refine iteT ⟨wv u, rfl, ⟨_, rfl⟩, mkS u, " ", rfl, rfl, by decide +kernel, by rw [mkS_len]; omega, fun a ha => ?_⟩
        rw [split_sp, mkS_list]
        have hpu := parts_len 32 u
        have ra2 : Ra H (upd H' a (.lst ((parts 32 u).map wv))) F1 ((parts 10 z.cps.toList).take i) as := ra.stay (Kept.refl.new ha)
        have aF : a ≠ F1 := fun e => by rw [e, ra.f] at ha; cases ha
        have pa : a ≠ p := fun e => by rw [e, hp'] at ha; cases ha
        have a0 : H a = none := ra.k.free ha
        have hp2 : upd H' a (.lst ((parts 32 u).map wv)) p = some (.lst ((parts 10 z.cps.toList).map wv)) := by rw [upd_ne pa.symm]; exact hp'
        have e2 : upd H' a (.lst ((parts 32 u).map wv)) a = some (.lst ((parts 32 u).map wv)) := upd_same
        refine ⟨.ref F1, rfl, .inl ⟨rfl, _, SqL.of ra2.f⟩, .ref a, rfl, a, _, rfl, .inl (SqL.of e2), rfl, flat_ws _, _, rfl, ?_⟩
        rw [if_neg Bool.false_ne_true, inV_ws]
        generalize upd H' a (.lst ((parts 32 u).map wv)) = H2 at ra2 hp2 e2 ⊢
        cases hin : decide ([] ∈ parts 32 u) with
        | false =>
          have e := filter_all _ (of_decide_eq_false hin)
          refine iteF ⟨.ref a, rfl, F1, _, .ref a, rfl, rfl, ra2.f, by rw [List.length_map]; omega, ?_⟩
          exact ⟨_, _, _, as ++ [a], rfl, by rw [upd_ne pF]; exact hp2, ra2.more (by rw [e2]; unfold words; rw [e]) aF a0⟩
        | true =>
          refine iteT ⟨.ref a, rfl, a, rfl, ⟨_, SqL.of e2⟩, fun D hD => ?_⟩
          refine lc_list (K := K) (a := a) (xs := (parts 32 u).map wv) (fun i H' => Kept None H2 H' ∧ H' D = some (.lst ((((parts 32 u).take i).filter ne0).map wv)))
            ⟨Kept.refl.new hD, upd_same⟩ (fun i H' _ h => .inl (.inl (h.1.lst e2 (fun z => z)))) (fun i x H' hx h => ?_) (fun H' h => ?_)
          · rw [List.getElem?_map] at hx
            obtain ⟨v, hv, rfl⟩ := Option.map_eq_some_iff.mp hx
            obtain ⟨k1, k2⟩ := h
            have hvl : v.length ≤ u.length := parts_mem_len 32 _ v (List.mem_of_getElem? hv)
            refine ⟨rfl, wv v, rfl, _, ⟨by show (mkS v).length ≤ sizeLine; rw [mkS_len]; omega, rfl⟩, ?_⟩
            have ek : (((mkS v).length : Int) != 0) = ne0 v := by
              rw [mkS_len]; unfold ne0
              cases v with
              | nil => rfl
              | cons a r => simp; omega
            rw [ek]
            have tf := take_filter ne0 _ i v hv
            cases hn : ne0 v with
            | true =>
              rw [hn, if_pos rfl] at tf
              have hlen : ((((parts 32 u).take i).filter ne0).map wv).length ≤ z.length + 1 := by
                rw [List.length_map]
                refine Nat.le_trans (List.length_filter_le _ _) ?_
                rw [List.length_take]
                omega
              refine iteT ⟨wv v, rfl, _, k2, by omega, fun b o e n => ?_, ?_⟩
              · rw [upd_ne (ne_of_none e hD)]
                exact k1 b o e n
              · rw [upd_same, tf, List.map_append]
                rfl
            | false =>
              rw [hn, if_neg Bool.false_ne_true, List.append_nil] at tf
              refine iteF ⟨k1, ?_⟩
              rw [tf]
              exact k2
          · rw [List.length_map, List.take_length] at h
            obtain ⟨k1, k2⟩ := h
            have ra3 := ra2.stay k1
            have DF : D ≠ F1 := fun e => by rw [e, ra2.f] at hD; cases hD
            refine ⟨F1, _, .ref D, rfl, rfl, ra3.f, by rw [List.length_map]; omega, ?_⟩
            exact ⟨_, _, _, as ++ [D], rfl, by rw [upd_ne pF]; exact k1.lst hp2 (fun z => z), ra3.more k2 DF (ra2.k.free hD)⟩
    · obtain ⟨x2, x3, x4, as, rfl, hp', ra⟩ := h
      rw [List.length_map, List.take_length] at ra
      refine ⟨.ref F1, rfl, q F1 H' ra.nF ra.k ⟨as, ra.f, by rw [ra.len]; unfold rows; rw [List.length_map], fun i a r e1 e2 => ?_⟩⟩
      unfold rows at e2
      rw [List.getElem?_map] at e2
      obtain ⟨l, hl, rfl⟩ := Option.map_eq_some_iff.mp e2
      exact ⟨(ra.old i a l e1 hl).1, (ra.old i a l e1 hl).2.2⟩
end
end K7

set_option Elab.async false
set_option linter.all false
set_option maxRecDepth 100000
set_option maxHeartbeats 4000000
namespace K7
open PySem PySem.Spec PyProof.Rows L2
/-! ### programs as trees, their lines -/
/-- a name by its form -/
def Nm (x : PySem.Str) : Prop := nameB (.str x) = true
/-- figures -/
def dec (n : Nat) : PySem.Str := PySem.Str.ofString (toString ((n : Nat) : Int))
inductive Op where
  | add | less | and | or | unlike | same | below
def Op.name : Op → PySem.Str
  | .add => "add"
  | .less => "less"
  | .and => "and"
  | .or => "or"
  | .unlike => "unlike"
  | .same => "same"
  | .below => "below"
inductive Ex where
  | num (n : Nat)
  | copy (y : PySem.Str)
  | two (o : Op) (y z : PySem.Str)
  | up (y : PySem.Str) (k : Nat)
  | down (y : PySem.Str) (k : Nat)
  | pick (c y z : PySem.Str)
def Ex.word : Ex → PySem.Str
  | .num _ => "number"
  | .copy _ => "copy"
  | .two o _ _ => o.name
  | .up _ _ => "up"
  | .down _ _ => "down"
  | .pick _ _ _ => "pick"
def Ex.parts : Ex → List V
  | .num n => [.int (n : Int)]
  | .copy y => [.str y]
  | .two _ y z => [.str y, .str z]
  | .up y k => [.str y, .int (k : Int)]
  | .down y k => [.str y, .int (k : Int)]
  | .pick c y z => [.str c, .str y, .str z]
def Ex.vs (e : Ex) : List V := .str e.word :: e.parts
def Ex.names : Ex → List PySem.Str
  | .num _ => []
  | .copy y => [y]
  | .two _ y z => [y, z]
  | .up y _ => [y]
  | .down y _ => [y]
  | .pick c y z => [c, y, z]
/-- the words of an expression -/
def Ex.words : Ex → List PySem.Str
  | .num n => ["number", dec n]
  | .copy y => ["copy", y]
  | .two o y z => [o.name, y, z]
  | .up y k => ["up", y, dec k]
  | .down y k => ["down", y, dec k]
  | .pick c y z => ["pick", c, y, z]
def Ex.ok (v : Nat) : Ex → Prop
  | .num n => n < 2 ^ v
  | .up _ k => k ≤ 11
  | .down _ k => k ≤ 11
  | _ => True
inductive Tr where
  | nil
  | set (x : PySem.Str) (e : Ex) (t : Tr)
  | tell (x : PySem.Str) (t : Tr)
  | ite (x : PySem.Str) (a b t : Tr)
  | rnd (n : Nat) (a t : Tr)
def Tr.all : Tr → Nat
  | .nil => 0
  | .set _ _ t => 1 + t.all
  | .tell _ t => 1 + t.all
  | .ite _ a b t => 1 + a.all + b.all + t.all
  | .rnd _ a t => 1 + a.all + t.all
def Tr.len : Tr → Nat
  | .nil => 0
  | .set _ _ t => 1 + t.len
  | .tell _ t => 1 + t.len
  | .ite _ _ _ t => 1 + t.len
  | .rnd _ _ t => 1 + t.len
/-- as read at that depth, within so many rounds: names, numbers, how deep -/
def Tr.fine (v : Nat) : Nat → Nat → Tr → Prop
  | _, _, .nil => True
  | d, r, .set x e t => Nm x ∧ (∀ y ∈ e.names, Nm y) ∧ e.ok v ∧ d ≤ 6 ∧ t.fine v d r
  | d, r, .tell x t => Nm x ∧ d ≤ 6 ∧ t.fine v d r
  | d, r, .ite x a b t => Nm x ∧ d ≤ 6 ∧ a.fine v (d + 1) r ∧ b.fine v (d + 1) r ∧ t.fine v d r
  | d, r, .rnd n a t => n ≤ 12 ∧ r < 3 ∧ d ≤ 6 ∧ a.fine v (d + 1) (r + 1) ∧ t.fine v d r
/-- its lines -/
def Tr.lines : Tr → List (List PySem.Str)
  | .nil => []
  | .set x e t => (("set" : PySem.Str) :: x :: e.words) :: t.lines
  | .tell x t => ["tell", x] :: t.lines
  | .ite x a b t => ["if", x] :: (a.lines ++ [("else" : PySem.Str)] :: (b.lines ++ [("end" : PySem.Str)] :: t.lines))
  | .rnd n a t => ["round", dec n] :: (a.lines ++ [("end" : PySem.Str)] :: t.lines)
/-- the rows of a tree, as items -/
inductive Its (H : Hp) : List V → Tr → Prop where
  | nil : Its H [] .nil
  | set {p q : Addr} {x : PySem.Str} {e : Ex} {xs : List V} {t : Tr} (h : H p = some (.tup [.str "set", .str x, .ref q])) (he : H q = some (.tup e.vs)) (r : Its H xs t) : Its H (.ref p :: xs) (.set x e t)
  | tell {p : Addr} {x : PySem.Str} {xs : List V} {t : Tr} (h : H p = some (.tup [.str "tell", .str x])) (r : Its H xs t) : Its H (.ref p :: xs) (.tell x t)
  | ite {p q1 q2 : Addr} {x : PySem.Str} {as bs xs : List V} {a b t : Tr} (h : H p = some (.tup [.str "if", .str x, .ref q1, .ref q2])) (h1 : H q1 = some (.tup as)) (h2 : H q2 = some (.tup bs)) (ra : Its H as a) (rb : Its H bs b) (r : Its H xs t) : Its H (.ref p :: xs) (.ite x a b t)
  | rnd {p q : Addr} {n : Nat} {as xs : List V} {a t : Tr} (h : H p = some (.tup [.str "round", .int (n : Int), .ref q])) (h1 : H q = some (.tup as)) (ra : Its H as a) (r : Its H xs t) : Its H (.ref p :: xs) (.rnd n a t)
theorem Its.stay {D : Addr → Prop} {H H1 : Hp} {xs : List V} {t : Tr} (i : Its H xs t) (k : Kept D H H1) (n : ∀ p ys, H p = some (.tup ys) → ¬ D p) : Its H1 xs t := by
  induction i with
  | nil => exact .nil
  | set h he _ ih => exact .set (k.tup h (n _ _ h)) (k.tup he (n _ _ he)) ih
  | tell h _ ih => exact .tell (k.tup h (n _ _ h)) ih
  | ite h h1 h2 _ _ _ ia ib ih => exact .ite (k.tup h (n _ _ h)) (k.tup h1 (n _ _ h1)) (k.tup h2 (n _ _ h2)) ia ib ih
  | rnd h h1 _ _ ia ih => exact .rnd (k.tup h (n _ _ h)) (k.tup h1 (n _ _ h1)) ia ih
theorem Its.len {H : Hp} {xs : List V} {t : Tr} (i : Its H xs t) : xs.length = t.len := by
  induction i with
  | nil => rfl
  | set _ _ _ ih => rw [List.length_cons, ih, Tr.len, Nat.add_comm]
  | tell _ _ ih => rw [List.length_cons, ih, Tr.len, Nat.add_comm]
  | ite _ _ _ _ _ _ _ _ ih => rw [List.length_cons, ih, Tr.len, Nat.add_comm]
  | rnd _ _ _ _ _ ih => rw [List.length_cons, ih, Tr.len, Nat.add_comm]
theorem Tr.len_all : ∀ t : Tr, t.len ≤ t.all
  | .nil => Nat.le_refl _
  | .set _ _ t => Nat.add_le_add_left (len_all t) 1
  | .tell _ t => Nat.add_le_add_left (len_all t) 1
  | .ite _ a b t => by
    have := len_all t
    simp only [Tr.len, Tr.all]
    omega
  | .rnd _ a t => by
    have := len_all t
    simp only [Tr.len, Tr.all]
    omega
/-- one tree behind another -/
def Tr.app : Tr → Tr → Tr
  | .nil, u => u
  | .set x e t, u => .set x e (t.app u)
  | .tell x t, u => .tell x (t.app u)
  | .ite x a b t, u => .ite x a b (t.app u)
  | .rnd n a t, u => .rnd n a (t.app u)
theorem Its.app {H : Hp} {xs ys : List V} {t u : Tr} (i : Its H xs t) (j : Its H ys u) : Its H (xs ++ ys) (t.app u) := by
  induction i with
  | nil => exact j
  | set h he _ ih => exact .set h he ih
  | tell h _ ih => exact .tell h ih
  | ite h h1 h2 ra rb _ _ _ ih => exact .ite h h1 h2 ra rb ih
  | rnd h h1 ra _ _ ih => exact .rnd h h1 ra ih
theorem Tr.app_lines : ∀ t u : Tr, (t.app u).lines = t.lines ++ u.lines
  | .nil, _ => rfl
  | .set _ _ t, u => by simp only [Tr.app, Tr.lines, app_lines t u, List.cons_append]
  | .tell _ t, u => by simp only [Tr.app, Tr.lines, app_lines t u, List.cons_append]
  | .ite _ a b t, u => by simp only [Tr.app, Tr.lines, app_lines t u, List.cons_append, List.append_assoc]
  | .rnd _ a t, u => by simp only [Tr.app, Tr.lines, app_lines t u, List.cons_append, List.append_assoc]
theorem Tr.app_assoc : ∀ t u w : Tr, (t.app u).app w = t.app (u.app w)
  | .nil, _, _ => rfl
  | .set _ _ t, u, w => by simp only [Tr.app, app_assoc t u w]
  | .tell _ t, u, w => by simp only [Tr.app, app_assoc t u w]
  | .ite _ _ _ t, u, w => by simp only [Tr.app, app_assoc t u w]
  | .rnd _ _ t, u, w => by simp only [Tr.app, app_assoc t u w]
theorem Tr.app_all : ∀ t u : Tr, (t.app u).all = t.all + u.all
  | .nil, _ => (Nat.zero_add _).symm
  | .set _ _ t, u => by simp only [Tr.app, Tr.all, app_all t u]; omega
  | .tell _ t, u => by simp only [Tr.app, Tr.all, app_all t u]; omega
  | .ite _ _ _ t, u => by simp only [Tr.app, Tr.all, app_all t u]; omega
  | .rnd _ _ t, u => by simp only [Tr.app, Tr.all, app_all t u]; omega
end K7

set_option Elab.async false
set_option linter.all false
set_option maxRecDepth 100000
set_option maxHeartbeats 4000000
namespace K7
open PySem PySem.Spec PyProof.Rows L2
/-! ### what isn't come to -/
def tNever : TS := fun _ _ _ => False
theorem ps_never {X : Cx} {st : Stmt} : PS X st tNever := ⟨fun _ _ _ _ _ _ h => h.elim⟩
/-! ### the reading's object -/
abbrev FnM (K : PySem.W.Frag) (x q : PySem.Str) (st : Stmt) (f : Addr) (fd : FuncData) : Prop := FunD K x q (defArgs st) (defBody st) (defScope st) [] [] f fd
structure TxC (K : PySem.W.Frag) (mg : PySem.Str → Option Value) (C : Addr) : Prop where
  cl : Cls K C
  nA : NoAttr K C "all_lines"
  nL : NoAttr K C "lines"
  nT : NoAttr K C "taken"
  nM : NoAttr K C "many_rows"
  nN : NoAttr K C "names"
  nB : NoAttr K C "bounds"
  mgC : mg "Text" = some (.ref C)
def fsT (A L : Addr) (k m : Nat) (N B : Addr) : List (PySem.Str × V) := [("all_lines", .ref A), ("lines", .ref L), ("taken", .int (k : Int)), ("many_rows", .int (m : Int)), ("names", .ref N), ("bounds", .ref B)]
theorem f_A {A L : Addr} {k m : Nat} {N B : Addr} : (fsT A L k m N B).lookup ("all_lines" : PySem.Str) = some (.ref A) := rfl
theorem f_L {A L : Addr} {k m : Nat} {N B : Addr} : (fsT A L k m N B).lookup ("lines" : PySem.Str) = some (.ref L) := rfl
theorem f_T {A L : Addr} {k m : Nat} {N B : Addr} : (fsT A L k m N B).lookup ("taken" : PySem.Str) = some (.int (k : Int)) := rfl
theorem f_M {A L : Addr} {k m : Nat} {N B : Addr} : (fsT A L k m N B).lookup ("many_rows" : PySem.Str) = some (.int (m : Int)) := rfl
theorem f_N {A L : Addr} {k m : Nat} {N B : Addr} : (fsT A L k m N B).lookup ("names" : PySem.Str) = some (.ref N) := rfl
theorem f_B {A L : Addr} {k m : Nat} {N B : Addr} : (fsT A L k m N B).lookup ("bounds" : PySem.Str) = some (.ref B) := rfl
theorem p_T {A L : Addr} {k m k' : Nat} {N B : Addr} : putF "taken" (.int (k' : Int)) (fsT A L k m N B) = fsT A L k' m N B := rfl
theorem p_M {A L : Addr} {k m m' : Nat} {N B : Addr} : putF "many_rows" (.int (m' : Int)) (fsT A L k m N B) = fsT A L k m' N B := rfl
end K7

set_option Elab.async false
set_option linter.all false
set_option maxRecDepth 100000
set_option maxHeartbeats 4000000
namespace K7
open PySem PySem.Spec PyProof.Rows L2
/-! ### figures read back -/
def decB (n : Nat) : Bool := numOk (dec n).cps.toList && (decide (numI (dec n).cps.toList = (n : Int)) && decide ((dec n).length ≤ 8))
theorem dec_all : (List.range 4096).all decB = true := by decide +kernel
theorem dec_num {n : Nat} (h : n < 4096) : numV (dec n).cps.toList = .int (n : Int) ∧ (dec n).length ≤ 8 := by
  have q := List.all_eq_true.mp dec_all n (List.mem_range.mpr h)
  unfold decB at q
  obtain ⟨q1, q2⟩ := Bool.and_eq_true_iff.mp q
  obtain ⟨q2, q3⟩ := Bool.and_eq_true_iff.mp q2
  refine ⟨?_, of_decide_eq_true q3⟩
  unfold numV
  rw [if_pos q1, of_decide_eq_true q2]
end K7

set_option Elab.async false
set_option linter.all false
set_option maxRecDepth 100000
set_option maxHeartbeats 4000000
namespace K7
open PySem PySem.Spec PyProof.Rows L2
/-! ### what stands while a text is read -/
structure Ad where
  (p dx A L N B : Addr)
/-- the bounds of a kind of number -/
inductive BK : Option Nat → PySem.Str → Nat → Nat → Prop
  | wide {v} : BK v "wide" 1 12
  | goings {v} : BK v "goings" 0 12
  | shift {v} : BK v "shift" 0 11
  | word {v : Nat} : BK (some v) "word" 0 (2 ^ v - 1)
structure Rd (C : Addr) (a : Ad) (ls : List (List PySem.Str)) (v : Option Nat) (k m b : Nat) (H : Hp) : Prop where
  o : H a.p = some (.ins C a.dx (fsT a.A a.L k m a.N a.B))
  l : ∃ ts : List Addr, H a.L = some (.lst (ts.map V.ref)) ∧ ts.length = ls.length ∧ ∀ (i : Nat) (t : Addr) (l : List PySem.Str), ts[i]? = some t → ls[i]? = some l → H t = some (.lst (l.map V.str))
  n : ∃ kvs : List (Key × V), H a.N = some (.dK kvs) ∧ (∀ q ∈ kvs, ∃ x, q.1 = Sum.inr x ∧ Nm x) ∧ kvs.length ≤ b
  bd : ∃ bvs : List (Key × V), H a.B = some (.dK bvs) ∧ ∀ kind lo hi, BK v kind lo hi → ∃ t, valV bvs (Sum.inr kind : Key) = some (.ref t) ∧ H t = some (.tup [.int (lo : Int), .int (hi : Int)])
  nb : a.N ≠ a.B
abbrev At3 (a : Ad) : Addr → Prop := fun b => b = a.p ∨ b = a.N
theorem Rd.stay {C : Addr} {a : Ad} {ls : List (List PySem.Str)} {v : Option Nat} {k m b : Nat} {H H' : Hp} (r : Rd C a ls v k m b H) (kp : Kept None H H') : Rd C a ls v k m b H' := by
  obtain ⟨o, ⟨ts, l1, l2, l3⟩, ⟨kvs, n1, n2, n3⟩, ⟨bvs, b1, b2⟩, nb⟩ := r
  refine ⟨kp a.p _ o (fun z => z), ⟨ts, kp.lst l1 (fun z => z), l2, fun i t l h1 h2 => kp.lst (l3 i t l h1 h2) fun z => z⟩, ⟨kvs, kp.dK n1 (fun z => z), n2, n3⟩, ⟨bvs, kp.dK b1 (fun z => z), fun kind lo hi h => ?_⟩, nb⟩
  obtain ⟨t, t1, t2⟩ := b2 kind lo hi h
  exact ⟨t, t1, kp.tup t2 fun z => z⟩
theorem Rd.more {C : Addr} {a : Ad} {ls : List (List PySem.Str)} {v : Option Nat} {k m b b' : Nat} {H : Hp} (r : Rd C a ls v k m b H) (h : b ≤ b') : Rd C a ls v k m b' H :=
  ⟨r.o, r.l, by obtain ⟨kvs, n1, n2, n3⟩ := r.n; exact ⟨kvs, n1, n2, by omega⟩, r.bd, r.nb⟩
/-- the object's numbers otherwise -/
theorem Rd.set {C : Addr} {a : Ad} {ls : List (List PySem.Str)} {v : Option Nat} {k m b k' m' : Nat} {H : Hp} (r : Rd C a ls v k m b H) : Rd C a ls v k' m' b (upd H a.p (.ins C a.dx (fsT a.A a.L k' m' a.N a.B))) := by
  obtain ⟨o, ⟨ts, l1, l2, l3⟩, ⟨kvs, n1, n2, n3⟩, ⟨bvs, b1, b2⟩, nb⟩ := r
  have ne : ∀ {q : Addr} {u : HO}, H q = some u → (∀ C dx fs, u ≠ .ins C dx fs) → q ≠ a.p := fun {q u} e h z => by
    rw [z, o] at e
    exact h _ _ _ (Option.some.inj e).symm
  refine ⟨upd_same, ⟨ts, by rw [upd_ne (ne l1 (fun _ _ _ z => by cases z))]; exact l1, l2, fun i t l h1 h2 => by rw [upd_ne (ne (l3 i t l h1 h2) (fun _ _ _ z => by cases z))]; exact l3 i t l h1 h2⟩, ⟨kvs, by rw [upd_ne (ne n1 (fun _ _ _ z => by cases z))]; exact n1, n2, n3⟩, ⟨bvs, by rw [upd_ne (ne b1 (fun _ _ _ z => by cases z))]; exact b1, fun kind lo hi h => ?_⟩, nb⟩
  obtain ⟨t, t1, t2⟩ := b2 kind lo hi h
  exact ⟨t, t1, by rw [upd_ne (ne t2 (fun _ _ _ z => by cases z))]; exact t2⟩
/-- one more known name -/
theorem Rd.name {C : Addr} {a : Ad} {ls : List (List PySem.Str)} {v : Option Nat} {k m b : Nat} {H : Hp} (r : Rd C a ls v k m b H) {x : PySem.Str} (hx : Nm x) {kvs : List (Key × V)} (e : H a.N = some (.dK kvs)) (hk : ∀ q ∈ kvs, ∃ x, q.1 = Sum.inr x ∧ Nm x) (lk : kvs.length ≤ b) :
    Rd C a ls v k m (b + 1) (upd H a.N (.dK (putK kvs (Sum.inr x) (.bl true)))) := by
  obtain ⟨o, ⟨ts, l1, l2, l3⟩, _, ⟨bvs, b1, b2⟩, nb⟩ := r
  have ne : ∀ {q : Addr} {u : HO}, H q = some u → (∀ kvs, u ≠ .dK kvs) → q ≠ a.N := fun {q u} e2 h z => by
    rw [z, e] at e2
    exact h _ (Option.some.inj e2).symm
  refine ⟨by rw [upd_ne (ne o (fun _ z => by cases z))]; exact o, ⟨ts, by rw [upd_ne (ne l1 (fun _ z => by cases z))]; exact l1, l2, fun i t l h1 h2 => by rw [upd_ne (ne (l3 i t l h1 h2) (fun _ z => by cases z))]; exact l3 i t l h1 h2⟩, ⟨_, upd_same, ?_, ?_⟩, ⟨bvs, by rw [upd_ne (Ne.symm nb)]; exact b1, fun kind lo hi h => ?_⟩, nb⟩
  · intro q hq
    unfold putK at hq
    split at hq
    · obtain ⟨q', hq', rfl⟩ := List.mem_map.mp hq
      split
      · exact hk q' hq'
      · exact hk q' hq'
    · rcases List.mem_append.mp hq with h | h
      · exact hk q h
      · rw [List.mem_singleton.mp h]; exact ⟨x, rfl, hx⟩
  · unfold putK
    split
    · rw [List.length_map]; omega
    · rw [List.length_append]; exact Nat.succ_le_succ lk
  · obtain ⟨t, t1, t2⟩ := b2 kind lo hi h
    exact ⟨t, t1, by rw [upd_ne (ne t2 (fun _ z => by cases z))]; exact t2⟩
end K7

set_option Elab.async false
set_option linter.all false
set_option maxRecDepth 100000
set_option maxHeartbeats 4000000
namespace K7
open PySem PySem.Spec PyProof.Rows L2
/-! ### numbers, names, lines -/
abbrev sNumberOf : Stmt := inClass (top 20) 11
theorem scNumberOf : FnScope ["self", "word", "kind", "number", "least", "most"] ["self", "word", "kind"] (defScope sNumberOf) := ⟨rfl, rfl, rfl, by decide +kernel, rfl, by decide +kernel, by decide +kernel⟩
abbrev sAreNames : Stmt := inClass (top 20) 12
theorem scAreNames : FnScope ["self", "words", "known", "word"] ["self", "words"] (defScope sAreNames) := ⟨rfl, rfl, rfl, by decide +kernel, rfl, by decide +kernel, by decide +kernel⟩
def spNumOf (C : Addr) : Sp := fun vs H Q _ => ∃ (a : Ad) (ls : List (List PySem.Str)) (v : Option Nat) (k m b n lo hi : Nat) (kind : PySem.Str), vs = [.ref a.p, .str (dec n), .str kind] ∧ n < 4096 ∧ Rd C a ls v k m b H ∧ BK v kind lo hi ∧ lo ≤ n ∧ n ≤ hi ∧ ∀ H', Kept None H H' → Q (.int (n : Int)) H'
def spAre (C : Addr) : Sp := fun vs H Q _ => ∃ (a : Ad) (ls : List (List PySem.Str)) (v : Option Nat) (k m b : Nat) (W : Addr) (ws : List PySem.Str), vs = [.ref a.p, .ref W] ∧ H W = some (.lst (ws.map V.str)) ∧ (∀ x ∈ ws, Nm x) ∧ ws.length ≤ 10 ∧ Rd C a ls v k m b H ∧ b ≤ 5000 ∧ ∀ H', Kept (At3 a) H H' → Rd C a ls v k m (b + ws.length) H' → Q (.bl true) H'
theorem Nm.len {x : PySem.Str} (h : Nm x) : x.length ≤ 8 := by
  unfold Nm nameB at h
  dsimp only at h
  obtain ⟨h, _⟩ := Bool.and_eq_true_iff.mp h
  exact of_decide_eq_true (Bool.and_eq_true_iff.mp h).2
section
variable {P : Program} {w : World} {K : PySem.W.Frag} {mg : PySem.Str → Option Value} {base : Heap} {f fN C : Addr} {fd fdN : FuncData}
theorem ok_numof (F : FnM K "number_of" "Text.number_of" sNumberOf f fd) (T : TxC K mg C) (GN : FnOk P w K mg base CX0 3 fN fdN ["word"] spNum) (bN : Binds K fdN ["word"] []) (kN : PySem.W.keepIn K (.ref fN) = true) (gN : mg "number_in" = some (.ref fN)) : FnOk P w K mg base CX0 4 f fd ["self", "word", "kind"] (spNumOf C) := by
  refine F.ok (k := 3) scNumberOf (fun vs H Q E h => ?_) (fun cdv A outer s H vs Q E hr h => ?_)
  · obtain ⟨a, ls, v, k, m, b, n, lo, hi, kind, rfl, _⟩ := h
    rfl
  · obtain ⟨a, ls, v, k, m, b, n, lo, hi, kind, rfl, hn, r, bk, h1, h2, q⟩ := h
    have hu := hu_of hr
    refine ⟨_, PSs.nox (pss_cons (ps_set (i := 3) scNumberOf.nd rfl (Or.inl rfl) (pe_call GN hr (by rfl) gN kN bN .nil pass0 (pa_cons (pv 1) pa_nil)))
    (pss_cons (ps_asg (pe_dget hu (pe_fld (pv 0) rfl) (pv 2) (fun _ _ => rfl)) (pg_tup rfl (pgs_cons (pg_name (i := 4) scNumberOf.nd rfl (Or.inl rfl)) (pgs_cons (pg_name (i := 5) scNumberOf.nd rfl (Or.inl rfl)) pgs_nil))))
    (pss_one (ps_ret (pe_ifExp (PW.pt (pw_and (pt_cmpR op_notN (pv 3) pe_non (nomark _)) (pw_and1 (pt_chain op_le op_le (pv 4) (pv 3) (pv 5))))) (pv 3) pe_non))))), ?_⟩
    obtain ⟨d1, d2⟩ := dec_num hn
    refine ⟨.str (dec n), rfl, dec n, rfl, by rw [sizeLine_eq]; omega, fun H1 k1 => ?_⟩
    rw [d1]
    have r1 := r.stay k1
    obtain ⟨bvs, b1, b2⟩ := r1.bd
    obtain ⟨t, t1, t2⟩ := b2 kind lo hi bk
    have dg := DGet.k (k := (Sum.inr kind : Key)) b1
    rw [t1] at dg
    refine ⟨.ref a.p, rfl, a.p, C, a.dx, _, _, rfl, r1.o, T.cl, T.nB, f_B, .str kind, rfl, a.B, .ref t, rfl, dg, ?_⟩
    refine ⟨t, _, rfl, SqT.of t2, rfl, .int (lo : Int), [.int (hi : Int)], rfl, .int (hi : Int), [], rfl, rfl, ?_⟩
    refine ⟨.int (n : Int), rfl, rfl, _, rfl, iteT ?_⟩
    refine ⟨.int (lo : Int), rfl, .int (n : Int), rfl, lo, n, rfl, rfl, _, rfl, ?_⟩
    rw [decide_eq_true (show (lo : Int) ≤ (n : Int) by omega)]
    refine iteT ⟨.int (hi : Int), rfl, n, hi, rfl, rfl, _, rfl, ?_⟩
    rw [decide_eq_true (show (n : Int) ≤ (hi : Int) by omega)]
    exact iteT ⟨.int (n : Int), rfl, q H1 k1⟩
theorem ok_are (F : FnM K "are_names" "Text.are_names" sAreNames f fd) (T : TxC K mg C) (GN : FnOk P w K mg base CX0 2 fN fdN ["thing"] (spName K)) (bN : Binds K fdN ["thing"] []) (kN : PySem.W.keepIn K (.ref fN) = true) (gN : mg "is_name" = some (.ref fN)) : FnOk P w K mg base CX0 3 f fd ["self", "words"] (spAre C) := by
  refine F.ok (k := 2) scAreNames (fun vs H Q E h => ?_) (fun cdv A outer s H vs Q E hr h => ?_)
  · obtain ⟨a, ls, v, k, m, b, W, ws, rfl, _⟩ := h
    rfl
  · obtain ⟨a, ls, v, k, m, b, W, ws, rfl, hW, nm, few, r, hb, q⟩ := h
    have hu := hu_of hr
    refine ⟨_, PSs.nox (pss_cons (ps_set (i := 2) scAreNames.nd rfl (Or.inl rfl) (pe_fld (pv 0) rfl))
    (pss_cons (ps_for PassesOwn.never rfl (pi_list (pv 1)) (pg_name (i := 3) scAreNames.nd rfl (Or.inl rfl))
      (pss_one (ps_if (pt_cmp (pc_dnotin hu (pv 3) (pv 2)))
        (pss_cons (ps_if (pt_not (pt_val (pe_call GN hr (by rfl) gN kN bN .nil pass0 (pa_cons (pv 3) pa_nil))))
          (pss_one (ps_ret pe_bl))
          pss_nil)
        (pss_one (ps_dput hu (pv 2) (pv 3) pe_bl rfl)))
        pss_nil)))
    (pss_one (ps_ret pe_bl)))), ?_⟩
    have hWp : W ≠ a.p := fun z => by rw [z, r.o] at hW; cases hW
    have hWN : W ≠ a.N := fun z => by
      obtain ⟨_, n1, _⟩ := r.n
      rw [z, n1] at hW; cases hW
    refine ⟨.ref a.p, rfl, a.p, C, a.dx, _, _, rfl, r.o, T.cl, T.nN, f_N, ?_⟩
    refine ⟨.ref W, rfl, W, rfl, ⟨_, SqL.of hW⟩, ?_⟩
    refine for_list (K := K) (a := W) (xs := ws.map V.str) (fun i σ H' => ∃ x3, σ = [some (.ref a.p), some (.ref W), some (.ref a.N), x3] ∧ Kept (At3 a) H H' ∧ Rd C a ls v k m (b + i) H') ⟨none, rfl, Kept.refl, r⟩ (fun i σ H' _ h => ?_) (fun i x σ H' hx h => ?_) (fun σ H' h => ?_)
    · obtain ⟨_, _, k1, _⟩ := h
      exact SqL.of (k1.lst hW fun z => z.elim hWp hWN)
    · obtain ⟨x3, rfl, k1, r1⟩ := h
      rw [List.getElem?_map] at hx
      obtain ⟨z, hz, rfl⟩ := Option.map_eq_some_iff.mp hx
      have nz := nm z (List.mem_of_getElem? hz)
      have hi : i < ws.length := (List.getElem?_eq_some_iff.mp hz).1
      obtain ⟨kvs, n1, n2, n3⟩ := r1.n
      refine ⟨.str z, rfl, .ref a.N, rfl, a.N, _, rfl, DGet.k (k := (Sum.inr z : Key)) n1, _, rfl, ?_⟩
      have kN0 : Kept (At3 a) H' (upd H' a.N (.dK (putK kvs (Sum.inr z) (.bl true)))) := Kept.refl.upd (.inr rfl)
      cases hv : valV kvs (Sum.inr z : Key) with
      | some u => exact iteF ⟨_, rfl, k1, r1.more (by omega)⟩
      | none =>
        refine iteT ⟨.str z, rfl, .str z, "str", rfl, .str z, fun z' e => by cases e; rw [sizeLine_eq]; have := nz.len; omega, fun H2 k2 => ⟨_, rfl, ?_⟩⟩
        rw [show nameB (.str z) = true from nz]
        have r2 := r1.stay k2
        have n1' := k2.dK n1 fun z => z
        have k3 : Kept (At3 a) H H2 := k1.trans (k2.weak fun _ z => z.elim)
        refine iteF ⟨.ref a.N, rfl, .str z, rfl, a.N, _, rfl, DPut.k (k := (Sum.inr z : Key)) n1' (by rw [sizeLine_eq]; omega), ?_⟩
        exact ⟨_, rfl, k3.upd (.inr rfl), r2.name nz n1' n2 n3⟩
    · obtain ⟨x3, rfl, k1, r1⟩ := h
      rw [List.length_map] at r1
      exact q H' k1 r1
end
end K7

set_option Elab.async false
set_option linter.all false
set_option maxRecDepth 100000
set_option maxHeartbeats 4000000
namespace K7
open PySem PySem.Spec PyProof.Rows L2
abbrev sTakeLineOf : Stmt := inClass (top 20) 7
theorem scTakeLineOf : FnScope ["self", "word", "words"] ["self", "word"] (defScope sTakeLineOf) := ⟨rfl, rfl, rfl, by decide +kernel, rfl, by decide +kernel, by decide +kernel⟩
abbrev sTakeClosing : Stmt := inClass (top 20) 8
theorem scTakeClosing : FnScope ["self", "word"] ["self", "word"] (defScope sTakeClosing) := ⟨rfl, rfl, rfl, by decide +kernel, rfl, by decide +kernel, by decide +kernel⟩
abbrev sNameBehind : Stmt := inClass (top 20) 9
theorem scNameBehind : FnScope ["self", "words"] ["self", "words"] (defScope sNameBehind) := ⟨rfl, rfl, rfl, by decide +kernel, rfl, by decide +kernel, by decide +kernel⟩
abbrev sNumberBehind : Stmt := inClass (top 20) 10
theorem scNumberBehind : FnScope ["self", "words", "kind", "number"] ["self", "words", "kind"] (defScope sNumberBehind) := ⟨rfl, rfl, rfl, by decide +kernel, rfl, by decide +kernel, by decide +kernel⟩
def spTake (C : Addr) : Sp := fun vs H Q _ => ∃ (a : Ad) (ls : List (List PySem.Str)) (v : Option Nat) (k m b : Nat) (w0 : PySem.Str) (rest : List PySem.Str), vs = [.ref a.p, .str w0] ∧ Rd C a ls v k m b H ∧ ls[k]? = some (w0 :: rest) ∧
  ∀ (W : Addr) H', Kept (At3 a) H H' → Rd C a ls v (k + 1) m b H' → H' W = some (.lst ((w0 :: rest).map V.str)) → Q (.ref W) H'
def spClose (C : Addr) : Sp := fun vs H Q _ => ∃ (a : Ad) (ls : List (List PySem.Str)) (v : Option Nat) (k m b : Nat) (w0 : PySem.Str), vs = [.ref a.p, .str w0] ∧ Rd C a ls v k m b H ∧ ls[k]? = some [w0] ∧ ∀ H', Kept (At3 a) H H' → Rd C a ls v (k + 1) m b H' → Q .non H'
def spNameB (C : Addr) : Sp := fun vs H Q _ => ∃ (a : Ad) (ls : List (List PySem.Str)) (v : Option Nat) (k m b : Nat) (W : Addr) (w0 x : PySem.Str), vs = [.ref a.p, .ref W] ∧ H W = some (.lst [.str w0, .str x]) ∧ Nm w0 ∧ Nm x ∧ Rd C a ls v k m b H ∧ b ≤ 5000 ∧ ∀ H', Kept (At3 a) H H' → Rd C a ls v k m (b + 2) H' → Q (.str x) H'
def spNumB (C : Addr) : Sp := fun vs H Q _ => ∃ (a : Ad) (ls : List (List PySem.Str)) (v : Option Nat) (k m b n lo hi : Nat) (W : Addr) (w0 kind : PySem.Str), vs = [.ref a.p, .ref W, .str kind] ∧ H W = some (.lst [.str w0, .str (dec n)]) ∧ n < 4096 ∧ Rd C a ls v k m b H ∧ BK v kind lo hi ∧ lo ≤ n ∧ n ≤ hi ∧ ∀ H', Kept None H H' → Q (.int (n : Int)) H'
section
variable {P : Program} {w : World} {K : PySem.W.Frag} {mg : PySem.Str → Option Value} {base : Heap} {f fA fN fT C : Addr} {fd fdA fdN fdT : FuncData}
theorem ok_nameb (F : FnM K "name_behind" "Text.name_behind" sNameBehind f fd) (T : TxC K mg C) (mA : Meth K C "are_names" fA) (GA : FnOk P w K mg base CX0 3 fA fdA ["self", "words"] (spAre C)) (bA : Binds K fdA ["self", "words"] []) (m_len : mg "len" = none) : FnOk P w K mg base CX0 4 f fd ["self", "words"] (spNameB C) := by
  refine F.ok (k := 3) scNameBehind (fun vs H Q E h => ?_) (fun cdv A outer s H vs Q E hr h => ?_)
  · obtain ⟨a, ls, v, k, m, b, W, w0, x, rfl, _⟩ := h
    rfl
  · obtain ⟨a, ls, v, k, m, b, W, w0, x, rfl, hW, n0, n1, r, hb, q⟩ := h
    refine ⟨_, PSs.nox (pss_cons (ps_if (PW.pt (pw_or (pt_cmpR op_ne (pe_callB call_len_seq (by rfl) m_len PySem.boot_len (pa_cons (pv 1) pa_nil)) pe_int (nomark _)) (pw_or1 (pt_not (pt_val (pe_meth (pv 0) T.cl mA GA hr bA .nil pass0 (pa_cons (pv 1) pa_nil)))))))
      (pss_one ps_never)
      pss_nil)
    (pss_one (ps_ret (pe_ix ix_list (pv 1) pe_int (fun _ _ => rfl))))), ?_⟩
    have hWp : W ≠ a.p := fun z => by rw [z, r.o] at hW; cases hW
    have hWN : W ≠ a.N := fun z => by
      obtain ⟨_, n1, _⟩ := r.n
      rw [z, n1] at hW; cases hW
    refine ⟨.ref W, rfl, W, _, rfl, .inl (SqL.of hW), rfl, _, rfl, iteF ?_⟩
    refine ⟨.ref a.p, rfl, a.p, a.dx, _, rfl, r.o, rfl, .ref W, rfl, a, ls, v, k, m, b, W, [w0, x], rfl, hW, ?_, (show 2 ≤ 10 by decide), r, hb, fun H1 k1 r1 => ⟨_, rfl, iteF ?_⟩⟩
    · intro y hy
      simp only [List.mem_cons, List.not_mem_nil, or_false] at hy
      rcases hy with rfl | rfl
      · exact n0
      · exact n1
    exact ⟨.ref W, rfl, W, _, 1, .str x, rfl, rfl, SqL.of (k1.lst hW fun z => z.elim hWp hWN), atI_nat (j := 1) rfl, q H1 k1 r1⟩
theorem ok_numb (F : FnM K "number_behind" "Text.number_behind" sNumberBehind f fd) (T : TxC K mg C) (mN : Meth K C "number_of" fN) (GN : FnOk P w K mg base CX0 4 fN fdN ["self", "word", "kind"] (spNumOf C)) (bN : Binds K fdN ["self", "word", "kind"] []) (m_len : mg "len" = none) : FnOk P w K mg base CX0 5 f fd ["self", "words", "kind"] (spNumB C) := by
  refine F.ok (k := 4) scNumberBehind (fun vs H Q E h => ?_) (fun cdv A outer s H vs Q E hr h => ?_)
  · obtain ⟨a, ls, v, k, m, b, n, lo, hi, W, w0, kind, rfl, _⟩ := h
    rfl
  · obtain ⟨a, ls, v, k, m, b, n, lo, hi, W, w0, kind, rfl, hW, hn, r, bk, h1, h2, q⟩ := h
    refine ⟨_, PSs.nox (pss_cons (ps_set (i := 3) scNumberBehind.nd rfl (Or.inl rfl) (pe_ifExp (pt_cmpR op_eq (pe_callB call_len_seq (by rfl) m_len PySem.boot_len (pa_cons (pv 1) pa_nil)) pe_int (nomark _)) (pe_meth (pv 0) T.cl mN GN hr bN .nil pass0 (pa_cons (pe_ix ix_list (pv 1) pe_int (fun _ _ => rfl)) (pa_cons (pv 2) pa_nil))) pe_non))
    (pss_cons (ps_if (pt_cmpR op_isN (pv 3) pe_non (nomark _))
      (pss_one ps_never)
      pss_nil)
    (pss_one (ps_ret (pv 3))))), ?_⟩
    refine ⟨.ref W, rfl, W, _, rfl, .inl (SqL.of hW), rfl, _, rfl, iteT ?_⟩
    refine ⟨.ref a.p, rfl, a.p, a.dx, _, rfl, r.o, rfl, .ref W, rfl, W, _, 1, .str (dec n), rfl, rfl, SqL.of hW, atI_nat (j := 1) rfl, .str kind, rfl, a, ls, v, k, m, b, n, lo, hi, kind, rfl, hn, r, bk, h1, h2, fun H1 k1 => ?_⟩
    refine ⟨.int (n : Int), rfl, rfl, _, rfl, iteF ?_⟩
    exact ⟨.int (n : Int), rfl, q H1 k1⟩
theorem ok_take (F : FnM K "take_line_of" "Text.take_line_of" sTakeLineOf f fd) (T : TxC K mg C) (m_len : mg "len" = none) : FnOk P w K mg base CX0 1 f fd ["self", "word"] (spTake C) := by
  refine F.ok (k := 0) scTakeLineOf (fun vs H Q E h => ?_) (fun cdv A outer s H vs Q E hr h => ?_)
  · obtain ⟨a, ls, v, k, m, b, w0, rest, rfl, _⟩ := h
    rfl
  · obtain ⟨a, ls, v, k, m, b, w0, rest, rfl, r, hl, q⟩ := h
    refine ⟨_, PSs.nox (pss_cons (ps_if (pt_cmpR op_eq (pe_fld (pv 0) rfl) (pe_callB call_len_seq (by rfl) m_len PySem.boot_len (pa_cons (pe_fld (pv 0) rfl) pa_nil)) (nomark _))
      (pss_one ps_never)
      pss_nil)
    (pss_cons (ps_fldaug (pv 0) pe_int in_add)
    (pss_cons (ps_set (i := 2) scTakeLineOf.nd rfl (Or.inl rfl) (pe_ix ix_list (pe_fld (pv 0) rfl) (pe_op op_sub (pe_fld (pv 0) rfl) pe_int) (fun _ _ => rfl)))
    (pss_cons (ps_if (pt_cmpR op_ne (pe_ix ix_list (pv 2) pe_int (fun _ _ => rfl)) (pv 1) (nomark _))
      (pss_one ps_never)
      pss_nil)
    (pss_one (ps_ret (pv 2))))))), ?_⟩
    obtain ⟨ts, l1, l2, l3⟩ := r.l
    have hk : k < ls.length := (List.getElem?_eq_some_iff.mp hl).1
    refine ⟨.ref a.p, rfl, a.p, C, a.dx, _, _, rfl, r.o, T.cl, T.nT, f_T, .ref a.p, rfl, a.p, C, a.dx, _, _, rfl, r.o, T.cl, T.nL, f_L, a.L, _, rfl, .inl (SqL.of l1), rfl, _, rfl, ite2 (fun z => ?_) (fun _ => ?_)⟩
    · exfalso
      have z2 := V.int.inj (of_decide_eq_true z)
      rw [List.length_map, l2] at z2
      omega
    refine ⟨.ref a.p, rfl, a.p, C, a.dx, _, _, rfl, r.o, T.cl, T.nT, f_T, (k : Int), 1, rfl, rfl, a.dx, _, r.o, (by show 6 < 1000; decide), ?_⟩
    have r1 := r.set (k' := k + 1) (m' := m)
    have k1 : Kept (At3 a) H (upd H a.p (.ins C a.dx (fsT a.A a.L (k + 1) m a.N a.B))) := Kept.refl.upd (.inl rfl)
    have e1 : putF "taken" (.int ((k : Int) + 1)) (fsT a.A a.L k m a.N a.B) = fsT a.A a.L (k + 1) m a.N a.B := p_T (k' := k + 1)
    rw [e1]
    generalize upd H a.p (.ins C a.dx (fsT a.A a.L (k + 1) m a.N a.B)) = H1 at r1 k1 ⊢
    obtain ⟨ts, l1, l2, l3⟩ := r1.l
    have ht := List.getElem?_eq_getElem (l := ts) (i := k) (by omega)
    have eW := l3 k _ _ ht hl
    refine ⟨.ref a.p, rfl, a.p, C, a.dx, _, _, rfl, r1.o, T.cl, T.nL, f_L, .ref a.p, rfl, a.p, C, a.dx, _, _, rfl, r1.o, T.cl, T.nT, f_T, ((k + 1 : Nat) : Int), 1, rfl, rfl, a.L, _, ((k + 1 : Nat) : Int) - 1, .ref ts[k], rfl, rfl, SqL.of l1, ?_, ?_⟩
    · rw [show ((k + 1 : Nat) : Int) - 1 = (k : Int) by omega]
      exact atI_nat (j := k) (by rw [List.getElem?_map, ht]; rfl)
    refine ⟨.ref ts[k], rfl, ts[k], _, 0, .str w0, rfl, rfl, SqL.of eW, atI_nat (j := 0) rfl, .str w0, rfl, rfl, _, rfl, ?_⟩
    rw [decide_eq_true rfl]
    exact iteF ⟨.ref ts[k], rfl, q _ H1 k1 r1 eW⟩
theorem ok_close (F : FnM K "take_closing" "Text.take_closing" sTakeClosing f fd) (T : TxC K mg C) (mT : Meth K C "take_line_of" fT) (GT : FnOk P w K mg base CX0 1 fT fdT ["self", "word"] (spTake C)) (bT : Binds K fdT ["self", "word"] []) (m_len : mg "len" = none) : FnOk P w K mg base CX0 2 f fd ["self", "word"] (spClose C) := by
  refine F.ok (k := 1) scTakeClosing (fun vs H Q E h => ?_) (fun cdv A outer s H vs Q E hr h => ?_)
  · obtain ⟨a, ls, v, k, m, b, w0, rfl, _⟩ := h
    rfl
  · obtain ⟨a, ls, v, k, m, b, w0, rfl, r, hl, q⟩ := h
    refine ⟨_, PSs.nox (pss_one (ps_if (pt_cmpR op_gt (pe_callB call_len_seq (by rfl) m_len PySem.boot_len (pa_cons (pe_meth (pv 0) T.cl mT GT hr bT .nil pass0 (pa_cons (pv 1) pa_nil)) pa_nil)) pe_int (nomark _))
      (pss_one ps_never)
      pss_nil)), ?_⟩
    refine ⟨.ref a.p, rfl, a.p, a.dx, _, rfl, r.o, rfl, .str w0, rfl, a, ls, v, k, m, b, w0, [], rfl, r, hl, fun W H1 k1 r1 eW => ?_⟩
    exact ⟨W, _, rfl, .inl (SqL.of eW), _, 1, rfl, rfl, _, rfl, iteF (q H1 k1 r1)⟩
end
end K7

set_option Elab.async false
set_option linter.all false
set_option maxRecDepth 100000
set_option maxHeartbeats 4000000
namespace K7
open PySem PySem.Spec PyProof.Rows L2
/-! ### d.get(key, other) of a dict of the module, the key there -/
def tKGet2 (K : PySem.W.Frag) (w : World) (td ty tx : TE) : TE := fun σ H Q => td σ H fun x H1 => ∃ a, x = .ref a ∧ (∃ es n, KDict K w a es n) ∧ ty σ H1 fun y H2 => ∃ z : PySem.Str, y = .str z ∧ tx σ H2 fun _ H3 => ∃ (u0 : Value) (v0 : V), PySem.W.nsIn K a z = some (some u0) ∧ RelV v0 u0 ∧ Q v0 H3
section
variable {X : Cx} {o e f : Expr} {apos cpos : Pos} {td ty tx : TE}
theorem pe_kget2 (ho : PE X o td) (he : PE X e ty) (hf : PE X f tx) (m : M2 X o "get" apos e f cpos) : PE X (.Call (.Attribute o "get" apos) [e, f] [] cpos) (tKGet2 X.K X.w td ty tx) := by
  refine ⟨fun pins s σ H Q I h => ?_⟩
  refine wpAny_Call_method m.base m.few m.line PySem.F.plainAttrs_dict PySem.F.slot_dict_get PySem.F.type_dict_get (thn (ho.run pins s σ H _ I h) fun u s1 ⟨x, H1, I1, rx, a, ex, ⟨es, n, D⟩, q1⟩ => ?_)
  subst ex
  obtain rfl : u = Value.ref a := rx
  refine ⟨kd_type D I1, fun b q => ?_, ?_⟩
  · cases q
    exact ⟨_, I1.kIn _ _ D.at_, rfl⟩
  rw [m.trees]
  refine Calls.callWith_builtin rfl (Calls.evalArgs_plain (Calls.spliced_cons (thn (he.run pins s1 σ H1 _ I1 q1) fun iv s2 ⟨y, H2, I2, ry, z, ey, q2⟩ =>
    Calls.spliced_cons (thn (hf.run pins s2 σ H2 _ I2 q2) fun fv s3 ⟨y3, H3, I3, rz, u0, v0, e0, r0, q3⟩ => Calls.spliced_nil ?_))))
  subst ey
  obtain ⟨t, rfl⟩ := ry
  refine call_meetsIn PySem.F.slot_dict_get (kd_type D I3) PySem.F.entry_dict_get (PySem.F.args_dict_get_3 _ _ _) (meets_dict_get_default (PySem.strKind X.prog X.w) a (PySem.strKind_is X.prog X.w z t) D.low fv) ⟨_, PySem.W.mapOf_K (prog := X.prog) I3.kIn D.at_ D.lit, ?_⟩
  rw [PySem.W.find_K D.at_ e0]
  exact ⟨v0, H3, I3.tok _, r0, q3⟩
end
/-! ### the module's tuples -/
def kinds : Ex → List PySem.Str
  | .num _ => ["word"]
  | .copy _ => ["name"]
  | .two _ _ _ => ["name", "name"]
  | .up _ _ => ["name", "shift"]
  | .down _ _ => ["name", "shift"]
  | .pick _ _ _ => ["name", "name", "name"]
structure Tab (K : PySem.W.Frag) (w : World) (mg : PySem.Str → Option Value) (D CW : Addr) : Prop where
  d : ∃ es n, KDict K w D es n
  mD : mg "EXPR_PARTS" = some (.ref D)
  k : ∀ e : Ex, ∃ p, PySem.W.nsIn K D e.word = some (some (.ref p)) ∧ ∀ H, SqT K H p ((kinds e).map V.str)
  mC : mg "CLOSING_WORDS" = some (.ref CW)
  c : ∀ H, SqT K H CW [.str "else", .str "end"]
end K7

set_option Elab.async false
set_option linter.all false
set_option maxRecDepth 100000
set_option maxHeartbeats 4000000
namespace K7
open PySem PySem.Spec PyProof.Rows L2
abbrev sReadInputs : Stmt := inClass (top 20) 2
theorem scReadInputs : FnScope ["self", "words"] ["self"] (defScope sReadInputs) := ⟨rfl, rfl, rfl, by decide +kernel, rfl, by decide +kernel, by decide +kernel⟩
abbrev sReadSet : Stmt := inClass (top 20) 4
theorem scReadSet : FnScope ["self", "words", "kinds", "number"] ["self", "words"] (defScope sReadSet) := ⟨rfl, rfl, rfl, by decide +kernel, rfl, by decide +kernel, by decide +kernel⟩
def spIn (C : Addr) : Sp := fun vs H Q _ => ∃ (a : Ad) (ls : List (List PySem.Str)) (v : Option Nat) (k m b : Nat) (xs : List PySem.Str), vs = [.ref a.p] ∧ Rd C a ls v k m b H ∧ ls[k]? = some (("in" : PySem.Str) :: xs) ∧ xs.length ≤ 4 ∧ (∀ x ∈ xs, Nm x) ∧ b ≤ 5000 ∧
  ∀ (p : Addr) H', Kept (At3 a) H H' → Rd C a ls v (k + 1) m (b + 5) H' → H' p = some (.tup (xs.map V.str)) → Q (.ref p) H'
theorem nm_in : Nm "in" := by unfold Nm; decide +kernel
theorem nm_set : Nm "set" := by unfold Nm; decide +kernel
theorem nm_word (e : Ex) : Nm e.word := by
  have n0 : ∀ o : Op, Nm o.name := fun o => by
    unfold Nm
    cases o <;> decide +kernel
  cases e with
  | num n => exact (by unfold Nm; decide +kernel : Nm "number")
  | copy y => exact (by unfold Nm; decide +kernel : Nm "copy")
  | two o y z => exact n0 o
  | up y k => exact (by unfold Nm; decide +kernel : Nm "up")
  | down y k => exact (by unfold Nm; decide +kernel : Nm "down")
  | pick c y z => exact (by unfold Nm; decide +kernel : Nm "pick")
theorem Ex.words_eq (e : Ex) : ∃ ws, e.words = e.word :: ws := by cases e <;> exact ⟨_, rfl⟩
theorem ex_split {v : Nat} (e : Ex) (hn : ∀ y ∈ e.names, Nm y) (ok : e.ok v) (hv : v ≤ 12) :
    (∃ ks ws : List PySem.Str, kinds e = ks ++ [("name" : PySem.Str)] ∧ e.words = e.word :: ws ∧ e.vs = e.words.map V.str ∧ (∀ y ∈ e.words, Nm y) ∧ ws.length = ks.length + 1 ∧ ws.length ≤ 3) ∨
    ∃ (ks : List PySem.Str) (kd : PySem.Str) (n lo hi : Nat) (ws : List PySem.Str), kinds e = ks ++ [kd] ∧ kd ≠ "name" ∧ e.words = e.word :: (ws ++ [dec n]) ∧ e.vs = (e.word :: ws).map V.str ++ [.int (n : Int)] ∧ (∀ y ∈ e.word :: ws, Nm y) ∧ ws.length = ks.length ∧ ws.length ≤ 1 ∧ n < 4096 ∧ BK (some v) kd lo hi ∧ lo ≤ n ∧ n ≤ hi := by
  have nw := nm_word e
  have all : ∀ ws : List PySem.Str, (∀ y ∈ ws, y ∈ e.names) → ∀ y ∈ e.word :: ws, Nm y := fun ws h y hy => by
    rcases List.mem_cons.mp hy with rfl | hy
    · exact nw
    · exact hn y (h y hy)
  cases e with
  | num n =>
    have t : 2 ^ v ≤ 4096 := Nat.pow_le_pow_right (n := 2) (i := v) (j := 12) (by decide) hv
    have o : n < 2 ^ v := ok
    exact .inr ⟨[], "word", n, _, _, [], rfl, by decide, rfl, rfl, all [] (by simp), rfl, by simp, by omega, .word, Nat.zero_le _, by omega⟩
  | copy y => exact .inl ⟨[], [y], rfl, rfl, rfl, all [y] (fun _ h => h), rfl, by simp⟩
  | two o y z => exact .inl ⟨["name"], [y, z], rfl, rfl, rfl, all [y, z] (fun _ h => h), rfl, by simp⟩
  | pick c y z => exact .inl ⟨["name", "name"], [c, y, z], rfl, rfl, rfl, all [c, y, z] (fun _ h => h), rfl, by simp⟩
  | up y k =>
    have o : k ≤ 11 := ok
    exact .inr ⟨["name"], "shift", k, _, _, [y], rfl, by decide, rfl, rfl, all [y] (fun _ h => h), rfl, by simp, by omega, .shift, Nat.zero_le _, by omega⟩
  | down y k =>
    have o : k ≤ 11 := ok
    exact .inr ⟨["name"], "shift", k, _, _, [y], rfl, by decide, rfl, rfl, all [y] (fun _ h => h), rfl, by simp, by omega, .shift, Nat.zero_le _, by omega⟩
theorem cut1 {a : V} {l : List V} : cutV (a :: l) (some 1) none = l := by
  unfold cutV
  rw [show (1 : Int) = ((1 : Nat) : Int) from rfl, HT.sIx_nat, HT.sIx_none, List.length_cons, Nat.min_eq_left (by omega)]
  exact List.take_of_length_le (by simp)
theorem cut2 {a b : V} {l : List V} : cutV (a :: b :: l) (some 2) none = l := by
  unfold cutV
  rw [show (2 : Int) = ((2 : Nat) : Int) from rfl, HT.sIx_nat, HT.sIx_none, List.length_cons, List.length_cons, Nat.min_eq_left (by omega)]
  exact List.take_of_length_le (by simp)
theorem cutE {l : List V} {z : V} : cutV (l ++ [z]) none (some (-1)) = l := by
  unfold cutV
  rw [HT.sIx_none]
  simp only [HT.sIx, List.length_append, List.length_singleton, List.drop_zero]
  rw [if_pos (by decide), show ((-1 : Int) + ((l.length + 1 : Nat) : Int)).toNat - 0 = l.length by omega]
  exact List.take_left
theorem cut2E {a b z : V} {l : List V} : cutV (a :: b :: (l ++ [z])) (some 2) (some (-1)) = l := by
  unfold cutV
  rw [show (2 : Int) = ((2 : Nat) : Int) from rfl, HT.sIx_nat, List.length_cons, List.length_cons, Nat.min_eq_left (by omega)]
  simp only [HT.sIx, List.length_append, List.length_singleton]
  rw [if_pos (by decide), show ((-1 : Int) + ((l.length + 1 + 1 + 1 : Nat) : Int)).toNat - 2 = l.length by omega]
  exact List.take_left
def spSet (C : Addr) : Sp := fun vs H Q _ => ∃ (a : Ad) (ls : List (List PySem.Str)) (v k m b : Nat) (W : Addr) (x : PySem.Str) (e : Ex), vs = [.ref a.p, .ref W] ∧ H W = some (.lst ((("set" : PySem.Str) :: x :: e.words).map V.str)) ∧ Nm x ∧ (∀ y ∈ e.names, Nm y) ∧ e.ok v ∧ v ≤ 12 ∧ Rd C a ls (some v) k m b H ∧ b ≤ 5000 ∧
  ∀ (p q : Addr) H', Kept (At3 a) H H' → Rd C a ls (some v) k m (b + 10) H' → H' p = some (.tup [.str "set", .str x, .ref q]) → H' q = some (.tup e.vs) → Q (.ref p) H'
section
variable {P : Program} {w : World} {K : PySem.W.Frag} {mg : PySem.Str → Option Value} {base : Heap} {f fA fN fT C D CW : Addr} {fd fdA fdN fdT : FuncData}
theorem ok_inputs (F : FnM K "read_inputs" "Text.read_inputs" sReadInputs f fd) (T : TxC K mg C) (mT : Meth K C "take_line_of" fT) (GT : FnOk P w K mg base CX0 1 fT fdT ["self", "word"] (spTake C)) (bT : Binds K fdT ["self", "word"] []) (mA : Meth K C "are_names" fA) (GA : FnOk P w K mg base CX0 3 fA fdA ["self", "words"] (spAre C)) (bA : Binds K fdA ["self", "words"] []) (m_len : mg "len" = none) (m_tuple : mg "tuple" = none) {t4 : Tok} (g4 : mg "MOST_INPUTS" = some (.int 4 t4)) : FnOk P w K mg base CX0 4 f fd ["self"] (spIn C) := by
  refine F.ok (k := 3) scReadInputs (fun vs H Q E h => ?_) (fun cdv A outer s H vs Q E hr h => ?_)
  · obtain ⟨a, ls, v, k, m, b, xs, rfl, _⟩ := h
    rfl
  · obtain ⟨a, ls, v, k, m, b, xs, rfl, r, hl, few, nm, hb, q⟩ := h
    refine ⟨_, PSs.nox (pss_cons (ps_set (i := 1) scReadInputs.nd rfl (Or.inl rfl) (pe_meth (pv 0) T.cl mT (GT.mono (by decide)) hr bT .nil pass0 (pa_cons pe_str pa_nil)))
    (pss_cons (ps_if (PW.pt (pw_or (pt_cmpR op_gt (pe_callB call_len_seq (by rfl) m_len PySem.boot_len (pa_cons (pv 1) pa_nil)) (pe_op op_add (pe_glob (v := .int 4) (by rfl) g4 ⟨_, rfl⟩) pe_int) (nomark _)) (pw_or1 (pt_not (pt_val (pe_meth (pv 0) T.cl mA GA hr bA .nil pass0 (pa_cons (pv 1) pa_nil)))))))
      (pss_one ps_never)
      pss_nil)
    (pss_one (ps_ret (pe_tupleOf (by rfl) m_tuple (pe_slice sl_list (pv 1) (po_some pe_int) po_none)))))), ?_⟩
    refine ⟨.ref a.p, rfl, a.p, a.dx, _, rfl, r.o, rfl, a, ls, v, k, m, b, "in", xs, rfl, r, hl, fun W H1 k1 r1 eW => ?_⟩
    have hWp : W ≠ a.p := fun z => by rw [z, r1.o] at eW; cases eW
    have hWN : W ≠ a.N := fun z => by
      obtain ⟨_, n1, _⟩ := r1.n
      rw [z, n1] at eW; cases eW
    refine ⟨.ref W, rfl, W, _, rfl, .inl (SqL.of eW), 4, 1, rfl, rfl, _, _, rfl, rfl, _, rfl, ?_⟩
    rw [show decide _ = false from decide_eq_false (by rw [List.length_map, List.length_cons]; omega)]
    refine iteF ⟨.ref a.p, rfl, a.p, a.dx, _, rfl, r1.o, rfl, .ref W, rfl, a, ls, v, k + 1, m, b, W, "in" :: xs, rfl, eW, ?_, (by rw [List.length_cons]; omega), r1, hb, fun H2 k2 r2 => ⟨_, rfl, iteF ?_⟩⟩
    · intro y hy
      rcases List.mem_cons.mp hy with rfl | hy
      · exact nm_in
      · exact nm y hy
    have eW2 := k2.lst eW fun z => z.elim hWp hWN
    refine ⟨.ref W, rfl, 1, rfl, W, _, rfl, SqL.of eW2, fun p hp => .inl ⟨p, _, rfl, SqL.of upd_same, fun u hu2 => ?_⟩⟩
    rw [List.map_cons, cut1] at *
    have k3a : Kept None H2 (upd H2 p (.lst (xs.map V.str))) := Kept.refl.new hp
    have k3 : Kept None H2 (upd (upd H2 p (.lst (xs.map V.str))) u (.tup (xs.map V.str))) := k3a.new (k3a.free hu2)
    exact q u _ ((k1.trans k2).trans (k3.weak fun _ z => z.elim)) ((r2.stay k3).more (by rw [List.length_cons]; omega)) upd_same
theorem ok_set (F : FnM K "read_set" "Text.read_set" sReadSet f fd) (T : TxC K mg C) (B : Tab K w mg D CW) (mN : Meth K C "number_of" fN) (GN : FnOk P w K mg base CX0 4 fN fdN ["self", "word", "kind"] (spNumOf C)) (bN : Binds K fdN ["self", "word", "kind"] []) (mA : Meth K C "are_names" fA) (GA : FnOk P w K mg base CX0 3 fA fdA ["self", "words"] (spAre C)) (bA : Binds K fdA ["self", "words"] []) (m_len : mg "len" = none) (m_tuple : mg "tuple" = none) : FnOk P w K mg base CX0 5 f fd ["self", "words"] (spSet C) := by
  refine F.ok (k := 4) scReadSet (fun vs H Q E h => ?_) (fun cdv A outer s H vs Q E hr h => ?_)
  · obtain ⟨a, ls, v, k, m, b, W, x, e, rfl, _⟩ := h
    rfl
  · obtain ⟨a, ls, v, k, m, b, W, x, e, rfl, eW, nx, nms, ok, hv, r, hb, q⟩ := h
    have hu := hu_of hr
    refine ⟨_, PSs.nox (pss_cons (ps_set (i := 2) scReadSet.nd rfl (Or.inl rfl) (pe_ifExp (pt_cmpR op_gt (pe_callB call_len_seq (by rfl) m_len PySem.boot_len (pa_cons (pv 1) pa_nil)) pe_int (nomark _)) (pe_kget2 (pe_glob (v := .ref D) (by rfl) B.mD rfl) (pe_ix ix_list (pv 1) pe_int (fun _ _ => rfl)) (pe_tup pa_nil) ⟨rfl, rfl, rfl, rfl⟩) (pe_tup pa_nil)))
    (pss_cons (ps_if (PW.pt (pw_and (pt_truth (pv 2) (fun _ => rfl)) (pw_and1 (pt_cmpR op_eq (pe_callB call_len_seq (by rfl) m_len PySem.boot_len (pa_cons (pv 1) pa_nil)) (pe_op op_add (pe_callB call_len_seq (by rfl) m_len PySem.boot_len (pa_cons (pv 2) pa_nil)) pe_int) (nomark _)))))
      (pss_one (ps_if (pt_cmpR op_eq (pe_ix ix_tup (pv 2) (pe_un un_neg pe_int) (fun _ _ => rfl)) pe_str (nomark _))
        (pss_one (ps_if (pt_val (pe_meth (pv 0) T.cl mA (GA.mono (by decide)) hr bA .nil pass0 (pa_cons (pv 1) pa_nil)))
          (pss_one (ps_ret (pe_tup (pa_cons pe_str (pa_cons (pe_ix ix_list (pv 1) pe_int (fun _ _ => rfl)) (pa_cons (pe_tupleOf (by rfl) m_tuple (pe_slice sl_list (pv 1) (po_some pe_int) po_none)) pa_nil))))))
          pss_nil))
        (pss_cons (ps_set (i := 3) scReadSet.nd rfl (Or.inl rfl) (pe_meth (pv 0) T.cl mN GN hr bN .nil pass0 (pa_cons (pe_ix ix_list (pv 1) (pe_un un_neg pe_int) (fun _ _ => rfl)) (pa_cons (pe_ix ix_tup (pv 2) (pe_un un_neg pe_int) (fun _ _ => rfl)) pa_nil))))
        (pss_one (ps_if (PW.pt (pw_and (pt_cmpR op_notN (pv 3) pe_non (nomark _)) (pw_and1 (pt_val (pe_meth (pv 0) T.cl mA (GA.mono (by decide)) hr bA .nil pass0 (pa_cons (pe_slice sl_list (pv 1) po_none (po_some (pe_un un_neg pe_int))) pa_nil))))))
          (pss_one (ps_ret (pe_tup (pa_cons pe_str (pa_cons (pe_ix ix_list (pv 1) pe_int (fun _ _ => rfl)) (pa_cons (pe_tupleOf (by rfl) m_tuple (pe_op op_cat (pe_slice sl_list (pv 1) (po_some pe_int) (po_some (pe_un un_neg pe_int))) (pe_lst (pa_cons (pv 3) pa_nil)))) pa_nil))))))
          pss_nil)))))
      pss_nil)
    (pss_one ps_never))), ?_⟩
    have szl := sizeLine_eq
    have hWp : W ≠ a.p := fun z => by rw [z, r.o] at eW; cases eW
    have hWN : W ≠ a.N := fun z => by
      obtain ⟨_, n1, _⟩ := r.n
      rw [z, n1] at eW; cases eW
    have hW3 : ¬ At3 a W := fun z => z.elim hWp hWN
    obtain ⟨w2, hw2⟩ := Ex.words_eq e
    obtain ⟨T2, t1, t2⟩ := B.k e
    refine ⟨.ref W, rfl, W, _, rfl, .inl (SqL.of eW), _, 2, rfl, rfl, _, rfl, ?_⟩
    rw [show decide _ = true from decide_eq_true (by rw [hw2]; simp only [List.length_map, List.length_cons]; omega)]
    refine iteT ⟨D, rfl, B.d, .ref W, rfl, W, _, 2, .str e.word, rfl, rfl, SqL.of eW, (by rw [hw2]; exact atI_nat (j := 2) rfl), e.word, rfl, Nat.zero_le _, fun p0 hp0 => ?_⟩
    have k0 : Kept None H (upd H p0 (.tup [])) := Kept.refl.new hp0
    have r0 := r.stay k0
    replace eW := k0.lst eW (fun z => z)
    generalize upd H p0 (.tup []) = H0 at k0 r0 eW ⊢
    refine ⟨.ref T2, .ref T2, t1, rfl, ?_⟩
    have lW : ((("set" : PySem.Str) :: x :: e.words).map V.str).length = ((kinds e).map V.str).length + 3 := by
      cases e <;> rfl
    refine ⟨.ref T2, rfl, true, .inr (.inl ⟨_, t2 _, by cases e <;> rfl⟩), iteT ⟨.ref W, rfl, W, _, rfl, .inl (SqL.of eW), .ref T2, rfl, T2, _, rfl, .inr (t2 _), _, 3, rfl, rfl, rfl, _, rfl, ?_⟩⟩
    rw [show decide _ = true from decide_eq_true (by rw [lW]; rfl)]
    refine iteT ?_
    rcases ex_split e nms ok hv with ⟨ks, ws, e1, e2, e3, e4, e5, e6⟩ | ⟨ks, kd, n, lo, hi, ws, e1, e2, e3, e4, e5, e6, e7, e8, e9, e10, e11⟩
    · refine ⟨.ref T2, rfl, 1, rfl, T2, _, -1, .str "name", rfl, rfl, t2 _, ?_, ?_⟩
      · rw [e1, List.map_append]; exact atI_last _ _
      refine ⟨rfl, _, rfl, ite2 (fun _ => ?_) (fun z => absurd (decide_eq_true rfl) z)⟩
      have l2 : e.words.length ≤ 4 := by rw [e2, List.length_cons]; omega
      refine ⟨.ref a.p, rfl, a.p, a.dx, _, rfl, r0.o, rfl, .ref W, rfl, a, ls, some v, k, m, b, W, ("set" : PySem.Str) :: x :: e.words, rfl, eW, ?_, (by simp only [List.length_cons]; omega), r0, hb, fun H1 k1 r1 => ⟨_, rfl, iteT ?_⟩⟩
      · intro y hy
        rcases List.mem_cons.mp hy with rfl | hy
        · exact nm_set
        rcases List.mem_cons.mp hy with rfl | hy
        · exact nx
        · exact e4 y hy
      have eW1 := k1.lst eW hW3
      refine ⟨.ref W, rfl, W, _, 1, .str x, rfl, rfl, SqL.of eW1, atI_nat (j := 1) rfl, .ref W, rfl, 2, rfl, W, _, rfl, SqL.of eW1, fun l hl => .inl ⟨l, _, rfl, SqL.of upd_same, fun u hu2 => ⟨(show 3 ≤ sizeLine by decide), fun p hp => ?_⟩⟩⟩
      rw [List.map_cons, List.map_cons, cut2, ← e3] at *
      have ka : Kept None H1 (upd H1 l (.lst e.vs)) := Kept.refl.new hl
      have kb := ka.new (ka.free hu2) (o := .tup e.vs)
      have kc := kb.new (kb.free hp) (o := .tup [.str "set", .str x, .ref u])
      refine q p u _ ((k0.weak fun _ z => z.elim).trans (k1.trans (kc.weak fun _ z => z.elim))) ((r1.stay kc).more (by simp only [List.length_cons]; omega)) upd_same ?_
      rw [upd_ne (ne_of_none upd_same hp)]
      exact upd_same
    · refine ⟨.ref T2, rfl, 1, rfl, T2, _, -1, .str kd, rfl, rfl, t2 _, ?_, ?_⟩
      · rw [e1, List.map_append]; exact atI_last _ _
      refine ⟨rfl, _, rfl, ite2 (fun z => absurd (V.str.inj (of_decide_eq_true z)) e2) (fun _ => ?_)⟩
      have sW : ((("set" : PySem.Str) :: x :: e.words).map V.str) = .str "set" :: .str x :: ((e.word :: ws).map V.str ++ [.str (dec n)]) := by rw [e3]; simp
      rw [sW] at eW lW
      refine ⟨.ref a.p, rfl, a.p, a.dx, _, rfl, r0.o, rfl, .ref W, rfl, 1, rfl, W, _, -1, .str (dec n), rfl, rfl, SqL.of eW, ?_, .ref T2, rfl, 1, rfl, T2, _, -1, .str kd, rfl, rfl, t2 _, ?_, a, ls, some v, k, m, b, n, lo, hi, kd, rfl, e8, r0, e9, e10, e11, fun H1 k1 => ?_⟩
      · exact atI_last (.str "set" :: .str x :: (e.word :: ws).map V.str) _
      · rw [e1, List.map_append]; exact atI_last _ _
      have r1 := r0.stay k1
      have eW1 := k1.lst eW (fun z => z)
      refine ⟨.int (n : Int), rfl, rfl, _, rfl, iteT ?_⟩
      refine ⟨.ref a.p, rfl, a.p, a.dx, _, rfl, r1.o, rfl, .ref W, rfl, 1, rfl, -1, rfl, W, _, rfl, SqL.of eW1, fun l hl => ?_⟩
      have cE : cutV (.str "set" :: .str x :: ((e.word :: ws).map V.str ++ [.str (dec n)])) none (some (-1)) = (("set" : PySem.Str) :: x :: e.word :: ws).map V.str := cutE (l := .str "set" :: .str x :: (e.word :: ws).map V.str)
      rw [cE]
      have ka : Kept None H1 (upd H1 l (.lst ((("set" : PySem.Str) :: x :: e.word :: ws).map V.str))) := Kept.refl.new hl
      have ra := r1.stay ka
      have eL : upd H1 l (.lst ((("set" : PySem.Str) :: x :: e.word :: ws).map V.str)) l = some (.lst ((("set" : PySem.Str) :: x :: e.word :: ws).map V.str)) := upd_same
      have eW2 := ka.lst eW1 (fun z => z)
      have ka0 := ka
      generalize upd H1 l (.lst ((("set" : PySem.Str) :: x :: e.word :: ws).map V.str)) = H2 at ka ra eL eW2 ⊢
      refine ⟨a, ls, some v, k, m, b, l, ("set" : PySem.Str) :: x :: e.word :: ws, rfl, eL, ?_, (by simp only [List.length_cons]; omega), ra, hb, fun H3 k3 r3 => ⟨_, rfl, iteT ?_⟩⟩
      · intro y hy
        rcases List.mem_cons.mp hy with rfl | hy
        · exact nm_set
        rcases List.mem_cons.mp hy with rfl | hy
        · exact nx
        · exact e5 y hy
      have eW3 := k3.lst eW2 hW3
      refine ⟨.ref W, rfl, W, _, 1, .str x, rfl, rfl, SqL.of eW3, atI_nat (j := 1) rfl, .ref W, rfl, 2, rfl, 1, rfl, -1, rfl, W, _, rfl, SqL.of eW3, fun l1 hl1 => ?_⟩
      rw [show cutV (.str "set" :: .str x :: ((e.word :: ws).map V.str ++ [.str (dec n)])) (some 2) (some (-1)) = (e.word :: ws).map V.str from cut2E]
      have kb : Kept None H3 (upd H3 l1 (.lst ((e.word :: ws).map V.str))) := Kept.refl.new hl1
      refine ⟨.int (n : Int), rfl, (show 1 ≤ sizeLine by decide), fun l2 hl2 => ?_⟩
      have e1a : upd (upd H3 l1 (.lst ((e.word :: ws).map V.str))) l2 (.lst [.int (n : Int)]) l1 = some (.lst ((e.word :: ws).map V.str)) := by rw [upd_ne (ne_of_none upd_same hl2)]; exact upd_same
      have kc := kb.new (kb.free hl2) (o := .lst [.int (n : Int)])
      refine ⟨l1, l2, _, _, rfl, rfl, e1a, upd_same, (by simp only [List.length_map, List.length_cons, List.length_nil]; omega), fun l3 hl3 => .inl ⟨l3, _, rfl, SqL.of upd_same, fun u hu2 => ⟨(show 3 ≤ sizeLine by decide), fun p hp => ?_⟩⟩⟩
      have kd1 := kc.new (kc.free hl3) (o := .lst ((e.word :: ws).map V.str ++ [.int (n : Int)]))
      have ke := kd1.new (kd1.free hu2) (o := .tup ((e.word :: ws).map V.str ++ [.int (n : Int)]))
      have kf := ke.new (ke.free hp) (o := .tup [.str "set", .str x, .ref u])
      refine q p u _ ((k0.weak fun _ z => z.elim).trans ((k1.weak fun _ z => z.elim).trans ((ka.weak fun _ z => z.elim).trans (k3.trans (kf.weak fun _ z => z.elim))))) ((r3.stay kf).more (by simp only [List.length_cons]; omega)) upd_same ?_
      rw [upd_ne (ne_of_none upd_same hp), e4]
      exact upd_same
end
end K7

set_option Elab.async false
set_option linter.all false
set_option maxRecDepth 100000
set_option maxHeartbeats 4000000
namespace K7
open PySem PySem.Spec PyProof.Rows L2
abbrev sReadRows : Stmt := inClass (top 20) 3
theorem scReadRows : FnScope ["self", "deep", "rounds", "found", "lines", "most", "words", "word"] ["self", "deep", "rounds"] (defScope sReadRows) := ⟨rfl, rfl, rfl, by decide +kernel, rfl, by decide +kernel, by decide +kernel⟩
abbrev sReadIf : Stmt := inClass (top 20) 5
theorem scReadIf : FnScope ["self", "words", "deep", "rounds", "name", "first", "second"] ["self", "words", "deep", "rounds"] (defScope sReadIf) := ⟨rfl, rfl, rfl, by decide +kernel, rfl, by decide +kernel, by decide +kernel⟩
abbrev sReadRound : Stmt := inClass (top 20) 6
theorem scReadRound : FnScope ["self", "words", "deep", "rounds", "goings", "rows"] ["self", "words", "deep", "rounds"] (defScope sReadRound) := ⟨rfl, rfl, rfl, by decide +kernel, rfl, by decide +kernel, by decide +kernel⟩
/-! ### rows, at any depth -/
def Stop (r : List (List PySem.Str)) : Prop := r = [] ∨ ∃ r', r = [("else" : PySem.Str)] :: r' ∨ r = [("end" : PySem.Str)] :: r'
theorem nm_if : Nm "if" := by unfold Nm; decide +kernel
theorem nm_tell : Nm "tell" := by unfold Nm; decide +kernel
theorem at_drop {ls : List (List PySem.Str)} {k : Nat} {l : List PySem.Str} {r : List (List PySem.Str)} (h : ls.drop k = l :: r) : ls[k]? = some l := by
  have := congrArg (fun z => z[0]?) h
  simp only [List.getElem?_drop, Nat.add_zero, List.getElem?_cons_zero] at this
  exact this
theorem drop_one {ls : List (List PySem.Str)} {k : Nat} {l : List PySem.Str} {r : List (List PySem.Str)} (h : ls.drop k = l :: r) : ls.drop (k + 1) = r := by
  rw [← List.drop_drop, h]; rfl
theorem drop_more {ls : List (List PySem.Str)} {k : Nat} {l r : List (List PySem.Str)} (h : ls.drop k = l ++ r) : ls.drop (k + l.length) = r := by
  rw [← List.drop_drop, h]; exact List.drop_left
theorem Rd.ntup {C : Addr} {a : Ad} {ls : List (List PySem.Str)} {v : Option Nat} {k m b : Nat} {H : Hp} (r : Rd C a ls v k m b H) (p : Addr) (ys : List V) (h : H p = some (.tup ys)) : ¬ At3 a p := by
  rintro (z | z)
  · rw [z, r.o] at h; cases h
  · obtain ⟨_, n1, _⟩ := r.n
    rw [z, n1] at h; cases h
theorem Rd.nlst {C : Addr} {a : Ad} {ls : List (List PySem.Str)} {v : Option Nat} {k m b : Nat} {H : Hp} (r : Rd C a ls v k m b H) (p : Addr) (ys : List V) (h : H p = some (.lst ys)) : ¬ At3 a p := by
  rintro (z | z)
  · rw [z, r.o] at h; cases h
  · obtain ⟨_, n1, _⟩ := r.n
    rw [z, n1] at h; cases h
def spReadRows (C : Addr) (n : Nat) : Sp := fun vs H Q _ => ∃ (a : Ad) (ls : List (List PySem.Str)) (v k m d r : Nat) (t : Tr) (rest : List (List PySem.Str)), vs = [.ref a.p, .int (d : Int), .int (r : Int)] ∧ d + n = 8 ∧ 1 ≤ n ∧ Rd C a ls (some v) k m (10 * m + 10) H ∧ v ≤ 12 ∧ ls.drop k = t.lines ++ rest ∧ Stop rest ∧ m + t.all ≤ 60 ∧ t.fine v d r ∧
  ∀ (p : Addr) (xs : List V) H', Kept (At3 a) H H' → Rd C a ls (some v) (k + t.lines.length) (m + t.all) (10 * (m + t.all) + 10) H' → H' p = some (.tup xs) → Its H' xs t → Q (.ref p) H'
def spReadIf (C : Addr) (n : Nat) : Sp := fun vs H Q _ => ∃ (a : Ad) (ls : List (List PySem.Str)) (v k m d r : Nat) (W : Addr) (x : PySem.Str) (ta tb : Tr) (rest : List (List PySem.Str)), vs = [.ref a.p, .ref W, .int (d : Int), .int (r : Int)] ∧ d + n = 7 ∧ 1 ≤ n ∧ H W = some (.lst [.str "if", .str x]) ∧ Nm x ∧ Rd C a ls (some v) k (m + 1) (10 * m + 10) H ∧ v ≤ 12 ∧ ls.drop k = ta.lines ++ [("else" : PySem.Str)] :: (tb.lines ++ [("end" : PySem.Str)] :: rest) ∧ m + 1 + ta.all + tb.all ≤ 60 ∧ ta.fine v (d + 1) r ∧ tb.fine v (d + 1) r ∧
  ∀ (p q1 q2 : Addr) (xs ys : List V) H', Kept (At3 a) H H' → Rd C a ls (some v) (k + ta.lines.length + 1 + tb.lines.length + 1) (m + 1 + ta.all + tb.all) (10 * (m + 1 + ta.all + tb.all) + 10) H' → H' p = some (.tup [.str "if", .str x, .ref q1, .ref q2]) → H' q1 = some (.tup xs) → H' q2 = some (.tup ys) → Its H' xs ta → Its H' ys tb → Q (.ref p) H'
def spReadRound (C : Addr) (n : Nat) : Sp := fun vs H Q _ => ∃ (a : Ad) (ls : List (List PySem.Str)) (v k m d r c : Nat) (W : Addr) (ta : Tr) (rest : List (List PySem.Str)), vs = [.ref a.p, .ref W, .int (d : Int), .int (r : Int)] ∧ d + n = 7 ∧ 1 ≤ n ∧ H W = some (.lst [.str "round", .str (dec c)]) ∧ c ≤ 12 ∧ Rd C a ls (some v) k (m + 1) (10 * m + 10) H ∧ v ≤ 12 ∧ ls.drop k = ta.lines ++ [("end" : PySem.Str)] :: rest ∧ m + 1 + ta.all ≤ 60 ∧ ta.fine v (d + 1) (r + 1) ∧
  ∀ (p q1 : Addr) (xs : List V) H', Kept (At3 a) H H' → Rd C a ls (some v) (k + ta.lines.length + 1) (m + 1 + ta.all) (10 * (m + 1 + ta.all) + 10) H' → H' p = some (.tup [.str "round", .int (c : Int), .ref q1]) → H' q1 = some (.tup xs) → Its H' xs ta → Q (.ref p) H'
section
variable {P : Program} {w : World} {K : PySem.W.Frag} {mg : PySem.Str → Option Value} {base : Heap} {f fS fB fG fR fI fD fL C D CW : Addr} {fd fdS fdB fdG fdR fdI fdD fdL : FuncData} {n : Nat}
theorem ok_if (F : FnM K "read_if" "Text.read_if" sReadIf f fd) (T : TxC K mg C) (mB : Meth K C "name_behind" fB) (GB : FnOk P w K mg base CX0 4 fB fdB ["self", "words"] (spNameB C)) (bB : Binds K fdB ["self", "words"] []) (mL : Meth K C "take_closing" fL) (GL : FnOk P w K mg base CX0 2 fL fdL ["self", "word"] (spClose C)) (bL : Binds K fdL ["self", "word"] []) (mR : Meth K C "read_rows" fR) (GR : FnOk P w K mg base CX0 (6 + 2 * n) fR fdR ["self", "deep", "rounds"] (spReadRows C n)) (bR : Binds K fdR ["self", "deep", "rounds"] []) : FnOk P w K mg base CX0 (6 + 2 * n + 1) f fd ["self", "words", "deep", "rounds"] (spReadIf C n) := by
  refine F.ok (k := 6 + 2 * n) scReadIf (fun vs H Q E h => ?_) (fun cdv A outer s H vs Q E hr h => ?_)
  · obtain ⟨a, ls, v, k, m, d, r, W, x, ta, tb, rest, rfl, _⟩ := h
    rfl
  · obtain ⟨a, ls, v, k, m, d, r, W, x, ta, tb, rest, rfl, hd, n1, eW, nx, r0, hv, hl, few, fa, fb, q⟩ := h
    refine ⟨_, PSs.nox (pss_cons (ps_set (i := 4) scReadIf.nd rfl (Or.inl rfl) (pe_meth (pv 0) T.cl mB (GB.mono (by omega)) hr bB .nil pass0 (pa_cons (pv 1) pa_nil)))
    (pss_cons (ps_set (i := 5) scReadIf.nd rfl (Or.inl rfl) (pe_meth (pv 0) T.cl mR GR hr bR .nil pass0 (pa_cons (pe_op op_add (pv 2) pe_int) (pa_cons (pv 3) pa_nil))))
    (pss_cons (ps_expr (pe_meth (pv 0) T.cl mL (GL.mono (by omega)) hr bL .nil pass0 (pa_cons pe_str pa_nil)))
    (pss_cons (ps_set (i := 6) scReadIf.nd rfl (Or.inl rfl) (pe_meth (pv 0) T.cl mR GR hr bR .nil pass0 (pa_cons (pe_op op_add (pv 2) pe_int) (pa_cons (pv 3) pa_nil))))
    (pss_cons (ps_expr (pe_meth (pv 0) T.cl mL (GL.mono (by omega)) hr bL .nil pass0 (pa_cons pe_str pa_nil)))
    (pss_one (ps_ret (pe_tup (pa_cons pe_str (pa_cons (pv 4) (pa_cons (pv 5) (pa_cons (pv 6) pa_nil)))))))))))), ?_⟩
    refine ⟨.ref a.p, rfl, a.p, a.dx, _, rfl, r0.o, rfl, .ref W, rfl, a, ls, some v, k, m + 1, 10 * m + 10, W, "if", x, rfl, eW, nm_if, nx, r0, by omega, fun H1 k1 r1 => ?_⟩
    have r1 := r1.more (b' := 10 * (m + 1) + 10) (by omega)
    refine ⟨.ref a.p, rfl, a.p, a.dx, _, rfl, r1.o, rfl, .int (d : Int), rfl, (d : Int), 1, rfl, rfl, .int (r : Int), rfl, a, ls, v, k, m + 1, d + 1, r, ta, _, rfl, by omega, n1, r1, hv, hl, .inr ⟨_, .inl rfl⟩, by omega, fa, fun q1 xs H2 k2 r2 e1 i1 => ?_⟩
    have h2 := drop_more hl
    refine ⟨.ref a.p, rfl, a.p, a.dx, _, rfl, r2.o, rfl, a, ls, some v, k + ta.lines.length, _, _, "else", rfl, r2, at_drop h2, fun H3 k3 r3 => ?_⟩
    have h3 := drop_one h2
    refine ⟨.ref a.p, rfl, a.p, a.dx, _, rfl, r3.o, rfl, .int (d : Int), rfl, (d : Int), 1, rfl, rfl, .int (r : Int), rfl, a, ls, v, _, _, d + 1, r, tb, _, rfl, by omega, n1, r3, hv, h3, .inr ⟨_, .inr rfl⟩, by omega, fb, fun q2 ys H4 k4 r4 e2 i2 => ?_⟩
    have h4 := drop_more h3
    refine ⟨.ref a.p, rfl, a.p, a.dx, _, rfl, r4.o, rfl, a, ls, some v, _, _, _, "end", rfl, r4, at_drop h4, fun H5 k5 r5 => ?_⟩
    refine ⟨.str x, rfl, .ref q1, rfl, .ref q2, rfl, (show 4 ≤ sizeLine by decide), fun p hp => ?_⟩
    have k25 := (k3.trans k4).trans k5
    have k6 : Kept None H5 (upd H5 p (.tup [.str "if", .str x, .ref q1, .ref q2])) := Kept.refl.new hp
    have nt := r2.ntup
    have nt4 := r4.ntup
    have nn : ∀ {Hx : Hp} (p : Addr) (ys : List V), Hx p = some (.tup ys) → ¬ None p := fun p ys _ z => z
    exact q p q1 q2 xs ys _ ((k1.trans k2).trans (k25.trans (k6.weak fun _ z => z.elim))) (r5.stay k6) upd_same (k6.tup (k25.tup e1 (nt _ _ e1)) fun z => z) (k6.tup (k5.tup e2 (nt4 _ _ e2)) fun z => z) ((i1.stay k25 nt).stay k6 nn) ((i2.stay k5 nt4).stay k6 nn)
theorem ok_round (F : FnM K "read_round" "Text.read_round" sReadRound f fd) (T : TxC K mg C) (mB : Meth K C "number_behind" fB) (GB : FnOk P w K mg base CX0 5 fB fdB ["self", "words", "kind"] (spNumB C)) (bB : Binds K fdB ["self", "words", "kind"] []) (mL : Meth K C "take_closing" fL) (GL : FnOk P w K mg base CX0 2 fL fdL ["self", "word"] (spClose C)) (bL : Binds K fdL ["self", "word"] []) (mR : Meth K C "read_rows" fR) (GR : FnOk P w K mg base CX0 (6 + 2 * n) fR fdR ["self", "deep", "rounds"] (spReadRows C n)) (bR : Binds K fdR ["self", "deep", "rounds"] []) : FnOk P w K mg base CX0 (6 + 2 * n + 1) f fd ["self", "words", "deep", "rounds"] (spReadRound C n) := by
  refine F.ok (k := 6 + 2 * n) scReadRound (fun vs H Q E h => ?_) (fun cdv A outer s H vs Q E hr h => ?_)
  · obtain ⟨a, ls, v, k, m, d, r, c, W, ta, rest, rfl, _⟩ := h
    rfl
  · obtain ⟨a, ls, v, k, m, d, r, c, W, ta, rest, rfl, hd, n1, eW, hc, r0, hv, hl, few, fa, q⟩ := h
    refine ⟨_, PSs.nox (pss_cons (ps_set (i := 4) scReadRound.nd rfl (Or.inl rfl) (pe_meth (pv 0) T.cl mB (GB.mono (by omega)) hr bB .nil pass0 (pa_cons (pv 1) (pa_cons pe_str pa_nil))))
    (pss_cons (ps_set (i := 5) scReadRound.nd rfl (Or.inl rfl) (pe_meth (pv 0) T.cl mR GR hr bR .nil pass0 (pa_cons (pe_op op_add (pv 2) pe_int) (pa_cons (pe_op op_add (pv 3) pe_int) pa_nil))))
    (pss_cons (ps_expr (pe_meth (pv 0) T.cl mL (GL.mono (by omega)) hr bL .nil pass0 (pa_cons pe_str pa_nil)))
    (pss_one (ps_ret (pe_tup (pa_cons pe_str (pa_cons (pv 4) (pa_cons (pv 5) pa_nil))))))))), ?_⟩
    refine ⟨.ref a.p, rfl, a.p, a.dx, _, rfl, r0.o, rfl, .ref W, rfl, a, ls, some v, k, m + 1, 10 * m + 10, c, 0, 12, W, "round", "goings", rfl, eW, by omega, r0, .goings, Nat.zero_le _, hc, fun H1 k1 => ?_⟩
    have r1 := (r0.stay k1).more (b' := 10 * (m + 1) + 10) (by omega)
    refine ⟨.ref a.p, rfl, a.p, a.dx, _, rfl, r1.o, rfl, .int (d : Int), rfl, (d : Int), 1, rfl, rfl, .int (r : Int), rfl, (r : Int), 1, rfl, rfl, a, ls, v, k, m + 1, d + 1, r + 1, ta, _, rfl, by omega, n1, r1, hv, hl, .inr ⟨_, .inr rfl⟩, by omega, fa, fun q1 xs H2 k2 r2 e1 i1 => ?_⟩
    have h2 := drop_more hl
    refine ⟨.ref a.p, rfl, a.p, a.dx, _, rfl, r2.o, rfl, a, ls, some v, k + ta.lines.length, _, _, "end", rfl, r2, at_drop h2, fun H3 k3 r3 => ?_⟩
    refine ⟨.int (c : Int), rfl, .ref q1, rfl, (show 3 ≤ sizeLine by decide), fun p hp => ?_⟩
    have k6 : Kept None H3 (upd H3 p (.tup [.str "round", .int (c : Int), .ref q1])) := Kept.refl.new hp
    have nt := r2.ntup
    have nn : ∀ {Hx : Hp} (p : Addr) (ys : List V), Hx p = some (.tup ys) → ¬ None p := fun p ys _ z => z
    exact q p q1 xs _ ((k1.weak fun _ z => z.elim).trans (k2.trans (k3.trans (k6.weak fun _ z => z.elim)))) (r3.stay k6) upd_same (k6.tup (k3.tup e1 (nt _ _ e1)) fun z => z) ((i1.stay k3 nt).stay k6 nn)
end
end K7

set_option Elab.async false
set_option linter.all false
set_option maxRecDepth 100000
set_option maxHeartbeats 4000000
namespace K7
open PySem PySem.Spec PyProof.Rows L2
abbrev At4 (a : Ad) (F : Addr) : Addr → Prop := fun b => At3 a b ∨ b = F
theorem Kept.drop4 {H H3 H' : Hp} {a : Ad} {L : Addr} (k : Kept (At3 a) H H3) (n : H L = none) (b : Kept (At4 a L) H3 H') : Kept (At3 a) H H' := fun x o e hx => by
  refine ko_trans (k x o e hx) fun u q => b x u q ?_
  rintro (z | z)
  · exact hx z
  · exact ne_of_none e n z
def takenOf (H : Hp) (p : Addr) : Nat := match H p with
  | some (.ins _ _ fs) => (match fs.lookup ("taken" : PySem.Str) with
    | some (.int k) => k.toNat
    | _ => 0)
  | _ => 0
theorem takenOf_rd {C : Addr} {a : Ad} {ls : List (List PySem.Str)} {v : Option Nat} {k m b : Nat} {H : Hp} (r : Rd C a ls v k m b H) : takenOf H a.p = k := by
  unfold takenOf
  rw [r.o]
  rfl
/-- the value of .. if deep <= .. else .. -/
def tMost : TE := fun σ H Q => ∃ d : Nat, σ[1]? = some (some (.int (d : Int))) ∧ ∀ M : Int, (d ≤ 6 → M = 60) → Q (.int M) H
theorem pe_as {X : Cx} {e : Expr} {t t' : TE} (h : PE X e t) (i : ∀ σ H Q, t' σ H Q → t σ H Q) : PE X e t' := ⟨fun pins s σ H Q I z => h.run pins s σ H Q I (i σ H Q z)⟩
theorem Tr.app_nil : ∀ t : Tr, t.app .nil = t
  | .nil => rfl
  | .set _ _ t => by rw [Tr.app, app_nil t]
  | .tell _ t => by rw [Tr.app, app_nil t]
  | .ite _ _ _ t => by rw [Tr.app, app_nil t]
  | .rnd _ _ t => by rw [Tr.app, app_nil t]
theorem Tr.first {v d r : Nat} : ∀ w : Tr, w.fine v d r → w = .nil ∨ ∃ (x0 : PySem.Str) (rr : List PySem.Str) (r' : List (List PySem.Str)), w.lines = (x0 :: rr) :: r' ∧ inV (.str x0) [.str "else", .str "end"] = false ∧ d ≤ 6 ∧ 1 ≤ w.all
  | .nil, _ => .inl rfl
  | .set x e t, f => .inr ⟨_, _, _, rfl, by rfl, f.2.2.2.1, by simp only [Tr.all]; omega⟩
  | .tell x t, f => .inr ⟨_, _, _, rfl, by rfl, f.2.1, by simp only [Tr.all]; omega⟩
  | .ite x a b t, f => .inr ⟨_, _, _, rfl, by rfl, f.2.1, by simp only [Tr.all]; omega⟩
  | .rnd n a t, f => .inr ⟨_, _, _, rfl, by rfl, f.2.2.1, by simp only [Tr.all]; omega⟩
/-- the list that grows lies apart -/
theorem Rd.put {C F : Addr} {a : Ad} {ls : List (List PySem.Str)} {v v0 : Option Nat} {k m b k0 m0 b0 : Nat} {H H' : Hp} {xs ys : List V} (r : Rd C a ls v k m b H') (r0 : Rd C a ls v0 k0 m0 b0 H) (hF : H F = none) (kp : Kept (At4 a F) H H') (eF : H' F = some (.lst xs)) : Rd C a ls v k m b (upd H' F (.lst ys)) := by
  obtain ⟨o, ⟨ts, l1, l2, l3⟩, ⟨kvs, n1, n2, n3⟩, ⟨bvs, b1, b2⟩, nb⟩ := r
  obtain ⟨ts0, m1, m2, m3⟩ := r0.l
  have ne : ∀ {q : Addr} {u : HO}, H' q = some u → (∀ xs, u ≠ .lst xs) → q ≠ F := fun {q u} e h z => by
    rw [z, eF] at e
    exact h _ (Option.some.inj e).symm
  have neL : ∀ {q : Addr} {u : HO}, H q = some u → q ≠ F := fun e z => by
    rw [z, hF] at e; cases e
  have a4 : ∀ {q : Addr} {zs : List V}, H q = some (.lst zs) → ¬ At4 a F q := fun {q zs} e z => by
    rcases z with z | z
    · exact r0.nlst _ _ e z
    · exact neL e z
  have e2 := kp.lst m1 (a4 m1)
  rw [l1] at e2
  have e3 : ts = ts0 := by
    have e4 := HO.lst.inj (Option.some.inj e2)
    exact List.map_inj_right (fun x y h => V.ref.inj h) |>.mp e4
  subst e3
  refine ⟨by rw [upd_ne (ne o (fun _ z => by cases z))]; exact o, ⟨ts, by rw [upd_ne (neL m1)]; exact l1, l2, fun i t l h1 h2 => by rw [upd_ne (neL (m3 i t l h1 h2))]; exact l3 i t l h1 h2⟩, ⟨kvs, by rw [upd_ne (ne n1 (fun _ z => by cases z))]; exact n1, n2, n3⟩, ⟨bvs, by rw [upd_ne (ne b1 (fun _ z => by cases z))]; exact b1, fun kind lo hi h => ?_⟩, nb⟩
  obtain ⟨t, t1, t2⟩ := b2 kind lo hi h
  exact ⟨t, t1, by rw [upd_ne (ne t2 (fun _ z => by cases z))]; exact t2⟩
section
variable {P : Program} {w : World} {K : PySem.W.Frag} {mg : PySem.Str → Option Value} {base : Heap} {f fS fB fG fR fI fD fL C D CW : Addr} {fd fdS fdB fdG fdR fdI fdD fdL : FuncData} {n : Nat}
theorem ok_rows0 (F : FnM K "read_rows" "Text.read_rows" sReadRows f fd) : FnOk P w K mg base CX0 6 f fd ["self", "deep", "rounds"] (spReadRows C 0) := by
  refine F.ok (k := 5) scReadRows (fun vs H Q E h => ?_) (fun cdv A outer s H vs Q E hr h => ?_)
  · obtain ⟨a, ls, v, k, m, d, r, t, rest, rfl, _⟩ := h
    rfl
  · obtain ⟨a, ls, v, k, m, d, r, t, rest, rfl, hd, n1, _⟩ := h
    omega
theorem ok_rows1 (F : FnM K "read_rows" "Text.read_rows" sReadRows f fd) (T : TxC K mg C) (B : Tab K w mg D CW)
    (mS : Meth K C "read_set" fS) (GS : FnOk P w K mg base CX0 5 fS fdS ["self", "words"] (spSet C)) (bS : Binds K fdS ["self", "words"] [])
    (mB : Meth K C "name_behind" fB) (GB : FnOk P w K mg base CX0 4 fB fdB ["self", "words"] (spNameB C)) (bB : Binds K fdB ["self", "words"] [])
    (mI : Meth K C "read_if" fI) (GI : FnOk P w K mg base CX0 (6 + 2 * n + 1) fI fdI ["self", "words", "deep", "rounds"] (spReadIf C n)) (bI : Binds K fdI ["self", "words", "deep", "rounds"] [])
    (mD : Meth K C "read_round" fD) (GD : FnOk P w K mg base CX0 (6 + 2 * n + 1) fD fdD ["self", "words", "deep", "rounds"] (spReadRound C n)) (bD : Binds K fdD ["self", "words", "deep", "rounds"] [])
    (m_len : mg "len" = none) (m_tuple : mg "tuple" = none) {t1 t2 t3 : Tok} (g1 : mg "MOST_WITHIN" = some (.int 6 t1)) (g2 : mg "MOST_ROWS" = some (.int 60 t2)) (g3 : mg "MOST_ROUNDS_WITHIN" = some (.int 3 t3)) :
    FnOk P w K mg base CX0 (6 + 2 * n + 2) f fd ["self", "deep", "rounds"] (spReadRows C (n + 1)) := by
  refine F.ok (k := 6 + 2 * n + 1) scReadRows (fun vs H Q E h => ?_) (fun cdv A outer s H vs Q E hr h => ?_)
  · obtain ⟨a, ls, v, k, m, d, r, t, rest, rfl, _⟩ := h
    rfl
  · obtain ⟨a, ls, v, k, m, d, r, t, rest, rfl, hd, _, r0, hv, hl, hst, few, ft, q⟩ := h
    refine ⟨_, PSs.nox (pss_cons (ps_set (i := 3) scReadRows.nd rfl (Or.inl rfl) (pe_lst pa_nil))
    (pss_cons (ps_set (i := 4) scReadRows.nd rfl (Or.inl rfl) (pe_fld (pv 0) rfl))
    (pss_cons (ps_set (i := 5) scReadRows.nd rfl (Or.inl rfl) (pe_as (t' := tMost) (pe_ifExp (pt_cmpR op_le (pv 1) (pe_glob (v := .int 6) (by rfl) g1 ⟨_, rfl⟩) (nomark _)) (pe_glob (v := .int 60) (by rfl) g2 ⟨_, rfl⟩) pe_int) (fun σ H Q h => by
        obtain ⟨d, hd, q⟩ := h
        exact ⟨.int (d : Int), hd, (d : Int), 6, rfl, rfl, _, rfl, ite2 (fun z => q 60 fun _ => rfl) (fun z => q 0 fun h => absurd (show decide ((d : Int) ≤ 6) = true from decide_eq_true (by omega)) z)⟩)))
    (pss_cons (ps_while PassesOwn.never (pt_cmpR op_lt (pe_fld (pv 0) rfl) (pe_callB call_len_seq (by rfl) m_len PySem.boot_len (pa_cons (pv 4) pa_nil)) (nomark _))
      (pss_cons (ps_set (i := 6) scReadRows.nd rfl (Or.inl rfl) (pe_ix ix_list (pv 4) (pe_fld (pv 0) rfl) (fun _ _ => rfl)))
      (pss_cons (ps_set (i := 7) scReadRows.nd rfl (Or.inl rfl) (pe_ix ix_list (pv 6) pe_int (fun _ _ => rfl)))
      (pss_cons (ps_if (pt_cmpR op_in_seq (pv 7) (pe_glob (v := .ref CW) (by rfl) B.mC rfl) (by rfl))
        (pss_one ps_break)
        pss_nil)
      (pss_cons (ps_fldaug (pv 0) pe_int in_add)
      (pss_cons (ps_fldaug (pv 0) pe_int in_add)
      (pss_cons (ps_if (pt_cmpR op_gt (pe_fld (pv 0) rfl) (pv 5) (nomark _))
        (pss_one ps_never)
        pss_nil)
      (pss_one (ps_if (pt_cmpR op_eq (pv 7) pe_str (nomark _))
        (pss_one (ps_expr (pe_bm PySem.F.plainAttrs_list PySem.F.slot_list_append PySem.F.type_list_append mt_append (pv 3) (pa_cons (pe_meth (pv 0) T.cl mS (GS.mono (by omega)) hr bS .nil pass0 (pa_cons (pv 6) pa_nil)) pa_nil))))
        (pss_one (ps_if (pt_cmpR op_eq (pv 7) pe_str (nomark _))
          (pss_one (ps_expr (pe_bm PySem.F.plainAttrs_list PySem.F.slot_list_append PySem.F.type_list_append mt_append (pv 3) (pa_cons (pe_tup (pa_cons pe_str (pa_cons (pe_meth (pv 0) T.cl mB (GB.mono (by omega)) hr bB .nil pass0 (pa_cons (pv 6) pa_nil)) pa_nil))) pa_nil))))
          (pss_one (ps_if (pt_cmpR op_eq (pv 7) pe_str (nomark _))
            (pss_one (ps_expr (pe_bm PySem.F.plainAttrs_list PySem.F.slot_list_append PySem.F.type_list_append mt_append (pv 3) (pa_cons (pe_meth (pv 0) T.cl mI GI hr bI .nil pass0 (pa_cons (pv 6) (pa_cons (pv 1) (pa_cons (pv 2) pa_nil)))) pa_nil))))
            (pss_one (ps_if (PW.pt (pw_and (pt_cmpR op_eq (pv 7) pe_str (nomark _)) (pw_and1 (pt_cmpR op_lt (pv 2) (pe_glob (v := .int 3) (by rfl) g3 ⟨_, rfl⟩) (nomark _)))))
              (pss_one (ps_expr (pe_bm PySem.F.plainAttrs_list PySem.F.slot_list_append PySem.F.type_list_append mt_append (pv 3) (pa_cons (pe_meth (pv 0) T.cl mD GD hr bD .nil pass0 (pa_cons (pv 6) (pa_cons (pv 1) (pa_cons (pv 2) pa_nil)))) pa_nil))))
              (pss_one ps_never))))))))))))))))
    (pss_one (ps_ret (pe_tupleOf (by rfl) m_tuple (pv 3)))))))), ?_⟩
    refine ⟨(show 0 ≤ sizeLine by decide), fun F0 hF => ?_⟩
    have k0 : Kept None H (upd H F0 (.lst [])) := Kept.refl.new hF
    have r1 := r0.stay k0
    have eF : upd H F0 (.lst []) F0 = some (.lst []) := upd_same
    generalize upd H F0 (.lst []) = H0 at k0 r1 eF ⊢
    refine ⟨.ref a.p, rfl, a.p, C, a.dx, _, _, rfl, r1.o, T.cl, T.nL, f_L, d, rfl, fun M hM => ?_⟩
    have szl := sizeLine_eq
    refine while_by (fun σ H' => ∃ (u w : Tr) (xs : List V) (x6 x7 : Option V), σ = [some (.ref a.p), some (.int (d : Int)), some (.int (r : Int)), some (.ref F0), some (.ref a.L), some (.int M), x6, x7] ∧ t = u.app w ∧ Kept (At4 a F0) H0 H' ∧ Rd C a ls (some v) (k + u.lines.length) (m + u.all) (10 * (m + u.all) + 10) H' ∧ H' F0 = some (.lst xs) ∧ Its H' xs u ∧ w.fine v d r)
      (fun σ H' => ls.length - takenOf H' a.p) ⟨.nil, t, [], none, none, rfl, rfl, Kept.refl, r1, eF, .nil, ft⟩ (fun σ H' h => ?_) (fun σ H' Q Q' hQ h => ?_)
    · obtain ⟨u, w, xs, x6, x7, rfl, htu, kA, rA, eA, iA, fw⟩ := h
      have kH : Kept (At4 a F0) H H' := (k0.weak fun _ z => z.elim).trans kA
      obtain ⟨ts, l1, l2, l3⟩ := rA.l
      have hlw : ls.drop (k + u.lines.length) = w.lines ++ rest := by
        refine drop_more (l := u.lines) ?_
        rw [hl, htu, Tr.app_lines, List.append_assoc]
      have hall : u.all + w.all = t.all := by rw [htu, Tr.app_all]
      have hul := u.len_all
      have hxl := iA.len
      generalize hk' : k + u.lines.length = k' at rA hlw
      generalize hm' : m + u.all = m' at rA
      refine ⟨.ref a.p, rfl, a.p, C, a.dx, _, _, rfl, rA.o, T.cl, T.nT, f_T, .ref a.L, rfl, a.L, _, rfl, .inl (SqL.of l1), _, _, rfl, rfl, _, rfl, ?_⟩
      have hlen : (decide ((k' : Int) < ((ts.map V.ref).length : Int))) = decide (k' < ls.length) := by
        rw [List.length_map, l2]
        by_cases z : k' < ls.length
        · rw [decide_eq_true z, decide_eq_true (by omega)]
        · rw [decide_eq_false z, decide_eq_false (by omega)]
      rw [hlen]
      rcases Tr.first w fw with rfl | ⟨x0, rr, r', w1, w2, w3, w4⟩
      · -- the end
        have etu : t = u := by rw [htu, Tr.app_nil]
        subst etu
        have fin : ∀ p, H' p = none → Q (.ref p) (upd H' p (.tup xs)) := fun p hp => by
          have kp : Kept None H' (upd H' p (.tup xs)) := Kept.refl.new hp
          refine q p xs _ ?_ ?_ upd_same (iA.stay kp fun _ _ _ z => z)
          · refine Kept.drop4 (Kept.refl) hF (kH.trans (kp.weak fun _ z => z.elim))
          · rw [hk', hm']; exact rA.stay kp
        rcases hst with rfl | ⟨r', hr'⟩
        · have : k' ≥ ls.length := by
            have := congrArg List.length hlw
            simp only [List.length_drop, Tr.lines, List.append_nil, List.length_nil] at this
            omega
          rw [decide_eq_false (by omega)]
          exact iteF ⟨.ref F0, rfl, .inl ⟨F0, xs, rfl, SqL.of eA, fin⟩⟩
        · obtain ⟨x0, hx0, hr2⟩ : ∃ x0 : PySem.Str, inV (.str x0) [.str "else", .str "end"] = true ∧ rest = [x0] :: r' := by
            rcases hr' with h | h
            · exact ⟨_, by rfl, h⟩
            · exact ⟨_, by rfl, h⟩
          rw [hr2] at hlw
          have hat := at_drop (l := [x0]) hlw
          have hlt : k' < ls.length := (List.getElem?_eq_some_iff.mp hat).1
          rw [decide_eq_true hlt]
          have ht := List.getElem?_eq_getElem (l := ts) (i := k') (by omega)
          have eW := l3 k' _ _ ht hat
          refine iteT ⟨.ref a.L, rfl, .ref a.p, rfl, a.p, C, a.dx, _, _, rfl, rA.o, T.cl, T.nT, f_T, a.L, _, (k' : Int), .ref ts[k'], rfl, rfl, SqL.of l1, atI_nat (j := k') (by rw [List.getElem?_map, ht]; rfl), ?_⟩
          refine ⟨.ref ts[k'], rfl, ts[k'], _, 0, .str x0, rfl, rfl, SqL.of eW, atI_nat (j := 0) rfl, ?_⟩
          refine ⟨.str x0, rfl, CW, _, rfl, .inr (B.c _), rfl, rfl, _, rfl, ?_⟩
          rw [if_neg Bool.false_ne_true, hx0]
          exact iteT ⟨.ref F0, rfl, .inl ⟨F0, xs, rfl, SqL.of eA, fin⟩⟩
      · obtain rfl := hM w3
        rw [w1] at hlw
        have hat := at_drop (l := x0 :: rr) hlw
        have hlt : k' < ls.length := (List.getElem?_eq_some_iff.mp hat).1
        rw [decide_eq_true hlt]
        have ht := List.getElem?_eq_getElem (l := ts) (i := k') (by omega)
        have eW := l3 k' _ _ ht hat
        refine iteT ⟨.ref a.L, rfl, .ref a.p, rfl, a.p, C, a.dx, _, _, rfl, rA.o, T.cl, T.nT, f_T, a.L, _, (k' : Int), .ref ts[k'], rfl, rfl, SqL.of l1, atI_nat (j := k') (by rw [List.getElem?_map, ht]; rfl), ?_⟩
        generalize ts[k'] = W at ht eW ⊢
        refine ⟨.ref W, rfl, W, _, 0, .str x0, rfl, rfl, SqL.of eW, atI_nat (j := 0) rfl, ?_⟩
        refine ⟨.str x0, rfl, CW, _, rfl, .inr (B.c _), rfl, rfl, _, rfl, ?_⟩
        rw [if_neg Bool.false_ne_true, w2]
        refine iteF ⟨.ref a.p, rfl, a.p, C, a.dx, _, _, rfl, rA.o, T.cl, T.nT, f_T, (k' : Int), 1, rfl, rfl, a.dx, _, rA.o, (by show 6 < 1000; decide), ?_⟩
        have rB := rA.set (k' := k' + 1) (m' := m')
        have kB : Kept (At3 a) H' (upd H' a.p (.ins C a.dx (fsT a.A a.L (k' + 1) m' a.N a.B))) := Kept.refl.upd (.inl rfl)
        have e1 : putF "taken" (.int ((k' : Int) + 1)) (fsT a.A a.L k' m' a.N a.B) = fsT a.A a.L (k' + 1) m' a.N a.B := p_T (k' := k' + 1)
        rw [e1]
        generalize upd H' a.p (.ins C a.dx (fsT a.A a.L (k' + 1) m' a.N a.B)) = HB at rB kB ⊢
        refine ⟨.ref a.p, rfl, a.p, C, a.dx, _, _, rfl, rB.o, T.cl, T.nM, f_M, (m' : Int), 1, rfl, rfl, a.dx, _, rB.o, (by show 6 < 1000; decide), ?_⟩
        have rC := rB.set (k' := k' + 1) (m' := m' + 1)
        have kC : Kept (At3 a) H' (upd HB a.p (.ins C a.dx (fsT a.A a.L (k' + 1) (m' + 1) a.N a.B))) := kB.upd (.inl rfl)
        have e2 : putF "many_rows" (.int ((m' : Int) + 1)) (fsT a.A a.L (k' + 1) m' a.N a.B) = fsT a.A a.L (k' + 1) (m' + 1) a.N a.B := p_M (m' := m' + 1)
        rw [e2]
        generalize upd HB a.p (.ins C a.dx (fsT a.A a.L (k' + 1) (m' + 1) a.N a.B)) = H2 at rC kC ⊢
        refine ⟨.ref a.p, rfl, a.p, C, a.dx, _, _, rfl, rC.o, T.cl, T.nM, f_M, .int 60, rfl, ((m' + 1 : Nat) : Int), 60, rfl, rfl, _, rfl, ?_⟩
        rw [show decide (((m' + 1 : Nat) : Int) > 60) = false from decide_eq_false (by omega)]
        have eF2 : H2 F0 = some (.lst xs) := kC.lst eA (rA.nlst _ _ eA)
        have eW2 : H2 W = some (.lst ((x0 :: rr).map V.str)) := kC.lst eW (rA.nlst _ _ eW)
        have iB := iA.stay kC rA.ntup
        have kH2 : Kept (At4 a F0) H0 H2 := kA.trans (kC.weak fun _ z => .inl z)
        have hd2 := drop_one hlw
        have add : ∀ (one t' : Tr) (p : Addr) (H7 : Hp), w = one.app t' → t'.fine v d r → 1 ≤ one.lines.length → Kept (At3 a) H2 H7 → Rd C a ls (some v) (k' + one.lines.length) (m' + one.all) (10 * (m' + one.all) + 10) H7 → Its H7 [.ref p] one →
            H7 F0 = some (.lst xs) ∧ xs.length < sizeLine ∧ (∃ (u w : Tr) (xs' : List V) (x6 x7 : Option V), ([some (.ref a.p), some (.int (d : Int)), some (.int (r : Int)), some (.ref F0), some (.ref a.L), some (.int 60), some (.ref W), some (.str x0)] : L2.St) = [some (.ref a.p), some (.int (d : Int)), some (.int (r : Int)), some (.ref F0), some (.ref a.L), some (.int 60), x6, x7] ∧ t = u.app w ∧ Kept (At4 a F0) H0 (upd H7 F0 (.lst (xs ++ [.ref p]))) ∧ Rd C a ls (some v) (k + u.lines.length) (m + u.all) (10 * (m + u.all) + 10) (upd H7 F0 (.lst (xs ++ [.ref p]))) ∧ upd H7 F0 (.lst (xs ++ [.ref p])) F0 = some (.lst xs') ∧ Its (upd H7 F0 (.lst (xs ++ [.ref p]))) xs' u ∧ w.fine v d r) ∧ ls.length - takenOf (upd H7 F0 (.lst (xs ++ [.ref p]))) a.p < ls.length - takenOf H' a.p := by
          intro one t' p H7 ew ft' h1 k7 r7 i7
          have eF7 : H7 F0 = some (.lst xs) := k7.lst eF2 (rC.nlst _ _ eF2)
          have k07 : Kept (At4 a F0) H0 H7 := kH2.trans (k7.weak fun _ z => .inl z)
          have r8 := r7.put (ys := xs ++ [.ref p]) r0 hF ((k0.weak fun _ z => z.elim).trans k07) eF7
          have ku : Kept (fun b => b = F0) H7 (upd H7 F0 (.lst (xs ++ [.ref p]))) := Kept.refl.upd rfl
          have nt : ∀ q ys, H7 q = some (.tup ys) → ¬ q = F0 := fun q ys e z => by
            rw [z, eF7] at e; cases e
          refine ⟨eF7, by omega, ⟨u.app one, t', xs ++ [.ref p], _, _, rfl, by rw [htu, ew, Tr.app_assoc], k07.upd (.inr rfl), ?_, upd_same, ((iB.stay k7 rC.ntup).stay ku nt).app (i7.stay ku nt), ft'⟩, ?_⟩
          · rw [Tr.app_lines, List.length_append, Tr.app_all, ← Nat.add_assoc, ← Nat.add_assoc, hk', hm']; exact r8
          · rw [takenOf_rd r8, takenOf_rd rA]; omega
        refine iteF ?_
        have no : ∀ {y z : PySem.Str}, y ≠ z → ¬ decide (V.str y = V.str z) = true := fun h e => h (V.str.inj (of_decide_eq_true e))
        cases w with
        | nil => cases w1
        | set x e t' =>
          simp only [Tr.lines, List.cons.injEq] at w1
          obtain ⟨⟨rfl, rfl⟩, rfl⟩ := w1
          refine ⟨.str "set", rfl, rfl, _, rfl, ite2 (fun _ => ?_) (fun z => absurd (decide_eq_true rfl) z)⟩
          refine ⟨.ref F0, rfl, .inl ⟨rfl, _, SqL.of eF2⟩, .ref a.p, rfl, a.p, a.dx, _, rfl, rC.o, rfl, .ref W, rfl, a, ls, v, k' + 1, m' + 1, 10 * m' + 10, W, x, e, rfl, eW2, fw.1, fw.2.1, fw.2.2.1, hv, rC, by omega, fun p qq H7 k7 r7 ep eq => ?_⟩
          exact ⟨F0, _, _, rfl, rfl, add (.set x e .nil) t' p H7 rfl fw.2.2.2.2 (by simp [Tr.lines]) k7 (r7.more (by simp only [Tr.all]; omega)) (.set ep eq .nil)⟩
        | tell x t' =>
          simp only [Tr.lines, List.cons.injEq] at w1
          obtain ⟨⟨rfl, rfl⟩, rfl⟩ := w1
          refine ⟨.str "tell", rfl, rfl, _, rfl, ite2 (fun z => absurd z (no (by decide))) (fun _ => ?_)⟩
          refine ⟨.str "tell", rfl, rfl, _, rfl, ite2 (fun _ => ?_) (fun z => absurd (decide_eq_true rfl) z)⟩
          refine ⟨.ref F0, rfl, .inl ⟨rfl, _, SqL.of eF2⟩, .ref a.p, rfl, a.p, a.dx, _, rfl, rC.o, rfl, .ref W, rfl, a, ls, some v, k' + 1, m' + 1, 10 * m' + 10, W, "tell", x, rfl, eW2, nm_tell, fw.1, rC, by omega, fun H7 k7 r7 => ⟨(show 2 ≤ sizeLine by decide), fun p hp => ?_⟩⟩
          have kp : Kept None H7 (upd H7 p (.tup [.str "tell", .str x])) := Kept.refl.new hp
          exact ⟨F0, _, _, rfl, rfl, add (.tell x .nil) t' p _ rfl fw.2.2 (by simp [Tr.lines]) (k7.trans (kp.weak fun _ z => z.elim)) ((r7.stay kp).more (by simp only [Tr.all]; omega)) (.tell upd_same .nil)⟩
        | ite x ta tb t' =>
          simp only [Tr.lines, List.cons.injEq] at w1
          obtain ⟨⟨rfl, rfl⟩, rfl⟩ := w1
          have hw : u.all + (1 + ta.all + tb.all + t'.all) = t.all := hall
          refine ⟨.str "if", rfl, rfl, _, rfl, ite2 (fun z => absurd z (no (by decide))) (fun _ => ?_)⟩
          refine ⟨.str "if", rfl, rfl, _, rfl, ite2 (fun z => absurd z (no (by decide))) (fun _ => ?_)⟩
          refine ⟨.str "if", rfl, rfl, _, rfl, ite2 (fun _ => ?_) (fun z => absurd (decide_eq_true rfl) z)⟩
          refine ⟨.ref F0, rfl, .inl ⟨rfl, _, SqL.of eF2⟩, .ref a.p, rfl, a.p, a.dx, _, rfl, rC.o, rfl, .ref W, rfl, .int (d : Int), rfl, .int (r : Int), rfl, a, ls, v, k' + 1, m', d, r, W, x, ta, tb, t'.lines ++ rest, rfl, by omega, by omega, eW2, fw.1, rC, hv, by rw [hd2]; simp, by omega, fw.2.2.1, fw.2.2.2.1, fun p q1 q2 xs1 xs2 H7 k7 r7 ep e1 e2 i1 i2 => ?_⟩
          refine ⟨F0, _, _, rfl, rfl, add (.ite x ta tb .nil) t' p H7 rfl fw.2.2.2.2 (by simp [Tr.lines]) k7 ?_ (.ite ep e1 e2 i1 i2 .nil)⟩
          rw [show k' + (Tr.ite x ta tb .nil).lines.length = k' + 1 + ta.lines.length + 1 + tb.lines.length + 1 by simp only [Tr.lines, List.length_cons, List.length_append, List.length_nil]; omega, show m' + (Tr.ite x ta tb .nil).all = m' + 1 + ta.all + tb.all by simp only [Tr.all]; omega]
          exact r7
        | rnd c ta t' =>
          simp only [Tr.lines, List.cons.injEq] at w1
          obtain ⟨⟨rfl, rfl⟩, rfl⟩ := w1
          have hw : u.all + (1 + ta.all + t'.all) = t.all := hall
          refine ⟨.str "round", rfl, rfl, _, rfl, ite2 (fun z => absurd z (no (by decide))) (fun _ => ?_)⟩
          refine ⟨.str "round", rfl, rfl, _, rfl, ite2 (fun z => absurd z (no (by decide))) (fun _ => ?_)⟩
          refine ⟨.str "round", rfl, rfl, _, rfl, ite2 (fun z => absurd z (no (by decide))) (fun _ => ?_)⟩
          have hr3 : r < 3 := fw.2.1
          refine ⟨.str "round", rfl, rfl, _, rfl, ite2 (fun _ => ?_) (fun z => absurd (decide_eq_true rfl) z)⟩
          refine ⟨.int (r : Int), rfl, (r : Int), 3, rfl, rfl, _, rfl, ite2 (fun _ => ?_) (fun z => absurd (decide_eq_true (by omega)) z)⟩
          refine ⟨.ref F0, rfl, .inl ⟨rfl, _, SqL.of eF2⟩, .ref a.p, rfl, a.p, a.dx, _, rfl, rC.o, rfl, .ref W, rfl, .int (d : Int), rfl, .int (r : Int), rfl, a, ls, v, k' + 1, m', d, r, c, W, ta, t'.lines ++ rest, rfl, by omega, by omega, eW2, fw.1, rC, hv, by rw [hd2]; simp, by omega, fw.2.2.2.1, fun p q1 xs1 H7 k7 r7 ep e1 i1 => ?_⟩
          refine ⟨F0, _, _, rfl, rfl, add (.rnd c ta .nil) t' p H7 rfl fw.2.2.2.2 (by simp [Tr.lines]) k7 ?_ (.rnd ep e1 i1 .nil)⟩
          rw [show k' + (Tr.rnd c ta .nil).lines.length = k' + 1 + ta.lines.length + 1 by simp only [Tr.lines, List.length_cons, List.length_append, List.length_nil]; omega, show m' + (Tr.rnd c ta .nil).all = m' + 1 + ta.all by simp only [Tr.all]; omega]
          exact r7
    · obtain ⟨x0, h0, p, C0, dx, fs, y, h1, h2, h3, h4, h5, x1, h6, p2, ys, h7, h8, i, j, h9, h10, b, h11, h12⟩ := h
      exact ⟨x0, h0, p, C0, dx, fs, y, h1, h2, h3, h4, h5, x1, h6, p2, ys, h7, h8, i, j, h9, h10, b, h11, hQ _ _ h12⟩
end
end K7

set_option Elab.async false
set_option linter.all false
set_option maxRecDepth 100000
set_option maxHeartbeats 4000000
namespace K7
open PySem PySem.Spec PyProof.Rows L2
abbrev sInitText : Stmt := inClass (top 20) 0
theorem scInitText : FnScope ["self", "all_lines", "words"] ["self", "all_lines"] (defScope sInitText) := ⟨rfl, rfl, rfl, by decide +kernel, rfl, by decide +kernel, by decide +kernel⟩
/-- the methods of a class's reading, each at its level -/
theorem ok_rows_all {P : Program} {w : World} {K : PySem.W.Frag} {mg : PySem.Str → Option Value} {base : Heap} {fR fS fB fG fI fD fL C D CW : Addr} {fdR fdS fdB fdG fdI fdD fdL : FuncData}
    (FR : FnM K "read_rows" "Text.read_rows" sReadRows fR fdR) (FI : FnM K "read_if" "Text.read_if" sReadIf fI fdI) (FD : FnM K "read_round" "Text.read_round" sReadRound fD fdD) (T : TxC K mg C) (B : Tab K w mg D CW)
    (mS : Meth K C "read_set" fS) (GS : FnOk P w K mg base CX0 5 fS fdS ["self", "words"] (spSet C)) (bS : Binds K fdS ["self", "words"] [])
    (mB : Meth K C "name_behind" fB) (GB : FnOk P w K mg base CX0 4 fB fdB ["self", "words"] (spNameB C)) (bB : Binds K fdB ["self", "words"] [])
    (mG : Meth K C "number_behind" fG) (GG : FnOk P w K mg base CX0 5 fG fdG ["self", "words", "kind"] (spNumB C)) (bG : Binds K fdG ["self", "words", "kind"] [])
    (mL : Meth K C "take_closing" fL) (GL : FnOk P w K mg base CX0 2 fL fdL ["self", "word"] (spClose C)) (bL : Binds K fdL ["self", "word"] [])
    (mI : Meth K C "read_if" fI) (bI : Binds K fdI ["self", "words", "deep", "rounds"] []) (mD : Meth K C "read_round" fD) (bD : Binds K fdD ["self", "words", "deep", "rounds"] []) (mR : Meth K C "read_rows" fR) (bR : Binds K fdR ["self", "deep", "rounds"] [])
    (m_len : mg "len" = none) (m_tuple : mg "tuple" = none) {t1 t2 t3 : Tok} (g1 : mg "MOST_WITHIN" = some (.int 6 t1)) (g2 : mg "MOST_ROWS" = some (.int 60 t2)) (g3 : mg "MOST_ROUNDS_WITHIN" = some (.int 3 t3)) :
    ∀ n, FnOk P w K mg base CX0 (6 + 2 * n) fR fdR ["self", "deep", "rounds"] (spReadRows C n)
  | 0 => ok_rows0 FR
  | n + 1 => by
    have GR := ok_rows_all FR FI FD T B mS GS bS mB GB bB mG GG bG mL GL bL mI bI mD bD mR bR m_len m_tuple g1 g2 g3 n
    exact ok_rows1 FR T B mS GS bS mB GB bB mI (ok_if FI T mB GB bB mL GL bL mR GR bR) bI mD (ok_round FD T mG GG bG mL GL bL mR GR bR) bD m_len m_tuple g1 g2 g3
/-! ### the reading's object, made -/
theorem Kept.freeD {D : Addr → Prop} {H H1 : Hp} (a : Kept D H H1) {p : Addr} (h : H1 p = none) (n : ¬ D p) : H p = none := by
  cases e : H p with
  | none => rfl
  | some o =>
    obtain ⟨u, q⟩ := ko_some (a p o e n)
    rw [h] at q
    cases q
def spInit (C : Addr) : Sp := fun vs H Q _ => ∃ (p dx A : Addr) (as : List Addr) (lsA : List (List PySem.Str)), vs = [.ref p, .ref A] ∧ H p = some (.ins C dx []) ∧ H A = some (.lst (as.map V.ref)) ∧ as.length = lsA.length ∧ as.length ≤ 1000000 ∧ (∀ (i : Nat) (t : Addr) (l : List PySem.Str), as[i]? = some t → lsA[i]? = some l → H t = some (.lst (l.map V.str))) ∧
  ∀ (L N B : Addr) H', H N = none → H B = none → Kept (fun b => b = p) H H' → Rd C ⟨p, dx, A, L, N, B⟩ (lsA.filter fun l => !l.isEmpty) none 0 0 0 H' → (∃ bvs : List (Key × V), H' B = some (.dK bvs) ∧ bvs.length ≤ 10) → Q .non H'
section
variable {P : Program} {w : World} {K : PySem.W.Frag} {mg : PySem.Str → Option Value} {base : Heap} {f fS fB fG fR fI fD fL C D CW : Addr} {fd fdS fdB fdG fdR fdI fdD fdL : FuncData} {n : Nat}
theorem ok_init (F : FnM K "__init__" "Text.__init__" sInitText f fd) (T : TxC K mg C) {t1 t2 t3 : Tok} (g1 : mg "WIDEST" = some (.int 12 t1)) (g2 : mg "MOST_GOINGS" = some (.int 12 t2)) (g3 : mg "MOST_SHIFT" = some (.int 11 t3)) : FnOk P w K mg base CX0 1 f fd ["self", "all_lines"] (spInit C) := by
  refine F.ok (k := 0) scInitText (fun vs H Q E h => ?_) (fun cdv A0 outer s H vs Q E hr h => ?_)
  · obtain ⟨p, dx, A, as, lsA, rfl, _⟩ := h
    rfl
  · obtain ⟨p, dx, A, as, lsA, rfl, hp, hA, hl, few, hls, q⟩ := h
    refine ⟨_, PSs.nox (pss_cons (ps_fld (pv 0) (pv 1) rfl)
    (pss_cons (ps_fld (pv 0) (pe_lc (own := [("words", 2)]) (g := gName 2) (tt := tTrV K 2) (te := tVar 2) rfl scInitText.nd (pi_list (pv 1)) (blkOk_by (own := [("words", 2)]) (N := ["self", "all_lines", "words"]) (sc := defScope sInitText) (by decide +kernel)) (by exact (fun _ _ _ _ _ => (pg_name (i := 2) scInitText.nd rfl (Or.inl rfl)))) (by exact (fun _ _ _ _ _ => (pts_one (pt_truth (pv 2) (by intro _; rfl))))) (by exact (fun _ _ _ _ _ => (pv 2)))) rfl)
    (pss_cons (ps_fld (pv 0) pe_int rfl)
    (pss_cons (ps_fld (pv 0) pe_int rfl)
    (pss_cons (ps_fld (pv 0) pe_dnewK rfl)
    (pss_one (ps_fld (pv 0) (pe_disp (pps_cons pe_str (pe_tup (pa_cons pe_int (pa_cons (pe_glob (v := .int 12) (by rfl) g1 ⟨_, rfl⟩) pa_nil))) (pps_cons pe_str (pe_tup (pa_cons pe_int (pa_cons (pe_glob (v := .int 12) (by rfl) g2 ⟨_, rfl⟩) pa_nil))) (pps_cons pe_str (pe_tup (pa_cons pe_int (pa_cons (pe_glob (v := .int 11) (by rfl) g3 ⟨_, rfl⟩) pa_nil))) pps_nil))) (by rfl) (by rfl) (fun z => by cases z) (by decide)) rfl))))))), ?_⟩
    have szl := sizeLine_eq
    refine ⟨.ref A, rfl, .ref p, rfl, p, C, dx, [], rfl, hp, T.cl, T.nA, (by decide), ?_⟩
    have k1 : Kept (fun b => b = p) H (upd H p (.ins C dx (putF "all_lines" (.ref A) []))) := Kept.refl.upd rfl
    have e1 : upd H p (.ins C dx (putF "all_lines" (.ref A) [])) p = some (.ins C dx [("all_lines", .ref A)]) := upd_same
    have np : ∀ {q : Addr} {u : HO}, H q = some u → (∀ C dx fs, u ≠ .ins C dx fs) → ¬ q = p := fun {q u} e h z => by
      rw [z, hp] at e
      exact h _ _ _ (Option.some.inj e).symm
    have hA1 := k1.lst hA (np hA (fun _ _ _ z => by cases z))
    have hls1 : ∀ (i : Nat) (t : Addr) (l : List PySem.Str), as[i]? = some t → lsA[i]? = some l → upd H p (.ins C dx (putF "all_lines" (.ref A) [])) t = some (.lst (l.map V.str)) := fun i t l h1 h2 => k1.lst (hls i t l h1 h2) (np (hls i t l h1 h2) (fun _ _ _ z => by cases z))
    generalize upd H p (.ins C dx (putF "all_lines" (.ref A) [])) = H1 at k1 e1 hA1 hls1 ⊢
    refine ⟨.ref A, rfl, A, rfl, ⟨_, SqL.of hA1⟩, fun L hL => ?_⟩
    refine lc_list (K := K) (a := A) (xs := as.map V.ref) (fun i H' => Kept None H1 H' ∧ ∃ ts : List Addr, H' L = some (.lst (ts.map V.ref)) ∧ ts.length = ((lsA.take i).filter fun l => !l.isEmpty).length ∧ ts.length ≤ i ∧ ∀ (j : Nat) (t : Addr) (l : List PySem.Str), ts[j]? = some t → ((lsA.take i).filter fun l => !l.isEmpty)[j]? = some l → H1 t = some (.lst (l.map V.str)))
      ⟨Kept.refl.new hL, [], upd_same, by simp, Nat.le_refl _, fun j t l z => by cases z⟩ (fun i H' _ h => .inl (.inl (h.1.lst hA1 (fun z => z)))) (fun i x H' hx h => ?_) (fun H' h => ?_)
    · rw [List.getElem?_map] at hx
      obtain ⟨t, ht, rfl⟩ := Option.map_eq_some_iff.mp hx
      obtain ⟨k2, ts, u1, u2, u3, u4⟩ := h
      have hi : i < as.length := (List.getElem?_eq_some_iff.mp ht).1
      have hl2 := List.getElem?_eq_getElem (l := lsA) (i := i) (by omega)
      generalize lsA[i] = l at hl2
      have et := hls1 i t l ht hl2
      refine ⟨rfl, .ref t, rfl, _, .inl ⟨_, SqL.of (k2.lst et (fun z => z)), rfl⟩, ?_⟩
      have tf := take_filter (fun l : List PySem.Str => !l.isEmpty) _ i l hl2
      have em : (l.map V.str).isEmpty = l.isEmpty := by cases l <;> rfl
      rw [em]
      cases hn : (!l.isEmpty) with
      | true =>
        rw [hn, if_pos rfl] at tf
        refine iteT ⟨.ref t, rfl, _, u1, by rw [List.length_map]; omega, fun b o e n => ?_, ts ++ [t], ?_, ?_, ?_, ?_⟩
        · rw [upd_ne (ne_of_none e hL)]
          exact k2 b o e n
        · rw [upd_same, List.map_append]; rfl
        · rw [tf, List.length_append, List.length_append, u2]; rfl
        · rw [List.length_append]; exact Nat.succ_le_succ u3
        · intro j t' l' h1 h2
          rw [tf] at h2
          by_cases hj : j < ts.length
          · rw [List.getElem?_append_left hj] at h1
            rw [List.getElem?_append_left (by omega)] at h2
            exact u4 j t' l' h1 h2
          · have hj1 : j < ts.length + 1 := by
              have := (List.getElem?_eq_some_iff.mp h1).1
              rw [List.length_append] at this
              exact this
            have hj2 : j = ts.length := by omega
            subst hj2
            rw [List.getElem?_append_right (Nat.le_refl _), Nat.sub_self] at h1
            rw [u2, List.getElem?_append_right (Nat.le_refl _), Nat.sub_self] at h2
            cases h1
            cases h2
            exact et
      | false =>
        rw [hn, if_neg Bool.false_ne_true, List.append_nil] at tf
        refine iteF ⟨k2, ts, u1, ?_, by omega, ?_⟩
        · rw [tf]; exact u2
        · rw [tf]; exact u4
    · obtain ⟨k2, ts, u1, u2, u3, u4⟩ := h
      rw [List.length_map, hl, List.take_length] at u2 u4
      have e2 := k2 p _ e1 (fun z => z)
      refine ⟨.ref p, rfl, p, C, dx, _, rfl, e2, T.cl, T.nL, (by show 1 < 1000; decide), ?_⟩
      have np1 : ∀ {q : Addr} {u : HO}, H' q = some u → (∀ C dx fs, u ≠ .ins C dx fs) → ¬ q = p := fun {q u} e h z => by
        rw [z, e2] at e
        exact h _ _ _ (Option.some.inj e).symm
      have lN : ¬ L = p := np1 u1 (fun _ _ _ z => by cases z)
      have tN : ∀ {t : Addr} {xs : List V}, H1 t = some (.lst xs) → ¬ t = p := fun {t xs} e => np1 (k2.lst e fun z => z) (fun _ _ _ z => by cases z)
      have k3 : Kept (fun b => b = p) H' (upd H' p (.ins C dx (putF "lines" (.ref L) [("all_lines", .ref A)]))) := Kept.refl.upd rfl
      have e3 : upd H' p (.ins C dx (putF "lines" (.ref L) [("all_lines", .ref A)])) p = some (.ins C dx [("all_lines", .ref A), ("lines", .ref L)]) := upd_same
      generalize upd H' p (.ins C dx (putF "lines" (.ref L) [("all_lines", .ref A)])) = H3 at k3 e3 ⊢
      refine ⟨.ref p, rfl, p, C, dx, _, rfl, e3, T.cl, T.nT, (by show 2 < 1000; decide), ?_⟩
      have k4 : Kept (fun b => b = p) H' (upd H3 p (.ins C dx (putF "taken" (.int 0) [("all_lines", .ref A), ("lines", .ref L)]))) := k3.upd rfl
      have e4 : upd H3 p (.ins C dx (putF "taken" (.int 0) [("all_lines", .ref A), ("lines", .ref L)])) p = some (.ins C dx [("all_lines", .ref A), ("lines", .ref L), ("taken", .int 0)]) := upd_same
      generalize upd H3 p (.ins C dx (putF "taken" (.int 0) [("all_lines", .ref A), ("lines", .ref L)])) = H4 at k4 e4 ⊢
      refine ⟨.ref p, rfl, p, C, dx, _, rfl, e4, T.cl, T.nM, (by show 3 < 1000; decide), ?_⟩
      have k5 : Kept (fun b => b = p) H' (upd H4 p (.ins C dx (putF "many_rows" (.int 0) [("all_lines", .ref A), ("lines", .ref L), ("taken", .int 0)]))) := k4.upd rfl
      have e5 : upd H4 p (.ins C dx (putF "many_rows" (.int 0) [("all_lines", .ref A), ("lines", .ref L), ("taken", .int 0)])) p = some (.ins C dx [("all_lines", .ref A), ("lines", .ref L), ("taken", .int 0), ("many_rows", .int 0)]) := upd_same
      generalize upd H4 p (.ins C dx (putF "many_rows" (.int 0) [("all_lines", .ref A), ("lines", .ref L), ("taken", .int 0)])) = H5 at k5 e5 ⊢
      refine fun N hN => ⟨.ref p, rfl, p, C, dx, _, rfl, (by rw [upd_ne (ne_of_none e5 hN)]; exact e5), T.cl, T.nN, (by show 4 < 1000; decide), ?_⟩
      have k6a : Kept None H5 (upd H5 N (.dK [])) := Kept.refl.new hN
      have pN : ¬ N = p := fun z => by rw [z, e5] at hN; cases hN
      have hN1 : H N = none := (k1.trans ((k2.weak fun _ z => z.elim).trans k5)).freeD hN pN
      have k6 : Kept (fun b => b = p) H' (upd (upd H5 N (.dK [])) p (.ins C dx (putF "names" (.ref N) [("all_lines", .ref A), ("lines", .ref L), ("taken", .int 0), ("many_rows", .int 0)]))) := (k5.trans (k6a.weak fun _ z => z.elim)).upd rfl
      have e6 : upd (upd H5 N (.dK [])) p (.ins C dx (putF "names" (.ref N) [("all_lines", .ref A), ("lines", .ref L), ("taken", .int 0), ("many_rows", .int 0)])) p = some (.ins C dx [("all_lines", .ref A), ("lines", .ref L), ("taken", .int 0), ("many_rows", .int 0), ("names", .ref N)]) := upd_same
      have n6 : upd (upd H5 N (.dK [])) p (.ins C dx (putF "names" (.ref N) [("all_lines", .ref A), ("lines", .ref L), ("taken", .int 0), ("many_rows", .int 0)])) N = some (.dK []) := by rw [upd_ne pN]; exact upd_same
      generalize upd (upd H5 N (.dK [])) p (.ins C dx (putF "names" (.ref N) [("all_lines", .ref A), ("lines", .ref L), ("taken", .int 0), ("many_rows", .int 0)])) = H6 at k6 e6 n6 ⊢
      refine fun B hB => ⟨(show 2 ≤ sizeLine by decide), fun w1 hw1 => ⟨(show 2 ≤ sizeLine by decide), fun w2 hw2 => ⟨(show 2 ≤ sizeLine by decide), fun w3 hw3 => ?_⟩⟩⟩
      have pB : ¬ B = p := fun z => by rw [z, e6] at hB; cases hB
      have NB : N ≠ B := fun z => by rw [← z, n6] at hB; cases hB
      have k7 : Kept None H6 (upd H6 B (.dK [])) := Kept.refl.new hB
      have b7 : upd H6 B (.dK []) B = some (.dK []) := upd_same
      generalize upd H6 B (.dK []) = H7 at k7 b7 hw1 hw2 hw3 ⊢
      have k8 : Kept None H7 (upd H7 w1 (.tup [.int 1, .int 12])) := Kept.refl.new hw1
      have a8 : upd H7 w1 (.tup [.int 1, .int 12]) w1 = some (.tup [.int 1, .int 12]) := upd_same
      generalize upd H7 w1 (.tup [.int 1, .int 12]) = H8 at k8 a8 hw2 hw3 ⊢
      have k9 : Kept None H8 (upd H8 w2 (.tup [.int 0, .int 12])) := Kept.refl.new hw2
      have a9 : upd H8 w2 (.tup [.int 0, .int 12]) w2 = some (.tup [.int 0, .int 12]) := upd_same
      generalize upd H8 w2 (.tup [.int 0, .int 12]) = H9 at k9 a9 hw3 ⊢
      have kx : Kept None H9 (upd H9 w3 (.tup [.int 0, .int 11])) := Kept.refl.new hw3
      have ax : upd H9 w3 (.tup [.int 0, .int 11]) w3 = some (.tup [.int 0, .int 11]) := upd_same
      generalize upd H9 w3 (.tup [.int 0, .int 11]) = HA at kx ax ⊢
      have bA : HA B = some (.dK []) := kx.dK (k9.dK (k8.dK b7 fun z => z) fun z => z) fun z => z
      have kA : Kept None H6 HA := k7.trans (k8.trans (k9.trans kx))
      have t1 : HA w1 = some (.tup [.int 1, .int 12]) := kx.tup (k9.tup a8 fun z => z) fun z => z
      have t2 : HA w2 = some (.tup [.int 0, .int 12]) := kx.tup a9 fun z => z
      have eA : HA p = some (.ins C dx [("all_lines", .ref A), ("lines", .ref L), ("taken", .int 0), ("many_rows", .int 0), ("names", .ref N)]) := kA p _ e6 fun z => z
      have nA : HA N = some (.dK []) := kA.dK n6 fun z => z
      have bne : ∀ {q : Addr} {u : HO}, HA q = some u → (∀ kvs, u ≠ .dK kvs) → q ≠ B := fun {q u} e h z => by
        rw [z, bA] at e
        exact h _ (Option.some.inj e).symm
      refine ⟨bA, [(Sum.inr "wide", .ref w1), (Sum.inr "goings", .ref w2), (Sum.inr "shift", .ref w3)], rfl, (by show 3 ≤ 15; decide), ?_⟩
      refine ⟨.ref p, rfl, p, C, dx, _, rfl, (by rw [upd_ne (fun z => pB z.symm)]; exact eA), T.cl, T.nB, (by show 5 < 1000; decide), ?_⟩
      have pne : ∀ {q : Addr} {u : HO}, HA q = some u → (∀ C dx fs, u ≠ .ins C dx fs) → q ≠ p := fun {q u} e h z => by
        rw [z, eA] at e
        exact h _ _ _ (Option.some.inj e).symm
      have kB : Kept (fun b => b = p) H1 HA := (k2.weak fun _ z => z.elim).trans (k6.trans (kA.weak fun _ z => z.elim))
      have hB1 : H B = none := (k1.trans ((k2.weak fun _ z => z.elim).trans k6)).freeD hB pB
      have kAll : Kept (fun b => b = p) H HA := k1.trans kB
      refine q L N B _ hN1 hB1 ((kAll.new hB1).upd rfl) ?_ ⟨_, by rw [upd_ne pB]; exact upd_same, (by show 3 ≤ 10; decide)⟩
      refine ⟨upd_same, ⟨ts, ?_, u2, fun j t l h1 h2 => ?_⟩, ⟨[], ?_, (fun q h => by cases h), Nat.zero_le _⟩, ⟨[(Sum.inr "wide", .ref w1), (Sum.inr "goings", .ref w2), (Sum.inr "shift", .ref w3)], ?_, ?_⟩, NB⟩
      · have eL : HA L = some (.lst (ts.map V.ref)) := (k6.trans (kA.weak fun _ z => z.elim)).lst u1 lN
        rw [upd_ne (pne eL (fun _ _ _ z => by cases z)), upd_ne (bne eL (fun _ z => by cases z))]
        exact eL
      · have e0 := u4 j t l h1 h2
        have et : HA t = some (.lst (l.map V.str)) := kB.lst e0 (tN e0)
        rw [upd_ne (pne et (fun _ _ _ z => by cases z)), upd_ne (bne et (fun _ z => by cases z))]
        exact et
      · rw [upd_ne pN, upd_ne NB]; exact nA
      · rw [upd_ne pB]; exact upd_same
      · intro kind lo hi h
        have up : ∀ {w : Addr} {xs : List V}, HA w = some (.tup xs) → ∀ {B0 : HO} {I0 : HO}, upd (upd HA B B0) p I0 w = some (.tup xs) := fun {w xs} e => by
          intro B0 I0
          rw [upd_ne (pne e (fun _ _ _ z => by cases z)), upd_ne (bne e (fun _ z => by cases z))]
          exact e
        cases h with
        | wide => exact ⟨w1, rfl, up t1⟩
        | goings => exact ⟨w2, rfl, up t2⟩
        | shift => exact ⟨w3, rfl, up ax⟩
end
end K7

set_option Elab.async false
set_option linter.all false
set_option maxRecDepth 100000
set_option maxHeartbeats 4000000
namespace K7
open PySem PySem.Spec PyProof.Rows L2
abbrev sReadProgram : Stmt := inClass (top 20) 1
theorem scReadProgram : FnScope ["self", "wide", "inputs", "rows"] ["self"] (defScope sReadProgram) := ⟨rfl, rfl, rfl, by decide +kernel, rfl, by decide +kernel, by decide +kernel⟩
abbrev sProgramIn : Stmt := top 19
theorem scProgramIn : FnScope ["text"] ["text"] (defScope sProgramIn) := ⟨rfl, rfl, rfl, by decide +kernel, rfl, by decide +kernel, by decide +kernel⟩
/-! ### whole programs read -/
structure Pg where
  v : Nat
  xs : List PySem.Str
  t : Tr
def Pg.lines (g : Pg) : List (List PySem.Str) := [("wide" : PySem.Str), dec g.v] :: (("in" : PySem.Str) :: g.xs) :: g.t.lines
def Pg.fine (g : Pg) : Prop := 1 ≤ g.v ∧ g.v ≤ 12 ∧ g.xs.length ≤ 4 ∧ (∀ x ∈ g.xs, Nm x) ∧ g.t.all ≤ 60 ∧ g.t.fine g.v 1 0
/-- a program at p -/
def PgAt (H : Hp) (p : Addr) (g : Pg) : Prop := ∃ (q1 q2 : Addr) (rs : List V), H p = some (.tup [.int (g.v : Int), .ref q1, .ref q2]) ∧ H q1 = some (.tup (g.xs.map V.str)) ∧ H q2 = some (.tup rs) ∧ Its H rs g.t
abbrev At5 (a : Ad) : Addr → Prop := fun b => At3 a b ∨ b = a.B
theorem Rd.word {C : Addr} {a : Ad} {ls : List (List PySem.Str)} {v k m b : Nat} {H : Hp} (r : Rd C a ls none k m b H) {t : Addr} {bvs : List (Key × V)} (e : H a.B = some (.dK bvs)) (et : H t = some (.tup [.int 0, .int ((2 ^ v - 1 : Nat) : Int)])) :
    Rd C a ls (some v) k m b (upd H a.B (.dK (putK bvs (Sum.inr "word") (.ref t)))) := by
  obtain ⟨o, ⟨ts, l1, l2, l3⟩, ⟨kvs, n1, n2, n3⟩, ⟨bvs', b1, b2⟩, nb⟩ := r
  have e3 : bvs' = bvs := HO.dK.inj (Option.some.inj (b1.symm.trans e))
  subst e3
  have ne : ∀ {q : Addr} {u : HO}, H q = some u → (∀ kvs, u ≠ .dK kvs) → q ≠ a.B := fun {q u} e2 h z => by
    rw [z, e] at e2
    exact h _ (Option.some.inj e2).symm
  refine ⟨by rw [upd_ne (ne o (fun _ z => by cases z))]; exact o, ⟨ts, by rw [upd_ne (ne l1 (fun _ z => by cases z))]; exact l1, l2, fun i t l h1 h2 => by rw [upd_ne (ne (l3 i t l h1 h2) (fun _ z => by cases z))]; exact l3 i t l h1 h2⟩, ⟨kvs, by rw [upd_ne nb]; exact n1, n2, n3⟩, ⟨_, upd_same, fun kind lo hi h => ?_⟩, nb⟩
  have old : ∀ kind lo hi, BK none kind lo hi → kind ≠ "word" → ∃ t', valV (putK bvs' (Sum.inr "word") (.ref t)) (Sum.inr kind : Key) = some (.ref t') ∧ upd H a.B (.dK (putK bvs' (Sum.inr "word") (.ref t))) t' = some (.tup [.int (lo : Int), .int (hi : Int)]) := fun kind lo hi h hk => by
    obtain ⟨t', t1, t2⟩ := b2 kind lo hi h
    refine ⟨t', ?_, by rw [upd_ne (ne t2 (fun _ z => by cases z))]; exact t2⟩
    rw [valV_put, if_neg (fun z => hk (Sum.inr.inj z))]
    exact t1
  cases h with
  | wide => exact old _ _ _ .wide (by decide)
  | goings => exact old _ _ _ .goings (by decide)
  | shift => exact old _ _ _ .shift (by decide)
  | word =>
    refine ⟨t, ?_, by rw [upd_ne (ne et (fun _ z => by cases z))]; exact et⟩
    rw [valV_put, if_pos rfl]
def linesOf (z : PySem.Str) : List (List PySem.Str) := ((rows z.cps.toList).map fun r => r.map mkS).filter fun l => !l.isEmpty
def spProgIn : Sp := fun vs H Q _ => ∃ (z : PySem.Str) (g : Pg), vs = [.str z] ∧ z.length ≤ 900000 ∧ g.fine ∧ linesOf z = g.lines ∧ ∀ p H', Kept None H H' → PgAt H' p g → Q (.ref p) H'
def spProgram (C : Addr) : Sp := fun vs H Q _ => ∃ (a : Ad) (g : Pg), vs = [.ref a.p] ∧ Rd C a g.lines none 0 0 0 H ∧ (∃ bvs : List (Key × V), H a.B = some (.dK bvs) ∧ bvs.length ≤ 10) ∧ g.fine ∧ ∀ p H', Kept (At5 a) H H' → PgAt H' p g → Q (.ref p) H'
section
variable {P : Program} {w : World} {K : PySem.W.Frag} {mg : PySem.Str → Option Value} {base : Heap} {f fS fB fG fR fI fD fL fT fP C D CW : Addr} {fd fdS fdB fdG fdR fdI fdD fdL fdT fdP : FuncData} {n : Nat}
theorem ok_program (F : FnM K "read_program" "Text.read_program" sReadProgram f fd) (T : TxC K mg C) (mT : Meth K C "take_line_of" fT) (GT : FnOk P w K mg base CX0 1 fT fdT ["self", "word"] (spTake C)) (bT : Binds K fdT ["self", "word"] [])
    (mG : Meth K C "number_behind" fG) (GG : FnOk P w K mg base CX0 5 fG fdG ["self", "words", "kind"] (spNumB C)) (bG : Binds K fdG ["self", "words", "kind"] [])
    (mI : Meth K C "read_inputs" fI) (GI : FnOk P w K mg base CX0 4 fI fdI ["self"] (spIn C)) (bI : Binds K fdI ["self"] [])
    (mR : Meth K C "read_rows" fR) (GR : FnOk P w K mg base CX0 (6 + 2 * 7) fR fdR ["self", "deep", "rounds"] (spReadRows C 7)) (bR : Binds K fdR ["self", "deep", "rounds"] []) (m_len : mg "len" = none) : FnOk P w K mg base CX0 21 f fd ["self"] (spProgram C) := by
  refine F.ok (k := 20) scReadProgram (fun vs H Q E h => ?_) (fun cdv A outer s H vs Q E hr h => ?_)
  · obtain ⟨a, g, rfl, _⟩ := h
    rfl
  · obtain ⟨a, ⟨v, xs, t⟩, rfl, r0, ⟨bv0, c1, c2⟩, ⟨v1, v2, x4, nm, few, ft⟩, q⟩ := h
    dsimp only at v1 v2 x4 nm few ft
    have hu := hu_of hr
    refine ⟨_, PSs.nox (pss_cons (ps_set (i := 1) scReadProgram.nd rfl (Or.inl rfl) (pe_meth (pv 0) T.cl mG (GG.mono (by decide)) hr bG .nil pass0 (pa_cons (pe_meth (pv 0) T.cl mT (GT.mono (by decide)) hr bT .nil pass0 (pa_cons pe_str pa_nil)) (pa_cons pe_str pa_nil))))
    (pss_cons (ps_dput hu (pe_fld (pv 0) rfl) pe_str (pe_tup (pa_cons pe_int (pa_cons (pe_op op_sub (pe_op n_bit pe_int (pv 1)) pe_int) pa_nil))) rfl)
    (pss_cons (ps_set (i := 2) scReadProgram.nd rfl (Or.inl rfl) (pe_meth0 (pv 0) T.cl mI (GI.mono (by decide)) hr bI .nil pass0))
    (pss_cons (ps_set (i := 3) scReadProgram.nd rfl (Or.inl rfl) (pe_meth (pv 0) T.cl mR GR hr bR .nil pass0 (pa_cons pe_int (pa_cons pe_int pa_nil))))
    (pss_cons (ps_if (pt_cmpR op_lt (pe_fld (pv 0) rfl) (pe_callB call_len_seq (by rfl) m_len PySem.boot_len (pa_cons (pe_fld (pv 0) rfl) pa_nil)) (nomark _))
      (pss_cons ps_never (pss_one ps_never))
      pss_nil)
    (pss_one (ps_ret (pe_tup (pa_cons (pv 1) (pa_cons (pv 2) (pa_cons (pv 3) pa_nil))))))))))), ?_⟩
    refine ⟨.ref a.p, rfl, a.p, a.dx, _, rfl, r0.o, rfl, .ref a.p, rfl, a.p, a.dx, _, rfl, r0.o, rfl, a, _, none, 0, 0, 0, "wide", [dec v], rfl, r0, rfl, fun W H1 k1 r1 eW => ?_⟩
    refine ⟨a, _, none, 1, 0, 0, v, 1, 12, W, "wide", "wide", rfl, eW, by omega, r1, .wide, v1, v2, fun H2 k2 => ?_⟩
    have r2 := r1.stay k2
    obtain ⟨bvs, hb1, hb2⟩ := r2.bd
    refine ⟨.int (v : Int), rfl, v, rfl, rfl, by omega, ((2 ^ v : Nat) : Int), 1, rfl, rfl, (show 2 ≤ sizeLine by decide), fun t0 ht0 => ?_⟩
    have tp := Nat.two_pow_pos v
    have k3 : Kept None H2 (upd H2 t0 (.tup [.int 0, .int (((2 ^ v : Nat) : Int) - 1)])) := Kept.refl.new ht0
    have e3 : upd H2 t0 (.tup [.int 0, .int (((2 ^ v : Nat) : Int) - 1)]) t0 = some (.tup [.int 0, .int ((2 ^ v - 1 : Nat) : Int)]) := by
      rw [upd_same, show ((2 ^ v : Nat) : Int) - 1 = ((2 ^ v - 1 : Nat) : Int) by omega]
    have r3 := r2.stay k3
    have hb3 := k3.dK hb1 fun z => z
    generalize upd H2 t0 (.tup [.int 0, .int (((2 ^ v : Nat) : Int) - 1)]) = H3 at k3 e3 r3 hb3 ⊢
    refine ⟨.ref a.p, rfl, a.p, C, a.dx, _, _, rfl, r3.o, T.cl, T.nB, f_B, a.B, _, rfl, DPut.k (k := (Sum.inr "word" : Key)) hb3 ?_, ?_⟩
    · have aB : ¬ At3 a a.B := by
        rintro (z | z)
        · rw [z, r0.o] at c1; cases c1
        · exact r0.nb z.symm
      have e4 := k2.dK (k1.dK c1 aB) fun z => z
      have e5 : bvs = bv0 := HO.dK.inj (Option.some.inj (hb1.symm.trans e4))
      rw [e5, sizeLine_eq]; omega
    have r4 := r3.word hb3 e3
    have k4 : Kept (At5 a) H (upd H3 a.B (.dK (putK bvs (Sum.inr "word") (.ref t0)))) := ((k1.weak fun _ z => .inl z).trans ((k2.trans k3).weak fun _ z => z.elim)).upd (.inr rfl)
    generalize upd H3 a.B (.dK (putK bvs (Sum.inr "word") (.ref t0))) = H4 at r4 k4 ⊢
    refine ⟨.ref a.p, rfl, a.p, a.dx, _, rfl, r4.o, rfl, a, _, some v, 1, 0, 0, xs, rfl, r4, rfl, x4, nm, by decide, fun q1 H5 k5 r5 e5 => ?_⟩
    refine ⟨.ref a.p, rfl, a.p, a.dx, _, rfl, r5.o, rfl, a, _, v, 2, 0, 1, 0, t, [], rfl, rfl, by decide, r5.more (by decide), v2, by simp [Pg.lines], .inl rfl, by omega, ft, fun q2 rs H6 k6 r6 e6 i6 => ?_⟩
    obtain ⟨ts, l1, l2, l3⟩ := r6.l
    refine ⟨.ref a.p, rfl, a.p, C, a.dx, _, _, rfl, r6.o, T.cl, T.nT, f_T, .ref a.p, rfl, a.p, C, a.dx, _, _, rfl, r6.o, T.cl, T.nL, f_L, a.L, _, rfl, .inl (SqL.of l1), _, _, rfl, rfl, _, rfl, ite2 (fun z => ?_) (fun _ => ?_)⟩
    · exfalso
      have z2 := of_decide_eq_true z
      rw [List.length_map, l2] at z2
      simp only [Pg.lines, List.length_cons] at z2
      omega
    refine ⟨.int (v : Int), rfl, .ref q1, rfl, .ref q2, rfl, (show 3 ≤ sizeLine by decide), fun p hp => ?_⟩
    have kp : Kept None H6 (upd H6 p (.tup [.int (v : Int), .ref q1, .ref q2])) := Kept.refl.new hp
    refine q p _ (k4.trans (((k5.trans k6).weak fun _ z => .inl z).trans (kp.weak fun _ z => z.elim))) ⟨q1, q2, rs, upd_same, kp.tup (k6.tup e5 (r5.ntup _ _ e5)) fun z => z, kp.tup e6 fun z => z, i6.stay kp fun _ _ _ z => z⟩
theorem ok_progin (F : FnP K "program_in" sProgramIn f fd) (T : TxC K mg C) (M : Mk K C fS) (GS : FnOk P w K mg base CX0 1 fS fdS ["self", "all_lines"] (spInit C)) (bS : Binds K fdS ["self", "all_lines"] []) (GR : FnOk P w K mg base CX0 2 fR fdR ["text"] spRows) (bR : Binds K fdR ["text"] []) (kR : PySem.W.keepIn K (.ref fR) = true) (gR : mg "rows_of" = some (.ref fR))
    (mP : Meth K C "read_program" fP) (GP : FnOk P w K mg base CX0 21 fP fdP ["self"] (spProgram C)) (bP : Binds K fdP ["self"] []) (m_type : mg "type" = none) (m_str : mg "str" = none) : FnOk P w K mg base CX0 22 f fd ["text"] (spProgIn) := by
  refine F.ok (k := 21) scProgramIn (fun vs H Q E h => ?_) (fun cdv A outer s H vs Q E hr h => ?_)
  · obtain ⟨z, g, rfl, _⟩ := h
    rfl
  · obtain ⟨z, g, rfl, hz, hg, hl, q⟩ := h
    have hu := hu_of hr
    refine ⟨_, PSs.nox (pss_cons (ps_if (pt_cmpR op_notTyB (pe_callTy call_type1 (by rfl) m_type (by decide +kernel) (pa_cons (pv 0) pa_nil)) (pe_bltn (v := .ty "str") (by rfl) m_str (by decide +kernel) rfl) (nomark _))
      (pss_one ps_never)
      pss_nil)
    (pss_one (ps_ret (pe_meth0 (pe_make M (GS.mono (by decide)) hr (by rfl) T.mgC bS .nil pass0 (pa_cons (pe_call (GR.mono (by decide)) hr (by rfl) gR kR bR .nil pass0 (pa_cons (pv 0) pa_nil)) pa_nil)) T.cl mP GP hr bP .nil pass0)))), ?_⟩
    refine ⟨.str z, rfl, .str z, "str", rfl, .str z, "str", "str", rfl, rfl, _, rfl, ?_⟩
    rw [decide_eq_true rfl]
    refine iteF ⟨.str z, rfl, z, rfl, by omega, fun A H1 nA k1 ⟨as, a1, a2, a3⟩ x dx hx hdx ne => ?_⟩
    have lr := rows_len z.cps.toList
    have lz : z.cps.toList.length = z.length := by simp [PySem.Str.length]
    have xA : A ≠ x := fun y => by rw [y, hx] at a1; cases a1
    have k2 : Kept None H1 (upd (upd H1 dx (.own x)) x (.ins C dx [])) := by
      refine (Kept.refl.new hdx).new ?_
      exact hx
    refine ⟨x, dx, A, as, (rows z.cps.toList).map fun r => r.map mkS, rfl, upd_same, k2.lst a1 (fun y => y), by rw [List.length_map]; exact a2, by omega, fun i t l h1 h2 => ?_, fun L N B H3 nN nB k3 r3 b3 => ⟨rfl, ?_⟩⟩
    · rw [List.getElem?_map] at h2
      obtain ⟨r, hr2, rfl⟩ := Option.map_eq_some_iff.mp h2
      rw [show (r.map mkS).map V.str = r.map wv by rw [List.map_map]; rfl]
      exact k2.lst (a3 i t r h1 hr2).1 (fun y => y)
    refine ⟨x, dx, _, rfl, r3.o, rfl, ⟨x, dx, A, L, N, B⟩, g, rfl, by rw [← hl]; exact r3, b3, hg, fun p H4 k4 pg => q p H4 ?_ pg⟩
    have kAll : Kept (At5 ⟨x, dx, A, L, N, B⟩) H1 H4 := (k2.weak fun _ y => y.elim).trans ((k3.weak fun b y => .inl (.inl y)).trans k4)
    refine k1.trans fun b o e _ => kAll b o e ?_
    rintro ((y | y) | y)
    · rw [y, hx] at e; cases e
    · rw [y, k2.free nN] at e; cases e
    · rw [y, k2.free nB] at e; cases e
end
end K7

set_option Elab.async false
set_option linter.all false
set_option maxRecDepth 100000
set_option maxHeartbeats 4000000
namespace K7
open PySem PySem.Spec PyProof.Rows L2
/-! ### figures hold no space -/
def decP (n : Nat) : Bool := (dec n).cps.toList.all (fun c => Nat.ble 48 c) && !(dec n).cps.toList.isEmpty
theorem decP_all : (List.range 4096).all decP = true := by decide +kernel
theorem dec_plain {n : Nat} (h : n < 4096) : (dec n).cps.toList ≠ [] ∧ ∀ c ∈ (dec n).cps.toList, 48 ≤ c := by
  have q := List.all_eq_true.mp decP_all n (List.mem_range.mpr h)
  unfold decP at q
  obtain ⟨q1, q2⟩ := Bool.and_eq_true_iff.mp q
  refine ⟨fun e => (by rw [e] at q2; cases q2), fun c hc => Nat.le_of_ble_eq_true (List.all_eq_true.mp q1 c hc)⟩
end K7

set_option Elab.async false
set_option linter.all false
set_option maxRecDepth 100000
set_option maxHeartbeats 4000000
namespace K7
open PySem PySem.Spec PyProof.Rows L2 TL
/-! ### lines and words: joined, taken apart -/
theorem join_list (y : PySem.Str) (ps : List PySem.Str) : (Txt.join y ps).cps.toList = joinL y.cps.toList (ps.map fun z => z.cps.toList) := by
  rw [join_eq]; exact tl_join y ps
theorem parts_app {c : Nat} : ∀ {w : List Nat} (l : List Nat), c ∉ w → parts c (w ++ c :: l) = w :: parts c l
  | [], l, _ => parts_hit c l
  | x :: w, l, h => by
    have hx : x ≠ c := fun e => h (by rw [e]; exact List.mem_cons_self)
    have ih := parts_app (w := w) l (fun z => h (List.mem_cons_of_mem _ z))
    unfold parts at ih
    obtain ⟨i1, i2⟩ := List.cons.inj ih
    rw [List.cons_append, parts_miss hx, i1, i2]
    rfl
theorem parts_one {c : Nat} : ∀ {w : List Nat}, c ∉ w → parts c w = [w]
  | [], _ => rfl
  | x :: w, h => by
    have hx : x ≠ c := fun e => h (by rw [e]; exact List.mem_cons_self)
    have ih := parts_one (w := w) (fun z => h (List.mem_cons_of_mem _ z))
    unfold parts at ih
    obtain ⟨i1, i2⟩ := List.cons.inj ih
    rw [parts_miss hx, i1, i2]
theorem parts_join {c : Nat} : ∀ {ws : List (List Nat)}, ws ≠ [] → (∀ w ∈ ws, c ∉ w) → parts c (joinL [c] ws) = ws
  | [], h, _ => absurd rfl h
  | [w], _, h => parts_one (h w List.mem_cons_self)
  | w :: x :: r, _, h => by
    show parts c (w ++ ([c] ++ joinL [c] (x :: r))) = _
    rw [List.singleton_append, parts_app _ (h w List.mem_cons_self), parts_join (by simp) (fun y hy => h y (List.mem_cons_of_mem _ hy))]
/-- a word of a line -/
def Wd (w : List Nat) : Prop := w ≠ [] ∧ 32 ∉ w
theorem words_sp (l : List Nat) : words (32 :: l) = words l := by
  unfold words
  rw [parts_hit]
  rfl
theorem words_rep (l : List Nat) : ∀ n, words (List.replicate n 32 ++ l) = words l
  | 0 => rfl
  | n + 1 => by rw [List.replicate_succ, List.cons_append, words_sp, words_rep l n]
theorem ne0_of {w : List Nat} (h : w ≠ []) : ne0 w = true := by
  cases w with
  | nil => exact absurd rfl h
  | cons a r => rfl
theorem words_cons {w : List Nat} (l : List Nat) (h : Wd w) : words (w ++ 32 :: l) = w :: words l := by
  unfold words
  rw [parts_app l h.2, List.filter_cons, if_pos (ne0_of h.1)]
theorem words_end {w : List Nat} (h : Wd w) : words w = [w] := by
  unfold words
  rw [parts_one h.2, List.filter_cons, if_pos (ne0_of h.1)]
  rfl
theorem words_rep0 (n : Nat) : words (List.replicate n 32) = [] := by
  have := words_rep [] n
  rw [List.append_nil] at this
  rw [this]
  rfl
theorem words_tail {w : List Nat} (h : Wd w) : ∀ n, words (w ++ List.replicate n 32) = [w]
  | 0 => by rw [List.replicate_zero, List.append_nil]; exact words_end h
  | n + 1 => by rw [List.replicate_succ, words_cons _ h, words_rep0]
theorem words_gap (g b : Nat) : ∀ {ws : List (List Nat)}, (∀ w ∈ ws, Wd w) → words (joinL (List.replicate (g + 1) 32) ws ++ List.replicate b 32) = ws
  | [], _ => words_rep0 b
  | [w], h => words_tail (h w List.mem_cons_self) b
  | w :: x :: r, h => by
    show words ((w ++ (List.replicate (g + 1) 32 ++ joinL (List.replicate (g + 1) 32) (x :: r))) ++ List.replicate b 32) = _
    rw [List.append_assoc, List.append_assoc, List.replicate_succ, List.cons_append, words_cons _ (h w List.mem_cons_self), words_rep, ← List.replicate_succ, words_gap g b fun y hy => h y (List.mem_cons_of_mem _ hy)]
theorem words_join {ws : List (List Nat)} (h : ∀ w ∈ ws, Wd w) : words (joinL [32] ws) = ws := by
  have := words_gap 0 0 h
  rw [List.replicate_zero, List.append_nil] at this
  exact this
theorem rows_join {ts : List (List Nat)} (h : ts ≠ []) (h2 : ∀ t ∈ ts, 10 ∉ t) : rows (joinL [10] ts) = ts.map words := by
  unfold rows
  rw [parts_join h h2]
/-! #### as texts -/
def Wt (x : PySem.Str) : Prop := x.cps.toList ≠ [] ∧ ∀ c ∈ x.cps.toList, 48 ≤ c
theorem Wt.wd {x : PySem.Str} (h : Wt x) : Wd x.cps.toList := ⟨h.1, fun z => absurd (h.2 32 z) (by decide)⟩
theorem Wt.no {x : PySem.Str} (h : Wt x) : 10 ∉ x.cps.toList := fun z => absurd (h.2 10 z) (by decide)
theorem Nm.wt {x : PySem.Str} (h : Nm x) : Wt x := by
  unfold Nm nameB at h
  dsimp only at h
  obtain ⟨h1, h2⟩ := Bool.and_eq_true_iff.mp h
  refine ⟨fun e => ?_, fun c hc => ?_⟩
  · have := of_decide_eq_true (Bool.and_eq_true_iff.mp h1).1
    rw [len_list, e] at this
    exact absurd this (by decide)
  · unfold lowB at h2
    have q := List.all_eq_true.mp h2 c hc
    have q1 := (Bool.and_eq_true_iff.mp q).1
    have ea : ("a" : PySem.Str).cps.toList = [97] := by decide +kernel
    rw [ea] at q1
    have : ¬ [c] < [97] := fun e => by rw [decide_eq_true e] at q1; cases q1
    have : ¬ c < 97 := fun e => this (List.Lex.rel e)
    omega
theorem dec_wt {n : Nat} (h : n < 4096) : Wt (dec n) := dec_plain h
theorem wt_of {x : PySem.Str} (h : Nm x) : Wt x := h.wt
/-- the text of a line -/
def spj (ws : List PySem.Str) : PySem.Str := Txt.join " " ws
/-- .. and of lines -/
def nlj (ts : List PySem.Str) : PySem.Str := Txt.join "\n" ts
theorem sp_list : (" " : PySem.Str).cps.toList = [32] := by decide +kernel
theorem nl_list : ("\n" : PySem.Str).cps.toList = [10] := by decide +kernel
/-- what a text shows: its words, if it has any -/
def shown (t : PySem.Str) : List (List PySem.Str) := if (words t.cps.toList).isEmpty then [] else [(words t.cps.toList).map mkS]
theorem linesOf_nlj {ts : List PySem.Str} (h : ts ≠ []) (h2 : ∀ t ∈ ts, 10 ∉ t.cps.toList) : linesOf (nlj ts) = ts.flatMap shown := by
  unfold linesOf nlj
  rw [join_list, nl_list, rows_join (by cases ts with | nil => exact absurd rfl h | cons a r => simp) (fun t ht => by
    obtain ⟨z, hz, rfl⟩ := List.mem_map.mp ht
    exact h2 z hz)]
  clear h h2
  induction ts with
  | nil => rfl
  | cons t r ih =>
    rw [List.flatMap_cons, ← ih, List.map_cons, List.map_cons, List.map_cons, List.filter_cons]
    unfold shown
    cases e : words t.cps.toList with
    | nil => rfl
    | cons a b => rfl
theorem map_tl (ws : List PySem.Str) : (ws.map fun z => z.cps.toList).map mkS = ws := by
  rw [List.map_map]
  conv => rhs; rw [← List.map_id ws]
  exact List.map_congr_left fun z _ => mkS_of z
theorem shown_of {t : PySem.Str} {ws : List PySem.Str} (h : words t.cps.toList = ws.map fun z => z.cps.toList) (hn : ws ≠ []) : shown t = [ws] := by
  unfold shown
  rw [h, map_tl]
  cases ws with
  | nil => exact absurd rfl hn
  | cons a r => rfl
theorem wd_map {ws : List PySem.Str} (h : ∀ w ∈ ws, Wt w) : ∀ w ∈ (ws.map fun z => z.cps.toList), Wd w := fun w hw => by
  obtain ⟨z, hz, rfl⟩ := List.mem_map.mp hw
  exact (h z hz).wd
theorem shown_spj {ws : List PySem.Str} (h : ∀ w ∈ ws, Wt w) (hn : ws ≠ []) : shown (spj ws) = [ws] := by
  refine shown_of ?_ hn
  unfold spj
  rw [join_list, sp_list, words_join (wd_map h)]
theorem joinL_no {c : Nat} {S : List Nat} (hS : c ∉ S) : ∀ {ws : List (List Nat)}, (∀ w ∈ ws, c ∉ w) → c ∉ joinL S ws
  | [], _ => by simp [joinL]
  | [w], h => h w List.mem_cons_self
  | w :: x :: r, h => by
    show c ∉ w ++ (S ++ joinL S (x :: r))
    simp only [List.mem_append, not_or]
    exact ⟨h w List.mem_cons_self, hS, joinL_no hS fun y hy => h y (List.mem_cons_of_mem _ hy)⟩
theorem spj_no {ws : List PySem.Str} (h : ∀ w ∈ ws, Wt w) : 10 ∉ (spj ws).cps.toList := by
  unfold spj
  rw [join_list, sp_list]
  refine joinL_no (by decide) fun w hw => ?_
  obtain ⟨z, hz, rfl⟩ := List.mem_map.mp hw
  exact (h z hz).no
end K7

set_option Elab.async false
set_option linter.all false
set_option maxRecDepth 100000
set_option maxHeartbeats 4000000
namespace K7
open PySem PySem.Spec PyProof.Rows L2
abbrev sExprText : Stmt := top 22
theorem scExprText : FnScope ["expr", "part"] ["expr"] (defScope sExprText) := ⟨rfl, rfl, rfl, by decide +kernel, rfl, by decide +kernel, by decide +kernel⟩
/-! ### an expression's text -/
def rStrB : List V → Hp → VK → Prop := fun xs H Q => (∃ a, xs = [.str a] ∧ Q (.str a) H) ∨ ∃ i : Int, xs = [.int i] ∧ i.natAbs.log2 < 1920 ∧ Q (.str (toString i)) H
theorem call_strB {X : Cx} : CallR X (.type "str") rStrB := by
  intro pins s σ H xs us Q I r h
  rcases h with h | h
  · exact SkE.call_str_str pins s σ H xs us Q I r h
  · exact call_str_int pins s σ H xs us Q I r h
/-- the parts' texts -/
def txV : V → PySem.Str
  | .str z => z
  | .int i => toString i
  | _ => ""
theorem Ex.tx (e : Ex) : e.vs.map txV = e.words := by cases e <;> rfl
def Sm (v : V) : Prop := (∃ y : PySem.Str, v = .str y ∧ y.length ≤ 8) ∨ ∃ n : Nat, v = .int (n : Int) ∧ n < 4096
theorem Nm.sm {x : PySem.Str} (h : Nm x) : Sm (.str x) := .inl ⟨x, rfl, h.len⟩
theorem Ex.sm {v : Nat} (e : Ex) (hn : ∀ y ∈ e.names, Nm y) (ok : e.ok v) (hv : v ≤ 12) : ∀ x ∈ e.vs, Sm x := by
  have w := (nm_word e).sm
  have t : 2 ^ v ≤ 4096 := Nat.pow_le_pow_right (n := 2) (i := v) (j := 12) (by decide) hv
  intro x hx
  rcases List.mem_cons.mp hx with rfl | hx
  · exact w
  cases e with
  | num n =>
    have o : n < 2 ^ v := ok
    rw [List.mem_singleton.mp hx]; exact .inr ⟨n, rfl, by omega⟩
  | copy y => rw [List.mem_singleton.mp hx]; exact (hn y (by simp [Ex.names])).sm
  | two o y z =>
    simp only [Ex.parts, List.mem_cons, List.not_mem_nil, or_false] at hx
    rcases hx with rfl | rfl
    · exact (hn y (by simp [Ex.names])).sm
    · exact (hn z (by simp [Ex.names])).sm
  | up y k =>
    have o : k ≤ 11 := ok
    simp only [Ex.parts, List.mem_cons, List.not_mem_nil, or_false] at hx
    rcases hx with rfl | rfl
    · exact (hn y (by simp [Ex.names])).sm
    · exact .inr ⟨k, rfl, by omega⟩
  | down y k =>
    have o : k ≤ 11 := ok
    simp only [Ex.parts, List.mem_cons, List.not_mem_nil, or_false] at hx
    rcases hx with rfl | rfl
    · exact (hn y (by simp [Ex.names])).sm
    · exact .inr ⟨k, rfl, by omega⟩
  | pick c y z =>
    simp only [Ex.parts, List.mem_cons, List.not_mem_nil, or_false] at hx
    rcases hx with rfl | rfl | rfl
    · exact (hn c (by simp [Ex.names])).sm
    · exact (hn y (by simp [Ex.names])).sm
    · exact (hn z (by simp [Ex.names])).sm
theorem sm_log {n : Nat} (h : n < 4096) : (n : Int).natAbs.log2 < 1920 := by
  rw [Int.natAbs_natCast]
  by_cases h0 : n = 0
  · rw [h0]; decide
  · exact (Nat.log2_lt h0).mpr (Nat.lt_of_lt_of_le (show n < 2 ^ 12 by omega) (Nat.pow_le_pow_right (by decide) (by decide)))
theorem Sm.tx {v : V} (h : Sm v) : (txV v).length ≤ 8 := by
  rcases h with ⟨y, rfl, h⟩ | ⟨n, rfl, h⟩
  · exact h
  · exact (dec_num h).2
theorem Sm.str {v : V} (h : Sm v) {H : Hp} {Q : VK} (q : Q (.str (txV v)) H) : rStrB [v] H Q := by
  rcases h with ⟨y, rfl, h⟩ | ⟨n, rfl, h⟩
  · exact .inl ⟨y, rfl, q⟩
  · exact .inr ⟨n, rfl, sm_log h, q⟩
theorem sum_le8 : ∀ {l : List V}, (∀ x ∈ l, Sm x) → ((l.map txV).map (·.length)).sum ≤ 8 * l.length
  | [], _ => Nat.le_refl _
  | x :: r, h => by
    have := sum_le8 (l := r) fun y hy => h y (List.mem_cons_of_mem _ hy)
    have := (h x List.mem_cons_self).tx
    simp only [List.map_cons, List.sum_cons, List.length_cons]
    omega
def spExText (K : PySem.W.Frag) : Sp := fun vs H Q _ => ∃ (p : Addr) (e : Ex) (v : Nat), vs = [.ref p] ∧ H p = some (.tup e.vs) ∧ (∀ y ∈ e.names, Nm y) ∧ e.ok v ∧ v ≤ 12 ∧ ∀ H', Kept None H H' → Q (.str (spj e.words)) H'
section
variable {P : Program} {w : World} {K : PySem.W.Frag} {mg : PySem.Str → Option Value} {base : Heap} {f : Addr} {fd : FuncData}
theorem ok_extext (F : FnP K "expr_text" sExprText f fd) (m_str : mg "str" = none) : FnOk P w K mg base CX0 1 f fd ["expr"] (spExText K) := by
  refine F.ok (k := 0) scExprText (fun vs H Q E h => ?_) (fun cdv A outer s H vs Q E hr h => ?_)
  · obtain ⟨p, e, v, rfl, _⟩ := h
    rfl
  · obtain ⟨p, e, v, rfl, hp, hn, ok, hv, q⟩ := h
    refine ⟨_, PSs.nox (pss_one (ps_ret (pe_join pe_str (pe_lc (own := [("part", 1)]) (g := gName 1) (tt := tYes) rfl scExprText.nd (pi_tup (pv 0)) (blkOk_by (own := [("part", 1)]) (N := ["expr", "part"]) (sc := defScope sExprText) (by decide +kernel)) (by exact (fun _ _ _ _ _ => (pg_name (i := 1) scExprText.nd rfl (Or.inl rfl)))) (by exact (fun _ _ _ _ _ => pts_nil)) (by exact (fun _ _ _ _ _ => (pe_callTy call_strB (by rfl) m_str (by decide +kernel) (pa_cons (pv 1) pa_nil)))))))), ?_⟩
    have szl := sizeLine_eq
    have sm := e.sm hn ok hv
    have few : e.vs.length ≤ 4 := by cases e <;> simp [Ex.vs, Ex.parts]
    refine ⟨⟨_, rfl⟩, .ref p, rfl, p, rfl, ⟨_, SqT.of hp⟩, fun D hD => ?_⟩
    refine lc_tup (K := K) (a := p) (xs := e.vs) (fun i H' => Kept None H H' ∧ H' D = some (.lst (((e.vs.take i).map txV).map V.str))) ⟨Kept.refl.new hD, upd_same⟩ (fun i H' _ h => SqT.of (h.1.tup hp fun z => z)) (fun i x H' hx h => ?_) (fun H' h => ?_)
    · obtain ⟨k1, k2⟩ := h
      have sx := sm x (List.mem_of_getElem? hx)
      refine ⟨rfl, ?_⟩
      unfold tYes
      dsimp only
      rw [if_pos rfl]
      refine ⟨x, rfl, ?_⟩
      unfold tNil
      refine sx.str ⟨_, k2, ?_, fun b o e n => ?_, ?_⟩
      · rw [List.length_map, List.length_map, List.length_take]; omega
      · rw [upd_ne (ne_of_none e hD)]
        exact k1 b o e n
      · rw [upd_same, List.take_add_one, hx, List.map_append, List.map_append]
        rfl
    · obtain ⟨k1, k2⟩ := h
      rw [List.take_length, Ex.tx] at k2
      have s8 := sum_le8 sm
      rw [Ex.tx] at s8
      refine ⟨" ", D, e.words, rfl, rfl, .inl (SqL.of k2), ?_, q H' k1⟩
      rw [← Ex.tx, List.length_map, show (" " : PySem.Str).length = 1 from by decide +kernel, Ex.tx]
      omega
end
end K7

set_option Elab.async false
set_option linter.all false
set_option maxRecDepth 100000
set_option maxHeartbeats 4000000
namespace K7
open PySem PySem.Spec PyProof.Rows L2 TL
abbrev sShowRows : Stmt := top 24
theorem scShowRows : FnScope ["rows", "lines", "row"] ["rows", "lines"] (defScope sShowRows) := ⟨rfl, rfl, rfl, by decide +kernel, rfl, by decide +kernel, by decide +kernel⟩
abbrev sShowWithin : Stmt := top 25
theorem scShowWithin : FnScope ["row", "lines"] ["row", "lines"] (defScope sShowWithin) := ⟨rfl, rfl, rfl, by decide +kernel, rfl, by decide +kernel, by decide +kernel⟩
/-! ### rows shown -/
theorem str_eq {x y : PySem.Str} (h : x.cps.toList = y.cps.toList) : x = y := by rw [← mkS_of x, h, mkS_of]
theorem spj_cons (a b : PySem.Str) (r : List PySem.Str) : (spj (a :: b :: r)).cps.toList = a.cps.toList ++ 32 :: (spj (b :: r)).cps.toList := by
  unfold spj
  rw [join_list, join_list, sp_list]
  rfl
theorem spj_one (a : PySem.Str) : spj [a] = a := str_eq (by unfold spj; rw [join_list]; rfl)
theorem joinL_len (S : List Nat) : ∀ ws : List (List Nat), (joinL S ws).length ≤ (ws.map (·.length)).sum + ws.length * S.length
  | [] => Nat.zero_le _
  | [w] => by
    show w.length ≤ _
    simp only [List.map_cons, List.map_nil, List.sum_cons, List.sum_nil, List.length_singleton]
    omega
  | w :: x :: r => by
    have := joinL_len S (x :: r)
    show (w ++ (S ++ joinL S (x :: r))).length ≤ _
    rw [List.length_append, List.length_append, List.map_cons, List.sum_cons, List.length_cons, Nat.add_mul, Nat.one_mul]
    omega
theorem spj_len {ws : List PySem.Str} (h : ∀ w ∈ ws, w.length ≤ 8) (few : ws.length ≤ 6) : (spj ws).length ≤ 60 := by
  have q := joinL_len [32] (ws.map fun z => z.cps.toList)
  have s : ∀ {ws : List PySem.Str}, (∀ w ∈ ws, w.length ≤ 8) → ((ws.map fun z => z.cps.toList).map (·.length)).sum ≤ 8 * ws.length := fun {ws} h => by
    induction ws with
    | nil => exact Nat.le_refl _
    | cons a r ih =>
      have := ih fun y hy => h y (List.mem_cons_of_mem _ hy)
      have := h a List.mem_cons_self
      rw [len_list] at this
      simp only [List.map_cons, List.sum_cons, List.length_cons]
      omega
  have := s h
  rw [List.length_map, List.length_singleton] at q
  rw [len_list]
  unfold spj
  rw [join_list, sp_list]
  omega
/-- the words of a good expression -/
theorem Ex.word_len {v : Nat} (e : Ex) (hn : ∀ y ∈ e.names, Nm y) (ok : e.ok v) (hv : v ≤ 12) : (∀ w ∈ e.words, w.length ≤ 8) ∧ e.words.length ≤ 4 := by
  have s := e.sm hn ok hv
  refine ⟨fun w hw => ?_, by cases e <;> simp [Ex.words]⟩
  rw [← Ex.tx] at hw
  obtain ⟨x, hx, rfl⟩ := List.mem_map.mp hw
  exact (s x hx).tx
theorem head_set (x : PySem.Str) (e : Ex) : (((PySem.Str.empty ++ ("set " : PySem.Str)) ++ x) ++ (" " : PySem.Str)) ++ spj e.words = spj (("set" : PySem.Str) :: x :: e.words) := by
  obtain ⟨ws, hw⟩ := Ex.words_eq e
  refine str_eq ?_
  rw [hw, spj_cons, spj_cons]
  show tl _ = _
  rw [tl_append, tl_append, tl_append, tl_append]
  show (((tl PySem.Str.empty ++ tl ("set " : PySem.Str)) ++ tl x) ++ tl (" " : PySem.Str)) ++ _ = _
  rw [show tl (" " : PySem.Str) = [32] from sp_list, show tl ("set " : PySem.Str) = ("set" : PySem.Str).cps.toList ++ [32] from by decide +kernel, show tl PySem.Str.empty = [] from rfl]
  simp
theorem head_two (a b : PySem.Str) : ((PySem.Str.empty ++ a) ++ (" " : PySem.Str)) ++ b = spj [a, b] := by
  refine str_eq ?_
  rw [spj_cons, spj_one]
  show tl _ = _
  rw [tl_append, tl_append, tl_append, show tl (" " : PySem.Str) = [32] from sp_list, show tl PySem.Str.empty = [] from rfl]
  simp
def spShowR (n : Nat) : Sp := fun vs H Q _ => ∃ (R L : Addr) (rs : List V) (t : Tr) (acc : List PySem.Str) (v d r : Nat), vs = [.ref R, .ref L] ∧ d + n = 8 ∧ 1 ≤ n ∧ H R = some (.tup rs) ∧ Its H rs t ∧ t.fine v d r ∧ v ≤ 12 ∧ H L = some (.lst (acc.map V.str)) ∧ acc.length + t.lines.length ≤ 10000 ∧
  ∀ H', Kept (fun b => b = L) H H' → H' L = some (.lst ((acc ++ t.lines.map spj).map V.str)) → Q .non H'
def spWithin (n : Nat) : Sp := fun vs H Q _ => ∃ (p L : Addr) (t : Tr) (acc : List PySem.Str) (v d r : Nat), vs = [.ref p, .ref L] ∧ d + n = 7 ∧ 1 ≤ n ∧ Its H [.ref p] t ∧ t.fine v d r ∧ v ≤ 12 ∧ H L = some (.lst (acc.map V.str)) ∧ acc.length + t.lines.length ≤ 10001 ∧
  ∀ H', Kept (fun b => b = L) H H' → H' L = some (.lst ((acc ++ t.lines.tail.map spj).map V.str)) → Q .non H'
section
variable {P : Program} {w : World} {K : PySem.W.Frag} {mg : PySem.Str → Option Value} {base : Heap} {f fE fW fR : Addr} {fd fdE fdW fdR : FuncData} {n : Nat}
theorem ok_within (F : FnP K "_show_within" sShowWithin f fd) (GR : FnOk P w K mg base CX0 (2 + 2 * n) fR fdR ["rows", "lines"] (spShowR n)) (bR : Binds K fdR ["rows", "lines"] []) (kR : PySem.W.keepIn K (.ref fR) = true) (gR : mg "_show_rows" = some (.ref fR)) : FnOk P w K mg base CX0 (2 + 2 * n + 1) f fd ["row", "lines"] (spWithin n) := by
  refine F.ok (k := 2 + 2 * n) scShowWithin (fun vs H Q E h => ?_) (fun cdv A outer s H vs Q E hr h => ?_)
  · obtain ⟨p, L, t, acc, v, d, r, rfl, _⟩ := h
    rfl
  · obtain ⟨p, L, t, acc, v, d, r, rfl, hd, n1, ip, ft, hv, hL, few, q⟩ := h
    refine ⟨_, PSs.nox (pss_one (ps_if (pt_cmpR op_eq (pe_ix ix_tup (pv 0) pe_int (fun _ _ => rfl)) pe_str (nomark _))
      (pss_cons (ps_expr (pe_call GR hr (by rfl) gR kR bR .nil pass0 (pa_cons (pe_ix ix_tup (pv 0) pe_int (fun _ _ => rfl)) (pa_cons (pv 1) pa_nil))))
      (pss_cons (ps_expr (pe_bm PySem.F.plainAttrs_list PySem.F.slot_list_append PySem.F.type_list_append mt_append (pv 1) (pa_cons pe_str pa_nil)))
      (pss_cons (ps_expr (pe_call GR hr (by rfl) gR kR bR .nil pass0 (pa_cons (pe_ix ix_tup (pv 0) pe_int (fun _ _ => rfl)) (pa_cons (pv 1) pa_nil))))
      (pss_one (ps_expr (pe_bm PySem.F.plainAttrs_list PySem.F.slot_list_append PySem.F.type_list_append mt_append (pv 1) (pa_cons pe_str pa_nil)))))))
      (pss_one (ps_if (pt_cmpR op_eq (pe_ix ix_tup (pv 0) pe_int (fun _ _ => rfl)) pe_str (nomark _))
        (pss_cons (ps_expr (pe_call GR hr (by rfl) gR kR bR .nil pass0 (pa_cons (pe_ix ix_tup (pv 0) pe_int (fun _ _ => rfl)) (pa_cons (pv 1) pa_nil))))
        (pss_one (ps_expr (pe_bm PySem.F.plainAttrs_list PySem.F.slot_list_append PySem.F.type_list_append mt_append (pv 1) (pa_cons pe_str pa_nil)))))
        pss_nil)))), ?_⟩
    have szl := sizeLine_eq
    have no : ∀ {y z : PySem.Str}, y ≠ z → ¬ decide (V.str y = V.str z) = true := fun h e => h (V.str.inj (of_decide_eq_true e))
    have kL0 : Kept (fun b => b = L) H H := Kept.refl
    have ntL : ∀ {Hx : Hp} {zs : List V}, Hx L = some (.lst zs) → ∀ q ys, Hx q = some (.tup ys) → ¬ q = L := fun e q ys e2 z => by
      rw [z, e] at e2; cases e2
    cases ip with
    | set h he i0 =>
      cases i0
      refine ⟨.ref p, rfl, p, _, 0, .str "set", rfl, rfl, SqT.of h, atI_nat (j := 0) rfl, rfl, _, rfl, ite2 (fun z => absurd z (no (by decide))) (fun _ => ?_)⟩
      refine ⟨.ref p, rfl, p, _, 0, .str "set", rfl, rfl, SqT.of h, atI_nat (j := 0) rfl, rfl, _, rfl, ite2 (fun z => absurd z (no (by decide))) (fun _ => ?_)⟩
      exact q H Kept.refl (by rw [hL]; simp [Tr.lines])
    | tell h i0 =>
      cases i0
      refine ⟨.ref p, rfl, p, _, 0, .str "tell", rfl, rfl, SqT.of h, atI_nat (j := 0) rfl, rfl, _, rfl, ite2 (fun z => absurd z (no (by decide))) (fun _ => ?_)⟩
      refine ⟨.ref p, rfl, p, _, 0, .str "tell", rfl, rfl, SqT.of h, atI_nat (j := 0) rfl, rfl, _, rfl, ite2 (fun z => absurd z (no (by decide))) (fun _ => ?_)⟩
      exact q H Kept.refl (by rw [hL]; simp [Tr.lines])
    | @ite _ q1 q2 x as bs _ a b _ h h1 h2 ra rb i0 =>
      cases i0
      simp only [Tr.lines, List.length_cons, List.length_append, List.length_nil] at few
      refine ⟨.ref p, rfl, p, _, 0, .str "if", rfl, rfl, SqT.of h, atI_nat (j := 0) rfl, rfl, _, rfl, ite2 (fun _ => ?_) (fun z => absurd (decide_eq_true rfl) z)⟩
      refine ⟨.ref p, rfl, p, _, 2, .ref q1, rfl, rfl, SqT.of h, atI_nat (j := 2) rfl, .ref L, rfl, q1, L, as, a, acc, v, d + 1, r, rfl, by omega, n1, h1, ra, ft.2.2.1, hv, hL, by omega, fun H1 k1 e1 => ?_⟩
      have k2 : Kept (fun b => b = L) H (upd H1 L (.lst ((acc ++ a.lines.map spj).map V.str ++ [.str "else"]))) := k1.upd rfl
      refine ⟨.ref L, rfl, .inl ⟨rfl, _, SqL.of e1⟩, L, _, _, rfl, rfl, e1, by simp only [List.length_map, List.length_append]; omega, ?_⟩
      have e2 : upd H1 L (.lst ((acc ++ a.lines.map spj).map V.str ++ [.str "else"])) L = some (.lst ((acc ++ a.lines.map spj ++ [("else" : PySem.Str)]).map V.str)) := by rw [upd_same]; simp
      generalize upd H1 L (.lst ((acc ++ a.lines.map spj).map V.str ++ [.str "else"])) = H2 at k2 e2 ⊢
      refine ⟨.ref p, rfl, p, _, 3, .ref q2, rfl, rfl, SqT.of (k2.tup h (ntL hL _ _ h)), atI_nat (j := 3) rfl, .ref L, rfl, q2, L, bs, b, _, v, d + 1, r, rfl, by omega, n1, k2.tup h2 (ntL hL _ _ h2), rb.stay k2 (ntL hL), ft.2.2.2.1, hv, e2, by simp only [List.length_map, List.length_append, List.length_singleton]; omega, fun H3 k3 e3 => ?_⟩
      refine ⟨.ref L, rfl, .inl ⟨rfl, _, SqL.of e3⟩, L, _, _, rfl, rfl, e3, by simp only [List.length_map, List.length_append, List.length_singleton]; omega, ?_⟩
      refine q _ ((k2.trans k3).upd rfl) ?_
      rw [upd_same]
      simp [Tr.lines, spj_one]
    | @rnd _ q1 c as _ a _ h h1 ra i0 =>
      cases i0
      simp only [Tr.lines, List.length_cons, List.length_append, List.length_nil] at few
      refine ⟨.ref p, rfl, p, _, 0, .str "round", rfl, rfl, SqT.of h, atI_nat (j := 0) rfl, rfl, _, rfl, ite2 (fun z => absurd z (no (by decide))) (fun _ => ?_)⟩
      refine ⟨.ref p, rfl, p, _, 0, .str "round", rfl, rfl, SqT.of h, atI_nat (j := 0) rfl, rfl, _, rfl, ite2 (fun _ => ?_) (fun z => absurd (decide_eq_true rfl) z)⟩
      refine ⟨.ref p, rfl, p, _, 2, .ref q1, rfl, rfl, SqT.of h, atI_nat (j := 2) rfl, .ref L, rfl, q1, L, as, a, acc, v, d + 1, r + 1, rfl, by omega, n1, h1, ra, ft.2.2.2.1, hv, hL, by omega, fun H1 k1 e1 => ?_⟩
      refine ⟨.ref L, rfl, .inl ⟨rfl, _, SqL.of e1⟩, L, _, _, rfl, rfl, e1, by simp only [List.length_map, List.length_append]; omega, ?_⟩
      refine q _ (k1.upd rfl) ?_
      rw [upd_same]
      simp [Tr.lines, spj_one]
end
end K7

set_option Elab.async false
set_option linter.all false
set_option maxRecDepth 100000
set_option maxHeartbeats 4000000
namespace K7
open PySem PySem.Spec PyProof.Rows L2 TL
theorem app_le {a b : PySem.Str} {m n k : Nat} (h1 : a.length ≤ m) (h2 : b.length ≤ n) (h : m + n ≤ k) : (a ++ b).length ≤ k := by
  rw [PySem.Str.length_append]; omega
theorem szBig {a : PySem.Str} (h : a.length ≤ 1000) : a.length ≤ sizeLine := by rw [sizeLine_eq]; omega
section
variable {P : Program} {w : World} {K : PySem.W.Frag} {mg : PySem.Str → Option Value} {base : Heap} {f fE fW fR : Addr} {fd fdE fdW fdR : FuncData} {n : Nat}
theorem ok_show0 (F : FnP K "_show_rows" sShowRows f fd) : FnOk P w K mg base CX0 2 f fd ["rows", "lines"] (spShowR 0) := by
  refine F.ok (k := 1) scShowRows (fun vs H Q E h => ?_) (fun cdv A outer s H vs Q E hr h => ?_)
  · obtain ⟨R, L, rs, t, acc, v, d, r, rfl, _⟩ := h
    rfl
  · obtain ⟨R, L, rs, t, acc, v, d, r, rfl, hd, n1, _⟩ := h
    omega
theorem ok_show1 (F : FnP K "_show_rows" sShowRows f fd) (GE : FnOk P w K mg base CX0 1 fE fdE ["expr"] (spExText K)) (bE : Binds K fdE ["expr"] []) (kE : PySem.W.keepIn K (.ref fE) = true) (gE : mg "expr_text" = some (.ref fE))
    (GW : FnOk P w K mg base CX0 (2 + 2 * n + 1) fW fdW ["row", "lines"] (spWithin n)) (bW : Binds K fdW ["row", "lines"] []) (kW : PySem.W.keepIn K (.ref fW) = true) (gW : mg "_show_within" = some (.ref fW)) : FnOk P w K mg base CX0 (2 + 2 * n + 2) f fd ["rows", "lines"] (spShowR (n + 1)) := by
  refine F.ok (k := 2 + 2 * n + 1) scShowRows (fun vs H Q E h => ?_) (fun cdv A outer s H vs Q E hr h => ?_)
  · obtain ⟨R, L, rs, t, acc, v, d, r, rfl, _⟩ := h
    rfl
  · obtain ⟨R, L, rs, t, acc, v, d, r, rfl, hd, n1, hR, it, ft, hv, hL, few, q⟩ := h
    refine ⟨_, PSs.nox (pss_one (ps_for PassesOwn.never rfl (pi_tup (pv 0)) (pg_name (i := 2) scShowRows.nd rfl (Or.inl rfl))
      (pss_cons (ps_if (pt_cmpR op_eq (pe_ix ix_tup (pv 2) pe_int (fun _ _ => rfl)) pe_str (nomark _))
        (pss_one (ps_expr (pe_bm PySem.F.plainAttrs_list PySem.F.slot_list_append PySem.F.type_list_append mt_append (pv 1) (pa_cons (pe_joined (.cons pe_str (.cons (pe_fmt (pe_ix ix_tup (pv 2) pe_int (fun _ _ => rfl))) (.cons pe_str (.cons (pe_fmt (pe_call (GE.mono (by omega)) hr (by rfl) gE kE bE .nil pass0 (pa_cons (pe_ix ix_tup (pv 2) pe_int (fun _ _ => rfl)) pa_nil))) .nil))))) pa_nil))))
        (pss_one (ps_expr (pe_bm PySem.F.plainAttrs_list PySem.F.slot_list_append PySem.F.type_list_append mt_append (pv 1) (pa_cons (pe_joined (.cons (pe_fmt (pe_ix ix_tup (pv 2) pe_int (fun _ _ => rfl))) (.cons pe_str (.cons (pe_fmt (pe_ix ix_tup (pv 2) pe_int (fun _ _ => rfl))) .nil)))) pa_nil)))))
      (pss_one (ps_expr (pe_call GW hr (by rfl) gW kW bW .nil pass0 (pa_cons (pv 2) (pa_cons (pv 1) pa_nil)))))))), ?_⟩
    have szl := sizeLine_eq
    have no : ∀ {y z : PySem.Str}, y ≠ z → ¬ decide (V.str y = V.str z) = true := fun h e => h (V.str.inj (of_decide_eq_true e))
    have ntL : ∀ {Hx : Hp} {zs : List V}, Hx L = some (.lst zs) → ∀ q ys, Hx q = some (.tup ys) → ¬ q = L := fun e q ys e2 z => by
      rw [z, e] at e2; cases e2
    refine ⟨.ref R, rfl, R, rfl, ⟨_, SqT.of hR⟩, ?_⟩
    refine for_tup (K := K) (a := R) (xs := rs) (fun i σ H' => ∃ (u w : Tr) (x2 : Option V), σ = [some (.ref R), some (.ref L), x2] ∧ t = u.app w ∧ Kept (fun b => b = L) H H' ∧ Its H' (rs.drop i) w ∧ w.fine v d r ∧ H' L = some (.lst ((acc ++ u.lines.map spj).map V.str)))
      ⟨.nil, t, none, rfl, rfl, Kept.refl, it, ft, by rw [hL]; simp [Tr.lines]⟩ (fun i σ H' _ h => ?_) (fun i x σ H' hx h => ?_) (fun σ H' h => ?_)
    · obtain ⟨_, _, _, _, _, k1, _⟩ := h
      exact SqT.of (k1.tup hR (ntL hL _ _ hR))
    · obtain ⟨u, w, x2, rfl, htu, k1, iw, fw, eL⟩ := h
      have hi : i < rs.length := (List.getElem?_eq_some_iff.mp hx).1
      have hdr : rs.drop i = x :: rs.drop (i + 1) := by
        rw [List.drop_eq_getElem_cons hi, (List.getElem?_eq_some_iff.mp hx).2]
      rw [hdr] at iw
      have hlen : u.lines.length + w.lines.length = t.lines.length := by rw [htu, Tr.app_lines, List.length_append]
      -- what the row's own lines leave
      have add : ∀ (one w' : Tr) (p : Addr) (hd0 : List PySem.Str) (tl0 : List (List PySem.Str)) (s0 : PySem.Str) (HE : Hp), x = .ref p → w = one.app w' → Its H' [.ref p] one → one.fine v d r → one.lines = hd0 :: tl0 → s0 = spj hd0 → Its H' (rs.drop (i + 1)) w' → w'.fine v d r → d ≤ 6 → Kept None H' HE →
          HE L = some (.lst ((acc ++ u.lines.map spj).map V.str)) ∧ ((acc ++ u.lines.map spj).map V.str).length < sizeLine ∧
          ∀ H2, H2 = upd HE L (.lst ((acc ++ u.lines.map spj).map V.str ++ [.str s0])) → spWithin n [x, .ref L] H2 (fun _ H3 => ∃ (u w : Tr) (x2 : Option V), ([some (.ref R), some (.ref L), some x] : L2.St) = [some (.ref R), some (.ref L), x2] ∧ t = u.app w ∧ Kept (fun b => b = L) H H3 ∧ Its H3 (rs.drop (i + 1)) w ∧ w.fine v d r ∧ H3 L = some (.lst ((acc ++ u.lines.map spj).map V.str))) E := by
        intro one w' p hd0 tl0 s0 HE ex ew io fo el es iw' fw' d6 kE
        have eE := kE.lst eL fun z => z
        have nn : ∀ (p : Addr) (ys : List V), H' p = some (.tup ys) → ¬ None p := fun p ys _ z => z
        have io := io.stay kE nn
        have iw' := iw'.stay kE nn
        have e1 : upd HE L (.lst ((acc ++ u.lines.map spj).map V.str ++ [.str s0])) L = some (.lst ((acc ++ u.lines.map spj ++ [s0]).map V.str)) := by rw [upd_same]; simp
        have k2 : Kept (fun b => b = L) HE (upd HE L (.lst ((acc ++ u.lines.map spj).map V.str ++ [.str s0]))) := Kept.refl.upd rfl
        have hlw : w.lines.length = 1 + tl0.length + w'.lines.length := by
          rw [ew, Tr.app_lines, List.length_append, el, List.length_cons]; omega
        have hol : one.lines.length = 1 + tl0.length := by rw [el, List.length_cons]; omega
        refine ⟨eE, by simp only [List.length_map, List.length_append]; omega, fun H2 hH2 => ?_⟩
        subst hH2
        refine ⟨p, L, one, acc ++ u.lines.map spj ++ [s0], v, d, r, by rw [ex], by omega, by omega, io.stay k2 (ntL eE), fo, hv, e1, by simp only [List.length_append, List.length_map, List.length_singleton]; omega, fun H3 k3 e3 => ?_⟩
        refine ⟨u.app one, w', some x, rfl, by rw [htu, ew, Tr.app_assoc], ((k1.trans (kE.weak fun _ z => z.elim)).trans k2).trans k3, (iw'.stay k2 (ntL eE)).stay k3 (ntL e1), fw', ?_⟩
        rw [e3, es, Tr.app_lines, el]
        simp
      cases iw with
      | @set p qq x e _ t' h he i0 =>
        obtain ⟨wl, wn⟩ := e.word_len fw.2.1 fw.2.2.1 hv
        have sl := spj_len wl (by omega)
        have xl := fw.1.len
        refine ⟨.ref p, rfl, p, _, 0, .str "set", rfl, rfl, SqT.of h, atI_nat (j := 0) rfl, rfl, _, rfl, ite2 (fun _ => ?_) (fun z => absurd (decide_eq_true rfl) z)⟩
        have b1 : (PySem.Str.empty ++ ("set " : PySem.Str)).length ≤ 10 := by decide +kernel
        have b2 : ((PySem.Str.empty ++ ("set " : PySem.Str)) ++ x).length ≤ 20 := app_le b1 xl (by decide)
        have b3 : (((PySem.Str.empty ++ ("set " : PySem.Str)) ++ x) ++ (" " : PySem.Str)).length ≤ 30 := app_le b2 (show (" " : PySem.Str).length ≤ 1 by decide +kernel) (by decide)
        refine ⟨.ref L, rfl, .inl ⟨rfl, _, SqL.of eL⟩, "set ", rfl, szBig (Nat.le_trans b1 (by decide)), ?_⟩
        refine ⟨.ref p, rfl, p, _, 1, .str x, rfl, rfl, SqT.of h, atI_nat (j := 1) rfl, .inl ⟨x, rfl, szBig (Nat.le_trans xl (by decide)), x, rfl, szBig (Nat.le_trans b2 (by decide)), " ", rfl, szBig (Nat.le_trans b3 (by decide)), ?_⟩⟩
        refine ⟨.ref p, rfl, p, _, 2, .ref qq, rfl, rfl, SqT.of h, atI_nat (j := 2) rfl, qq, e, v, rfl, he, fw.2.1, fw.2.2.1, hv, fun H2 k2 => .inl ⟨spj e.words, rfl, szBig (Nat.le_trans sl (by decide)), spj e.words, rfl, szBig (Nat.le_trans (app_le b3 sl (by decide)) (show 90 ≤ 1000 by decide)), ?_⟩⟩
        obtain ⟨a1, a2, a3⟩ := add (.set x e .nil) t' p _ [] _ H2 rfl rfl (.set h he .nil) ⟨fw.1, fw.2.1, fw.2.2.1, fw.2.2.2.1, trivial⟩ rfl (head_set x e) i0 fw.2.2.2.2 fw.2.2.2.1 k2
        exact ⟨L, _, _, rfl, rfl, a1, a2, .ref p, rfl, .ref L, rfl, a3 _ rfl⟩
      | @tell p x _ t' h i0 =>
        have xl := fw.1.len
        obtain ⟨a1, a2, a3⟩ := add (.tell x .nil) t' p _ [] _ H' rfl rfl (.tell h .nil) ⟨fw.1, fw.2.1, trivial⟩ rfl (head_two "tell" x) i0 fw.2.2 fw.2.1 Kept.refl
        have b1 : (PySem.Str.empty ++ ("tell" : PySem.Str)).length ≤ 10 := by decide +kernel
        have b2 : ((PySem.Str.empty ++ ("tell" : PySem.Str)) ++ (" " : PySem.Str)).length ≤ 20 := app_le b1 (show (" " : PySem.Str).length ≤ 1 by decide +kernel) (by decide)
        refine ⟨.ref p, rfl, p, _, 0, .str "tell", rfl, rfl, SqT.of h, atI_nat (j := 0) rfl, rfl, _, rfl, ite2 (fun z => absurd z (no (by decide))) (fun _ => ?_)⟩
        refine ⟨.ref L, rfl, .inl ⟨rfl, _, SqL.of eL⟩, .ref p, rfl, p, _, 0, .str "tell", rfl, rfl, SqT.of h, atI_nat (j := 0) rfl, .inl ⟨"tell", rfl, szBig (by decide +kernel), "tell", rfl, szBig (Nat.le_trans b1 (by decide)), " ", rfl, szBig (Nat.le_trans b2 (by decide)), ?_⟩⟩
        refine ⟨.ref p, rfl, p, _, 1, .str x, rfl, rfl, SqT.of h, atI_nat (j := 1) rfl, .inl ⟨x, rfl, szBig (Nat.le_trans xl (by decide)), x, rfl, szBig (Nat.le_trans (app_le b2 xl (by decide)) (show 30 ≤ 1000 by decide)), L, _, _, rfl, rfl, a1, a2, ?_⟩⟩
        exact ⟨.ref p, rfl, .ref L, rfl, a3 _ rfl⟩
      | @ite p q1 q2 x as bs _ a b t' h h1 h2 ra rb i0 =>
        have xl := fw.1.len
        obtain ⟨a1, a2, a3⟩ := add (.ite x a b .nil) t' p _ _ _ H' rfl rfl (.ite h h1 h2 ra rb .nil) ⟨fw.1, fw.2.1, fw.2.2.1, fw.2.2.2.1, trivial⟩ rfl (head_two "if" x) i0 fw.2.2.2.2 fw.2.1 Kept.refl
        have b1 : (PySem.Str.empty ++ ("if" : PySem.Str)).length ≤ 10 := by decide +kernel
        have b2 : ((PySem.Str.empty ++ ("if" : PySem.Str)) ++ (" " : PySem.Str)).length ≤ 20 := app_le b1 (show (" " : PySem.Str).length ≤ 1 by decide +kernel) (by decide)
        refine ⟨.ref p, rfl, p, _, 0, .str "if", rfl, rfl, SqT.of h, atI_nat (j := 0) rfl, rfl, _, rfl, ite2 (fun z => absurd z (no (by decide))) (fun _ => ?_)⟩
        refine ⟨.ref L, rfl, .inl ⟨rfl, _, SqL.of eL⟩, .ref p, rfl, p, _, 0, .str "if", rfl, rfl, SqT.of h, atI_nat (j := 0) rfl, .inl ⟨"if", rfl, szBig (by decide +kernel), "if", rfl, szBig (Nat.le_trans b1 (by decide)), " ", rfl, szBig (Nat.le_trans b2 (by decide)), ?_⟩⟩
        refine ⟨.ref p, rfl, p, _, 1, .str x, rfl, rfl, SqT.of h, atI_nat (j := 1) rfl, .inl ⟨x, rfl, szBig (Nat.le_trans xl (by decide)), x, rfl, szBig (Nat.le_trans (app_le b2 xl (by decide)) (show 30 ≤ 1000 by decide)), L, _, _, rfl, rfl, a1, a2, ?_⟩⟩
        exact ⟨.ref p, rfl, .ref L, rfl, a3 _ rfl⟩
      | @rnd p q1 c as _ a t' h h1 ra i0 =>
        have hc : c < 4096 := by have := fw.1; omega
        have xl := (dec_num hc).2
        obtain ⟨a1, a2, a3⟩ := add (.rnd c a .nil) t' p _ _ _ H' rfl rfl (.rnd h h1 ra .nil) ⟨fw.1, fw.2.1, fw.2.2.1, fw.2.2.2.1, trivial⟩ rfl (head_two "round" (dec c)) i0 fw.2.2.2.2 fw.2.2.1 Kept.refl
        have b1 : (PySem.Str.empty ++ ("round" : PySem.Str)).length ≤ 10 := by decide +kernel
        have b2 : ((PySem.Str.empty ++ ("round" : PySem.Str)) ++ (" " : PySem.Str)).length ≤ 20 := app_le b1 (show (" " : PySem.Str).length ≤ 1 by decide +kernel) (by decide)
        refine ⟨.ref p, rfl, p, _, 0, .str "round", rfl, rfl, SqT.of h, atI_nat (j := 0) rfl, rfl, _, rfl, ite2 (fun z => absurd z (no (by decide))) (fun _ => ?_)⟩
        refine ⟨.ref L, rfl, .inl ⟨rfl, _, SqL.of eL⟩, .ref p, rfl, p, _, 0, .str "round", rfl, rfl, SqT.of h, atI_nat (j := 0) rfl, .inl ⟨"round", rfl, szBig (by decide +kernel), "round", rfl, szBig (Nat.le_trans b1 (by decide)), " ", rfl, szBig (Nat.le_trans b2 (by decide)), ?_⟩⟩
        refine ⟨.ref p, rfl, p, _, 1, .int (c : Int), rfl, rfl, SqT.of h, atI_nat (j := 1) rfl, .inr ⟨(c : Int), rfl, sm_log hc, dec c, rfl, szBig (Nat.le_trans (app_le b2 xl (by decide)) (show 30 ≤ 1000 by decide)), L, _, _, rfl, rfl, a1, a2, ?_⟩⟩
        exact ⟨.ref p, rfl, .ref L, rfl, a3 _ rfl⟩
    · obtain ⟨u, w, x2, rfl, htu, k1, iw, fw, eL⟩ := h
      rw [List.drop_length] at iw
      cases iw
      rw [Tr.app_nil] at htu
      subst htu
      exact q H' k1 eL
end
end K7

set_option Elab.async false
set_option linter.all false
set_option maxRecDepth 100000
set_option maxHeartbeats 4000000
namespace K7
open PySem PySem.Spec PyProof.Rows L2 TL
abbrev sProgramText : Stmt := top 23
theorem scProgramText : FnScope ["program", "wide", "inputs", "rows", "lines"] ["program"] (defScope sProgramText) := ⟨rfl, rfl, rfl, by decide +kernel, rfl, by decide +kernel, by decide +kernel⟩
/-! ### a program's text -/
theorem ok_show_all {P : Program} {w : World} {K : PySem.W.Frag} {mg : PySem.Str → Option Value} {base : Heap} {fE fW fR : Addr} {fdE fdW fdR : FuncData}
    (FR : FnP K "_show_rows" sShowRows fR fdR) (FW : FnP K "_show_within" sShowWithin fW fdW) (GE : FnOk P w K mg base CX0 1 fE fdE ["expr"] (spExText K)) (bE : Binds K fdE ["expr"] []) (kE : PySem.W.keepIn K (.ref fE) = true) (gE : mg "expr_text" = some (.ref fE))
    (bR : Binds K fdR ["rows", "lines"] []) (kR : PySem.W.keepIn K (.ref fR) = true) (gR : mg "_show_rows" = some (.ref fR)) (bW : Binds K fdW ["row", "lines"] []) (kW : PySem.W.keepIn K (.ref fW) = true) (gW : mg "_show_within" = some (.ref fW)) : ∀ n, FnOk P w K mg base CX0 (2 + 2 * n) fR fdR ["rows", "lines"] (spShowR n)
  | 0 => ok_show0 FR
  | n + 1 => ok_show1 FR GE bE kE gE (ok_within FW (ok_show_all FR FW GE bE kE gE bR kR gR bW kW gW n) bR kR gR) bW kW gW
def textOf (g : Pg) : PySem.Str := nlj (g.lines.map spj)
theorem lines_le : ∀ t : Tr, t.lines.length ≤ 3 * t.all
  | .nil => Nat.le_refl _
  | .set _ _ t => by have := lines_le t; simp only [Tr.lines, Tr.all, List.length_cons]; omega
  | .tell _ t => by have := lines_le t; simp only [Tr.lines, Tr.all, List.length_cons]; omega
  | .ite _ a b t => by
    have := lines_le a; have := lines_le b; have := lines_le t
    simp only [Tr.lines, Tr.all, List.length_cons, List.length_append]; omega
  | .rnd _ a t => by
    have := lines_le a; have := lines_le t
    simp only [Tr.lines, Tr.all, List.length_cons, List.length_append]; omega
/-- every line's words, short and few -/
def Lw (ws : List PySem.Str) : Prop := ws ≠ [] ∧ (∀ w ∈ ws, Wt w ∧ w.length ≤ 8) ∧ ws.length ≤ 6
theorem nm_two {a b : PySem.Str} (h1 : Wt a) (h2 : Wt b) (l1 : a.length ≤ 8) (l2 : b.length ≤ 8) : Lw [a, b] := ⟨by simp, fun w hw => by
  simp only [List.mem_cons, List.not_mem_nil, or_false] at hw
  rcases hw with rfl | rfl
  · exact ⟨h1, l1⟩
  · exact ⟨h2, l2⟩, by simp⟩
theorem nm_one {a : PySem.Str} (h : Nm a) : Lw [a] := ⟨by simp, fun w hw => by
  rw [List.mem_singleton.mp hw]; exact ⟨h.wt, h.len⟩, by simp⟩
theorem nm_else : Nm "else" := by unfold Nm; decide +kernel
theorem nm_end : Nm "end" := by unfold Nm; decide +kernel
theorem nm_round : Nm "round" := by unfold Nm; decide +kernel
theorem nm_wide : Nm "wide" := by unfold Nm; decide +kernel
theorem Ex.words_wt {v : Nat} (e : Ex) (hn : ∀ y ∈ e.names, Nm y) (ok : e.ok v) (hv : v ≤ 12) : ∀ w ∈ e.words, Wt w := by
  intro w hw
  rcases ex_split e hn ok hv with ⟨ks, ws, e1, e2, e3, e4, e5, e6⟩ | ⟨ks, kd, n, lo, hi, ws, e1, e2, e3, e4, e5, e6, e7, e8, _⟩
  · exact (e4 w hw).wt
  · rw [e3] at hw
    rcases List.mem_cons.mp hw with rfl | hw
    · exact (nm_word e).wt
    rcases List.mem_append.mp hw with hw | hw
    · exact (e5 w (List.mem_cons_of_mem _ hw)).wt
    · rw [List.mem_singleton.mp hw]; exact dec_wt e8
theorem Tr.lw {v : Nat} (hv : v ≤ 12) : ∀ (t : Tr) (d r : Nat), t.fine v d r → ∀ l ∈ t.lines, Lw l
  | .nil, _, _, _, l, h => by cases h
  | .set x e t, d, r, f, l, h => by
    obtain ⟨f1, f2, f3, f4, f5⟩ := f
    rcases List.mem_cons.mp h with rfl | h
    · obtain ⟨w1, w2⟩ := e.word_len f2 f3 hv
      refine ⟨by simp, fun w hw => ?_, by simp only [List.length_cons]; omega⟩
      rcases List.mem_cons.mp hw with rfl | hw
      · exact ⟨nm_set.wt, nm_set.len⟩
      rcases List.mem_cons.mp hw with rfl | hw
      · exact ⟨f1.wt, f1.len⟩
      · exact ⟨e.words_wt f2 f3 hv w hw, w1 w hw⟩
    · exact Tr.lw hv t d r f5 l h
  | .tell x t, d, r, f, l, h => by
    obtain ⟨f1, f2, f3⟩ := f
    rcases List.mem_cons.mp h with rfl | h
    · exact nm_two nm_tell.wt f1.wt nm_tell.len f1.len
    · exact Tr.lw hv t d r f3 l h
  | .ite x a b t, d, r, f, l, h => by
    obtain ⟨f1, f2, f3, f4, f5⟩ := f
    rcases List.mem_cons.mp h with rfl | h
    · exact nm_two nm_if.wt f1.wt nm_if.len f1.len
    rcases List.mem_append.mp h with h | h
    · exact Tr.lw hv a _ _ f3 l h
    rcases List.mem_cons.mp h with rfl | h
    · exact nm_one nm_else
    rcases List.mem_append.mp h with h | h
    · exact Tr.lw hv b _ _ f4 l h
    rcases List.mem_cons.mp h with rfl | h
    · exact nm_one nm_end
    · exact Tr.lw hv t _ _ f5 l h
  | .rnd n a t, d, r, f, l, h => by
    obtain ⟨f1, f2, f3, f4, f5⟩ := f
    have hn : n < 4096 := by omega
    rcases List.mem_cons.mp h with rfl | h
    · exact nm_two nm_round.wt (dec_wt hn) nm_round.len (dec_num hn).2
    rcases List.mem_append.mp h with h | h
    · exact Tr.lw hv a _ _ f4 l h
    rcases List.mem_cons.mp h with rfl | h
    · exact nm_one nm_end
    · exact Tr.lw hv t _ _ f5 l h
theorem Pg.lw {g : Pg} (f : g.fine) : ∀ l ∈ g.lines, Lw l := by
  obtain ⟨v1, v2, x4, nm, few, ft⟩ := f
  intro l h
  have hn : g.v < 4096 := by omega
  rcases List.mem_cons.mp h with rfl | h
  · exact nm_two nm_wide.wt (dec_wt hn) nm_wide.len (dec_num hn).2
  rcases List.mem_cons.mp h with rfl | h
  · refine ⟨by simp, fun w hw => ?_, by simp only [List.length_cons]; omega⟩
    rcases List.mem_cons.mp hw with rfl | hw
    · exact ⟨nm_in.wt, nm_in.len⟩
    · exact ⟨(nm w hw).wt, (nm w hw).len⟩
  · exact Tr.lw v2 g.t 1 0 ft l h
theorem Pg.few {g : Pg} (f : g.fine) : g.lines.length ≤ 200 := by
  have := lines_le g.t
  have := f.2.2.2.2.1
  simp only [Pg.lines, List.length_cons]
  omega
/-- the text shows the lines -/
theorem linesOf_text {g : Pg} (f : g.fine) : linesOf (textOf g) = g.lines := by
  have lw := Pg.lw f
  unfold textOf
  rw [linesOf_nlj (by simp [Pg.lines]) (fun t ht => by
    obtain ⟨l, hl, rfl⟩ := List.mem_map.mp ht
    exact spj_no fun w hw => ((lw l hl).2.1 w hw).1)]
  have key : ∀ ls : List (List PySem.Str), (∀ l ∈ ls, Lw l) → (ls.map spj).flatMap shown = ls := fun ls => by
    induction ls with
    | nil => intro _; rfl
    | cons l r ih =>
      intro h
      have h1 := h l List.mem_cons_self
      rw [List.map_cons, List.flatMap_cons, shown_spj (fun w hw => (h1.2.1 w hw).1) h1.1, ih fun x hx => h x (List.mem_cons_of_mem _ hx)]
      rfl
  exact key _ lw
theorem text_len {ls : List (List PySem.Str)} (h : ∀ l ∈ ls, Lw l) : ((ls.map spj).map (·.length)).sum ≤ 60 * ls.length := by
  induction ls with
  | nil => exact Nat.le_refl _
  | cons l r ih =>
    have := ih fun x hx => h x (List.mem_cons_of_mem _ hx)
    have h1 := h l List.mem_cons_self
    have := spj_len (fun w hw => (h1.2.1 w hw).2) h1.2.2
    simp only [List.map_cons, List.sum_cons, List.length_cons]
    omega
theorem sum8 {ws : List PySem.Str} (h : ∀ w ∈ ws, w.length ≤ 8) : (ws.map (·.length)).sum ≤ 8 * ws.length := by
  induction ws with
  | nil => exact Nat.le_refl _
  | cons a r ih =>
    have := ih fun y hy => h y (List.mem_cons_of_mem _ hy)
    have := h a List.mem_cons_self
    simp only [List.map_cons, List.sum_cons, List.length_cons]
    omega
def spPText (K : PySem.W.Frag) : Sp := fun vs H Q _ => ∃ (p : Addr) (g : Pg), vs = [.ref p] ∧ PgAt H p g ∧ g.fine ∧ ∀ H', Kept None H H' → Q (.str (textOf g)) H'
section
variable {P : Program} {w : World} {K : PySem.W.Frag} {mg : PySem.Str → Option Value} {base : Heap} {f fE fW fR : Addr} {fd fdE fdW fdR : FuncData} {n : Nat}
theorem ok_ptext (F : FnP K "program_text" sProgramText f fd) (GR : FnOk P w K mg base CX0 (2 + 2 * 7) fR fdR ["rows", "lines"] (spShowR 7)) (bR : Binds K fdR ["rows", "lines"] []) (kR : PySem.W.keepIn K (.ref fR) = true) (gR : mg "_show_rows" = some (.ref fR)) : FnOk P w K mg base CX0 17 f fd ["program"] (spPText K) := by
  refine F.ok (k := 16) scProgramText (fun vs H Q E h => ?_) (fun cdv A outer s H vs Q E hr h => ?_)
  · obtain ⟨p, g, rfl, _⟩ := h
    rfl
  · obtain ⟨p, ⟨v, xs, t⟩, rfl, ⟨q1, q2, rs, hp, h1, h2, it⟩, fn, q⟩ := h
    have lw := Pg.lw fn
    have few := Pg.few fn
    obtain ⟨v1, v2, x4, nm, fa, ft⟩ := fn
    dsimp only at v1 v2 x4 nm fa ft hp h1 h2 it
    refine ⟨_, PSs.nox (pss_cons (ps_asg (pv 0) (pg_tup rfl (pgs_cons (pg_name (i := 1) scProgramText.nd rfl (Or.inl rfl)) (pgs_cons (pg_name (i := 2) scProgramText.nd rfl (Or.inl rfl)) (pgs_cons (pg_name (i := 3) scProgramText.nd rfl (Or.inl rfl)) pgs_nil)))))
    (pss_cons (ps_set (i := 4) scProgramText.nd rfl (Or.inl rfl) (pe_lst (pa_cons (pe_joined (.cons pe_str (.cons (pe_fmt (pv 1)) .nil))) (pa_cons (pe_join pe_str (pe_lst (pa_cons pe_str (StX.pa_star (pv 2) pa_nil)))) pa_nil))))
    (pss_cons (ps_expr (pe_call GR hr (by rfl) gR kR bR .nil pass0 (pa_cons (pv 3) (pa_cons (pv 4) pa_nil))))
    (pss_one (ps_ret (pe_join pe_str (pv 4))))))), ?_⟩
    have szl := sizeLine_eq
    have hv : v < 4096 := by omega
    refine ⟨.ref p, rfl, p, _, rfl, SqT.of hp, rfl, .int (v : Int), [.ref q1, .ref q2], rfl, .ref q1, [.ref q2], rfl, .ref q2, [], rfl, rfl, ?_⟩
    have l8 := (dec_num hv).2
    have b1 : (PySem.Str.empty ++ ("wide " : PySem.Str)).length ≤ 10 := by decide +kernel
    refine ⟨"wide ", rfl, szBig (Nat.le_trans b1 (by decide)), .int (v : Int), rfl, .inr ⟨(v : Int), rfl, sm_log hv, dec v, rfl, szBig (Nat.le_trans (app_le b1 l8 (by decide)) (show 20 ≤ 1000 by decide)), ?_⟩⟩
    refine ⟨⟨_, rfl⟩, .ref q1, rfl, q1, _, rfl, .inl (SqT.of h1), ?_⟩
    refine ⟨by simp only [List.length_cons, List.length_append, List.length_map, List.length_nil]; omega, fun l hl => ?_⟩
    have e0 : (V.str "in" :: (xs.map V.str ++ [])) = (("in" : PySem.Str) :: xs).map V.str := by simp
    rw [e0]
    have kl : Kept None H (upd H l (.lst ((("in" : PySem.Str) :: xs).map V.str))) := Kept.refl.new hl
    have li := spj_len (fun w hw => ((lw _ (List.mem_cons_of_mem _ List.mem_cons_self)).2.1 w hw).2) (lw (("in" : PySem.Str) :: xs) (List.mem_cons_of_mem _ List.mem_cons_self)).2.2
    refine ⟨" ", l, ("in" : PySem.Str) :: xs, rfl, rfl, .inl (SqL.of upd_same), ?_, (show 2 ≤ sizeLine by decide), fun L hL => ?_⟩
    · have := sum8 (fun w hw => ((lw ((("in" : PySem.Str) :: xs)) (List.mem_cons_of_mem _ List.mem_cons_self)).2.1 w hw).2)
      rw [show (" " : PySem.Str).length = 1 from by decide +kernel]
      simp only [List.length_cons] at this ⊢
      omega
    have ew : ((PySem.Str.empty ++ ("wide " : PySem.Str)) ++ dec v) = spj ["wide", dec v] := by
      refine str_eq ?_
      rw [spj_cons, spj_one]
      show tl _ = _
      rw [tl_append, tl_append, show tl PySem.Str.empty = [] from rfl, show tl ("wide " : PySem.Str) = ("wide" : PySem.Str).cps.toList ++ [32] from by decide +kernel]
      simp
    have k2 : Kept None H (upd (upd H l (.lst ((("in" : PySem.Str) :: xs).map V.str))) L (.lst [.str ((PySem.Str.empty ++ ("wide " : PySem.Str)) ++ dec v), .str (Txt.join " " (("in" : PySem.Str) :: xs))])) := kl.new (kl.free hL)
    have hL0 := kl.free hL
    have eL : upd (upd H l (.lst ((("in" : PySem.Str) :: xs).map V.str))) L (.lst [.str ((PySem.Str.empty ++ ("wide " : PySem.Str)) ++ dec v), .str (Txt.join " " (("in" : PySem.Str) :: xs))]) L = some (.lst ([spj ["wide", dec v], spj (("in" : PySem.Str) :: xs)].map V.str)) := by rw [upd_same, ew]; rfl
    generalize upd (upd H l (.lst ((("in" : PySem.Str) :: xs).map V.str))) L (.lst [.str ((PySem.Str.empty ++ ("wide " : PySem.Str)) ++ dec v), .str (Txt.join " " (("in" : PySem.Str) :: xs))]) = H2 at k2 eL ⊢
    simp only [Pg.lines, List.length_cons] at few
    refine ⟨.ref q2, rfl, .ref L, rfl, q2, L, rs, t, _, v, 1, 0, rfl, rfl, by decide, k2.tup h2 fun z => z, it.stay k2 fun _ _ _ z => z, ft, v2, eL, by simp only [List.length_cons, List.length_nil]; omega, fun H3 k3 e3 => ?_⟩
    have tlen := text_len lw
    refine ⟨⟨_, rfl⟩, .ref L, rfl, "\n", L, _, rfl, rfl, .inl (SqL.of e3), ?_, ?_⟩
    · rw [show ("\n" : PySem.Str).length = 1 from by decide +kernel]
      simp only [Pg.lines, List.map_cons, List.sum_cons, List.length_cons, List.cons_append, List.nil_append, List.length_map] at tlen ⊢
      omega
    · refine q H3 fun b o e _ => ?_
      refine ko_trans (k2 b o e fun z => z) fun u eu => k3 b u eu ?_
      exact ne_of_none e hL0
end
end K7

set_option Elab.async false
set_option linter.all false
set_option maxRecDepth 100000
set_option maxHeartbeats 4000000
namespace K7
open PySem PySem.Spec PyProof.Rows L2
/-! ### a draw and a new list beside it -/
theorem Dr.apart {H : Hp} {d c p : Addr} {ns : List Int} {n : Nat} (D : Dr H d c ns n) (h : H p = none) : ¬ p = d := fun e => by
  obtain ⟨_, _, _, z, _⟩ := D.at_
  rw [e, z] at h
  cases h
theorem Dr.apartC {H : Hp} {d c p : Addr} {ns : List Int} {n : Nat} (D : Dr H d c ns n) (h : H p = none) : ¬ p = c := fun z => by
  rw [z, D.cs] at h
  cases h
abbrev At2 (d L : Addr) : Addr → Prop := fun b => b = d ∨ b = L
theorem Kept.drop {H H3 H' : Hp} {d L : Addr} (a : Kept (At d) H H3) (n : H L = none) (b : Kept (At2 d L) H3 H') : Kept (At d) H H' := fun x o e hx => by
  refine ko_trans (a x o e hx) fun u q => b x u q ?_
  rintro (z | z)
  · exact hx z
  · exact ne_of_none e n z
theorem Kept.sql2 {K : PySem.W.Frag} {H H' : Hp} {d L p : Addr} {xs : List V} (k : Kept (At2 d L) H H') (n : H L = none) (nd : ¬ p = d) (h : SqL K H p xs) : SqL K H' p xs := by
  have nl : ∀ {o}, H p = some o → ¬ At2 d L p := fun {o} e z => by
    rcases z with z | z
    · exact nd z
    · exact ne_of_none e n z
  rcases h with (h | ⟨o, h⟩) | h
  · exact .inl (.inl (k.lst h (nl h)))
  · exact .inl (.inr ⟨o, k.frz h (nl h)⟩)
  · exact .inr h
theorem Dr.keep {H : Hp} {d c p : Addr} {o : HO} {ns : List Int} {n : Nat} (D : Dr H d c ns n) (h1 : p ≠ d) (h2 : p ≠ c) : Dr (L2.upd H p o) d c ns n := by
  obtain ⟨a, l, u, h, r⟩ := D.at_
  exact ⟨⟨a, l, u, by rw [upd_ne (Ne.symm h1)]; exact h, r⟩, by rw [upd_ne (Ne.symm h2)]; exact D.cs, D.ne⟩
end K7

set_option Elab.async false
set_option linter.all false
set_option maxRecDepth 100000
set_option maxHeartbeats 4000000
namespace K7
open PySem PySem.Spec PyProof.Rows L2 TL
/-! ### names and expressions drawn -/
abbrev sLName : Stmt := top 30
theorem scLName : FnScope ["draw", "words", "size", "k"] ["draw"] (defScope sLName) := ⟨rfl, rfl, rfl, by decide +kernel, rfl, by decide +kernel, by decide +kernel⟩
def lettersZ : PySem.Str := "abcdefghijklmnopqrstuvwxyz"
theorem letters_list : lettersZ.cps.toList = List.range' 97 26 := by decide +kernel
def one (e : Nat) : PySem.Str := ⟨#[e]⟩
def ov (e : Nat) : V := .str (one e)
theorem ones_sum (es : List Nat) : ((es.map one).map (·.length)).sum = es.length := by
  induction es with
  | nil => rfl
  | cons e es ih => simp only [List.map_cons, List.sum_cons, List.length_cons] at ih ⊢; rw [ih]; show 1 + es.length = es.length + 1; omega
theorem ones_v (es : List Nat) : (es.map one).map V.str = es.map ov := by rw [List.map_map]; rfl
theorem joinL_ones : ∀ es : List Nat, joinL [] ((es.map one).map fun z => z.cps.toList) = es
  | [] => rfl
  | [e] => rfl
  | e :: x :: r => by
    have ih := joinL_ones (x :: r)
    show [e] ++ ([] ++ joinL [] (((x :: r).map one).map fun z => z.cps.toList)) = _
    rw [ih]
    rfl
theorem ones_mk (es : List Nat) : Txt.join (PySem.Str.ofString "") (es.map one) = mkS es := by
  refine str_eq ?_
  rw [join_list, mkS_list, show (PySem.Str.ofString "").cps.toList = [] from by decide +kernel]
  exact joinL_ones es
theorem low_ok : ∀ c, c < 123 → 97 ≤ c → (!decide ([c] < ("a" : PySem.Str).cps.toList) && !decide (("z" : PySem.Str).cps.toList < [c])) = true := by decide +kernel
theorem nm_mk {es : List Nat} (h1 : 1 ≤ es.length) (h2 : es.length ≤ 8) (h : ∀ e ∈ es, 97 ≤ e ∧ e ≤ 122) : Nm (mkS es) := by
  unfold Nm nameB
  dsimp only
  rw [mkS_len, mkS_list, decide_eq_true h1, decide_eq_true h2]
  show lowB es = true
  unfold lowB
  exact List.all_eq_true.mpr fun c hc => low_ok c (by have := h c hc; omega) (h c hc).1
theorem at_nat {xs : List V} {r : Int} {m : Nat} (h0 : 0 ≤ r) (h1 : r < (m : Int)) (hm : xs.length = m) (Pv : V → Prop) (h : ∀ x ∈ xs, Pv x) : ∃ x, atI xs r = some x ∧ Pv x := by
  obtain ⟨j, rfl⟩ : ∃ j : Nat, r = (j : Int) := ⟨r.toNat, by omega⟩
  have hj : j < xs.length := by omega
  exact ⟨xs[j], atI_nat (j := j) (List.getElem?_eq_getElem hj), h _ (List.getElem_mem hj)⟩
theorem wordsZ_nm : ∀ x ∈ (["wide", "in", "set", "tell", "if", "else", "end", "round", "number", "copy", "add", "pick", "up", "same"] : List PySem.Str), nameB (.str x) = true := by decide +kernel
def spLName : Sp := fun vs H Q _ => ∃ (d c : Addr) (ns : List Int) (n : Nat), vs = [.ref d] ∧ Dr H d c ns n ∧ n ≤ 900000000 ∧ ∀ (x : PySem.Str) H', Nm x → Kept (At d) H H' → Dr H' d c ns (n + 11) → Q (.str x) H'
section
variable {P : Program} {w : World} {K : PySem.W.Frag} {mg : PySem.Str → Option Value} {base : Heap} {f fN fM : Addr} {fd fdN fdM : FuncData}
theorem ok_lname (F : FnP K "_law_name" sLName f fd) (GN : FnOk P w K mg base CX0 2 fN fdN ["draw", "many"] spNext) (bN : Binds K fdN ["draw", "many"] []) (kN : PySem.W.keepIn K (.ref fN) = true) (gN : mg "_law_next" = some (.ref fN)) (m_range : mg "range" = none) : FnOk P w K mg base CX0 3 f fd ["draw"] spLName := by
  refine F.ok (k := 2) scLName (fun vs H Q E h => ?_) (fun cdv A outer s H vs Q E hr h => ?_)
  · obtain ⟨d, c, ns, n, rfl, _⟩ := h
    rfl
  · obtain ⟨d, c, ns, n, rfl, D, hn, q⟩ := h
    refine ⟨_, PSs.nox (pss_cons (ps_set (i := 1) scLName.nd rfl (Or.inl rfl) (pe_lst (pa_cons pe_str (pa_cons pe_str (pa_cons pe_str (pa_cons pe_str (pa_cons pe_str (pa_cons pe_str (pa_cons pe_str (pa_cons pe_str (pa_cons pe_str (pa_cons pe_str (pa_cons pe_str (pa_cons pe_str (pa_cons pe_str (pa_cons pe_str pa_nil))))))))))))))))
    (pss_cons (ps_if (pt_cmpR op_eq (pe_call GN hr (by rfl) gN kN bN .nil pass0 (pa_cons (pv 0) (pa_cons pe_int pa_nil))) pe_int (nomark _))
      (pss_one (ps_ret (pe_ix ix_list (pv 1) (pe_call GN hr (by rfl) gN kN bN .nil pass0 (pa_cons (pv 0) (pa_cons pe_int pa_nil))) (fun _ _ => rfl))))
      pss_nil)
    (pss_cons (ps_set (i := 2) scLName.nd rfl (Or.inl rfl) (pe_ix ix_list (pe_lst (pa_cons pe_int (pa_cons pe_int (pa_cons pe_int (pa_cons (pe_op op_add pe_int (pe_call GN hr (by rfl) gN kN bN .nil pass0 (pa_cons (pv 0) (pa_cons pe_int pa_nil)))) pa_nil))))) (pe_call GN hr (by rfl) gN kN bN .nil pass0 (pa_cons (pv 0) (pa_cons pe_int pa_nil))) (fun _ _ => rfl)))
    (pss_one (ps_ret (pe_join pe_str (pe_lc (own := [("k", 3)]) (g := gName 3) (tt := tYes) rfl scLName.nd (pi_range1 rfl m_range (pa_cons (pv 2) pa_nil)) (blkOk_by (own := [("k", 3)]) (N := ["draw", "words", "size", "k"]) (sc := defScope sLName) (by decide +kernel)) (by exact (fun _ _ _ _ _ => (pg_name (i := 3) scLName.nd rfl (Or.inl rfl)))) (by exact (fun _ _ _ _ _ => pts_nil)) (by exact (fun _ _ _ _ _ => (pe_ix ix_str pe_str (pe_call GN hr (by rfl) gN kN bN .nil pass0 (pa_cons (pv 0) (pa_cons pe_int pa_nil))) (fun _ _ => rfl))))))))))), ?_⟩
    have szl := sizeLine_eq
    refine ⟨(show 14 ≤ sizeLine by decide), fun W hW => ?_⟩
    have k1 : Kept (At d) H (upd H W (.lst [.str "wide", .str "in", .str "set", .str "tell", .str "if", .str "else", .str "end", .str "round", .str "number", .str "copy", .str "add", .str "pick", .str "up", .str "same"])) := Kept.refl.new hW
    have D1 := D.new hW (o := .lst [.str "wide", .str "in", .str "set", .str "tell", .str "if", .str "else", .str "end", .str "round", .str "number", .str "copy", .str "add", .str "pick", .str "up", .str "same"])
    have eW : upd H W (.lst [.str "wide", .str "in", .str "set", .str "tell", .str "if", .str "else", .str "end", .str "round", .str "number", .str "copy", .str "add", .str "pick", .str "up", .str "same"]) W = some (.lst [.str "wide", .str "in", .str "set", .str "tell", .str "if", .str "else", .str "end", .str "round", .str "number", .str "copy", .str "add", .str "pick", .str "up", .str "same"]) := upd_same
    have hWd := D.apart hW
    generalize upd H W (.lst [.str "wide", .str "in", .str "set", .str "tell", .str "if", .str "else", .str "end", .str "round", .str "number", .str "copy", .str "add", .str "pick", .str "up", .str "same"]) = H1 at k1 D1 eW ⊢
    refine ⟨.ref d, rfl, d, c, ns, n, 5, rfl, D1, by omega, by decide, by decide, fun r1 H2 a1 b1 k2 D2 => ⟨rfl, _, rfl, ite2 (fun e => ?_) (fun e => ?_)⟩⟩
    · refine ⟨.ref W, rfl, .ref d, rfl, d, c, ns, _, 14, rfl, D2, by omega, by decide, by decide, fun r2 H3 a2 b2 k3 D3 => ?_⟩
      obtain ⟨x, hx, z, rfl, nz⟩ : ∃ x, atI ([.str "wide", .str "in", .str "set", .str "tell", .str "if", .str "else", .str "end", .str "round", .str "number", .str "copy", .str "add", .str "pick", .str "up", .str "same"] : List V) r2 = some x ∧ ∃ z : PySem.Str, x = .str z ∧ Nm z := at_nat (m := 14) a2 b2 rfl _ (fun x hx => by
        obtain ⟨z, hz, rfl⟩ := List.mem_map.mp (show x ∈ (["wide", "in", "set", "tell", "if", "else", "end", "round", "number", "copy", "add", "pick", "up", "same"] : List PySem.Str).map V.str from hx)
        exact ⟨z, rfl, wordsZ_nm z hz⟩)
      exact ⟨W, _, r2, .str z, rfl, rfl, SqL.of ((k2.trans k3).lst eW hWd), hx, q z H3 nz ((k1.trans k2).trans k3) (D3.more (by omega))⟩
    · refine ⟨.ref d, rfl, d, c, ns, _, 8, rfl, D2, by omega, by decide, by decide, fun r2 H3 a2 b2 k3 D3 => ?_⟩
      refine ⟨1, r2, rfl, rfl, (show 4 ≤ sizeLine by decide), fun p hp => ?_⟩
      have kp : Kept (At d) H (upd H3 p (.lst [.int 1, .int 2, .int 8, .int (1 + r2)])) := ((k1.trans k2).trans k3).nu D3 hp
      have Dp := D3.new hp (o := .lst [.int 1, .int 2, .int 8, .int (1 + r2)])
      refine ⟨.ref d, rfl, d, c, ns, _, 4, rfl, Dp, by omega, by decide, by decide, fun r3 H4 a3 b3 k4 D4 => ?_⟩
      obtain ⟨x, hx, sz, rfl, g0, g1⟩ : ∃ x, atI [V.int 1, .int 2, .int 8, .int (1 + r2)] r3 = some x ∧ ∃ m : Int, x = .int m ∧ 1 ≤ m ∧ m ≤ 8 := at_nat (m := 4) a3 b3 rfl _ (fun x hx => by
        simp only [List.mem_cons, List.not_mem_nil, or_false] at hx
        rcases hx with rfl | rfl | rfl | rfl
        · exact ⟨_, rfl, by omega, by omega⟩
        · exact ⟨_, rfl, by omega, by omega⟩
        · exact ⟨_, rfl, by omega, by omega⟩
        · exact ⟨_, rfl, by omega, by omega⟩)
      refine ⟨p, _, r3, .int sz, rfl, rfl, SqL.of (k4.lst upd_same (D3.apart hp)), hx, ?_⟩
      have kB := kp.trans k4
      clear hx k1 k2 k3 k4 D1 D2 D3 Dp kp
      refine ⟨⟨_, rfl⟩, .int sz, rfl, sz, rfl, by omega, by omega, fun L hL => ?_⟩
      have hLH : H L = none := At.free kB D4 hL
      have hLd : ¬ L = d := D4.apart hL
      have hLc := D4.apartC hL
      refine lc_range (lo := 0) (n := sz.toNat) (fun i H' => Kept (At2 d L) H4 H' ∧ Dr H' d c ns (n + 3 + i) ∧ ∃ es : List Nat, es.length = i ∧ H' L = some (.lst (es.map ov)) ∧ ∀ e ∈ es, 97 ≤ e ∧ e ≤ 122)
        ⟨Kept.refl.upd (.inr rfl), D4.keep hLd hLc, [], rfl, upd_same, by simp⟩ (fun i H' hi h => ?_) (fun H' h => ?_)
      · obtain ⟨ki, Di, es, e1, e2, e3⟩ := h
        refine ⟨rfl, ?_⟩
        unfold tYes
        dsimp only
        rw [if_pos rfl]
        refine ⟨.ref d, rfl, d, c, ns, _, 26, rfl, Di, by omega, by decide, by decide, fun r H4 r0 r1' kr Dr' => ?_⟩
        obtain ⟨jj, rfl⟩ : ∃ jj : Nat, r = (jj : Int) := ⟨r.toNat, by omega⟩
        have hjj : jj < 26 := by omega
        have hat : lettersZ.cps.toList[jj]? = some (97 + jj) := by
          rw [letters_list, List.getElem?_range' hjj, Nat.one_mul]
        have eL := kr.lst e2 hLd
        refine ⟨lettersZ, _, 97 + jj, rfl, rfl, by rw [len_list, letters_list]; simp; omega, atI_nat (j := jj) hat, es.map ov, eL, by rw [List.length_map]; omega, ?_, ?_, es ++ [97 + jj], by rw [List.length_append, e1]; rfl, by rw [upd_same, List.map_append]; rfl, fun e he => ?_⟩
        · exact (ki.trans (kr.weak fun b hb => .inl hb)).upd (.inr rfl)
        · exact Dr'.keep hLd hLc
        · rcases List.mem_append.mp he with h | h
          · exact e3 e h
          · rw [List.mem_singleton.mp h]; omega
      · obtain ⟨ki, Di, es, e1, e2, e3⟩ := h
        have kC : Kept (At d) H H' := kB.drop hLH ki
        refine ⟨_, L, es.map one, rfl, rfl, .inl (SqL.of (by rw [ones_v]; exact e2)), by rw [ones_sum, List.length_map]; show es.length + es.length * 0 ≤ 16777216; omega, ?_⟩
        rw [ones_mk]
        exact q (mkS es) H' (nm_mk (by omega) (by omega) e3) kC (Di.more (by omega))
end
end K7

set_option Elab.async false
set_option linter.all false
set_option maxRecDepth 100000
set_option maxHeartbeats 4000000
namespace K7
open PySem PySem.Spec PyProof.Rows L2 TL
abbrev sLExpr : Stmt := top 31
theorem scLExpr : FnScope ["draw", "wide", "words", "word", "k"] ["draw", "wide"] (defScope sLExpr) := ⟨rfl, rfl, rfl, by decide +kernel, rfl, by decide +kernel, by decide +kernel⟩
def words12 : List V := [.str "number", .str "copy", .str "add", .str "less", .str "and", .str "or", .str "unlike", .str "same", .str "below", .str "up", .str "down", .str "pick"]
def manyD : List (Key × V) := [(Sum.inr "copy", .int 1), (Sum.inr "pick", .int 3)]
def Tail (z : PySem.Str) : Prop := ∃ m : Nat, (valV (mergeK [] manyD) (Sum.inr z)).getD (.int 2) = .int (m : Int) ∧ 1 ≤ m ∧ m ≤ 3 ∧ ∀ ys : List PySem.Str, ys.length = m → ∃ ex : Ex, ex.vs = .str z :: ys.map V.str ∧ (∀ v, ex.ok v) ∧ ∀ y ∈ ex.names, y ∈ ys
theorem tail_copy : Tail "copy" := ⟨1, rfl, by decide, by decide, fun ys h => by
  match ys, h with
  | [y], _ => exact ⟨.copy y, rfl, fun _ => trivial, fun _ h => h⟩⟩
theorem tail_op (o : Op) : Tail o.name := ⟨2, by cases o <;> rfl, by decide, by decide, fun ys h => by
  match ys, h with
  | [y, z], _ => exact ⟨.two o y z, rfl, fun _ => trivial, fun _ h => h⟩⟩
theorem tail_pick : Tail "pick" := ⟨3, rfl, by decide, by decide, fun ys h => by
  match ys, h with
  | [c, y, z], _ => exact ⟨.pick c y z, rfl, fun _ => trivial, fun _ h => h⟩⟩
theorem word_of {r : Nat} (h : r < 12) : ∃ z : PySem.Str, words12[r]? = some (.str z) ∧ (z = "number" ∨ (z = "up" ∨ z = "down") ∨ (z ≠ "number" ∧ inV (.str z) [.str "up", .str "down"] = false ∧ Tail z)) := by
  rcases (show r = 0 ∨ r = 1 ∨ r = 2 ∨ r = 3 ∨ r = 4 ∨ r = 5 ∨ r = 6 ∨ r = 7 ∨ r = 8 ∨ r = 9 ∨ r = 10 ∨ r = 11 by omega) with rfl | rfl | rfl | rfl | rfl | rfl | rfl | rfl | rfl | rfl | rfl | rfl
  · exact ⟨_, rfl, .inl rfl⟩
  · exact ⟨_, rfl, .inr (.inr ⟨by decide, rfl, tail_copy⟩)⟩
  · exact ⟨_, rfl, .inr (.inr ⟨by decide, rfl, tail_op .add⟩)⟩
  · exact ⟨_, rfl, .inr (.inr ⟨by decide, rfl, tail_op .less⟩)⟩
  · exact ⟨_, rfl, .inr (.inr ⟨by decide, rfl, tail_op .and⟩)⟩
  · exact ⟨_, rfl, .inr (.inr ⟨by decide, rfl, tail_op .or⟩)⟩
  · exact ⟨_, rfl, .inr (.inr ⟨by decide, rfl, tail_op .unlike⟩)⟩
  · exact ⟨_, rfl, .inr (.inr ⟨by decide, rfl, tail_op .same⟩)⟩
  · exact ⟨_, rfl, .inr (.inr ⟨by decide, rfl, tail_op .below⟩)⟩
  · exact ⟨_, rfl, .inr (.inl (.inl rfl))⟩
  · exact ⟨_, rfl, .inr (.inl (.inr rfl))⟩
  · exact ⟨_, rfl, .inr (.inr ⟨by decide, rfl, tail_pick⟩)⟩
def spLExpr : Sp := fun vs H Q _ => ∃ (d c : Addr) (ns : List Int) (n v : Nat), vs = [.ref d, .int (v : Int)] ∧ Dr H d c ns n ∧ n ≤ 800000000 ∧ 1 ≤ v ∧ v ≤ 12 ∧
  ∀ (e : Ex) (p : Addr) H', e.ok v → (∀ x ∈ e.names, Nm x) → Kept (At d) H H' → Dr H' d c ns (n + 50) → H' p = some (.tup e.vs) → Q (.ref p) H'
section
variable {P : Program} {w : World} {K : PySem.W.Frag} {mg : PySem.Str → Option Value} {base : Heap} {f fN fM : Addr} {fd fdN fdM : FuncData}
theorem ok_lexpr (F : FnP K "_law_expr" sLExpr f fd) (GN : FnOk P w K mg base CX0 2 fN fdN ["draw", "many"] spNext) (bN : Binds K fdN ["draw", "many"] []) (kN : PySem.W.keepIn K (.ref fN) = true) (gN : mg "_law_next" = some (.ref fN))
    (GM : FnOk P w K mg base CX0 3 fM fdM ["draw"] spLName) (bM : Binds K fdM ["draw"] []) (kM : PySem.W.keepIn K (.ref fM) = true) (gM : mg "_law_name" = some (.ref fM)) (m_range : mg "range" = none) (m_tuple : mg "tuple" = none) : FnOk P w K mg base CX0 4 f fd ["draw", "wide"] spLExpr := by
  refine F.ok (k := 3) scLExpr (fun vs H Q E h => ?_) (fun cdv A outer s H vs Q E hr h => ?_)
  · obtain ⟨d, c, ns, n, v, rfl, _⟩ := h
    rfl
  · obtain ⟨d, c, ns, n, v, rfl, D, hn, w1, w2, q⟩ := h
    have hu := hu_of hr
    have GN3 := GN.mono (show 2 ≤ 3 by decide)
    refine ⟨_, PSs.nox (pss_cons (ps_set (i := 2) scLExpr.nd rfl (Or.inl rfl) (pe_lst (pa_cons pe_str (pa_cons pe_str (pa_cons pe_str (pa_cons pe_str (pa_cons pe_str (pa_cons pe_str (pa_cons pe_str (pa_cons pe_str (pa_cons pe_str (pa_cons pe_str (pa_cons pe_str (pa_cons pe_str pa_nil))))))))))))))
    (pss_cons (ps_set (i := 3) scLExpr.nd rfl (Or.inl rfl) (pe_ix ix_list (pv 2) (pe_call GN3 hr (by rfl) gN kN bN .nil pass0 (pa_cons (pv 0) (pa_cons pe_int pa_nil))) (fun _ _ => rfl)))
    (pss_cons (ps_if (pt_cmpR op_eq (pv 3) pe_str (nomark _))
      (pss_one (ps_ret (pe_tup (pa_cons (pv 3) (pa_cons (pe_ix ix_list (pe_lst (pa_cons pe_int (pa_cons (pe_op op_sub (pe_op n_bit pe_int (pv 1)) pe_int) (pa_cons (pe_call GN3 hr (by rfl) gN kN bN .nil pass0 (pa_cons (pv 0) (pa_cons (pe_op n_bit pe_int (pv 1)) pa_nil))) pa_nil)))) (pe_call GN3 hr (by rfl) gN kN bN .nil pass0 (pa_cons (pv 0) (pa_cons pe_int pa_nil))) (fun _ _ => rfl)) pa_nil)))))
      pss_nil)
    (pss_cons (ps_if (pt_cmpR op_in_seq (pv 3) (pe_tup (pa_cons pe_str (pa_cons pe_str pa_nil))) (by rfl))
      (pss_one (ps_ret (pe_tup (pa_cons (pv 3) (pa_cons (pe_call GM hr (by rfl) gM kM bM .nil pass0 (pa_cons (pv 0) pa_nil)) (pa_cons (pe_ix ix_list (pe_lst (pa_cons pe_int (pa_cons pe_int (pa_cons (pe_call GN3 hr (by rfl) gN kN bN .nil pass0 (pa_cons (pv 0) (pa_cons pe_int pa_nil))) pa_nil)))) (pe_call GN3 hr (by rfl) gN kN bN .nil pass0 (pa_cons (pv 0) (pa_cons pe_int pa_nil))) (fun _ _ => rfl)) pa_nil))))))
      pss_nil)
    (pss_one (ps_ret (pe_op op_catT (pe_tup (pa_cons (pv 3) pa_nil)) (pe_tupleOf (by rfl) m_tuple (pe_lc (own := [("k", 4)]) (g := gName 4) (tt := tYes) rfl scLExpr.nd (pi_range1 rfl m_range (pa_cons (pe_dget2 hu (pe_disp (pps_cons pe_str pe_int (pps_cons pe_str pe_int pps_nil)) (by rfl) (by rfl) (fun z => by cases z) (by decide)) (pv 3) pe_int ⟨rfl, rfl, rfl, rfl⟩) pa_nil)) (blkOk_by (own := [("k", 4)]) (N := ["draw", "wide", "words", "word", "k"]) (sc := defScope sLExpr) (by decide +kernel)) (by exact (fun _ _ _ _ _ => (pg_name (i := 4) scLExpr.nd rfl (Or.inl rfl)))) (by exact (fun _ _ _ _ _ => pts_nil)) (by exact (fun _ _ _ _ _ => (pe_call GM hr (by rfl) gM kM bM .nil pass0 (pa_cons (pv 0) pa_nil))))))))))))), ?_⟩
    have szl := sizeLine_eq
    have no : ∀ {y z : PySem.Str}, y ≠ z → ¬ decide (V.str y = V.str z) = true := fun h e => h (V.str.inj (of_decide_eq_true e))
    refine ⟨(show 12 ≤ sizeLine by decide), fun W hW => ?_⟩
    have k1 : Kept (At d) H (upd H W (.lst words12)) := Kept.refl.new hW
    have D1 : Dr (upd H W (.lst words12)) d c ns n := D.new hW
    have eW : upd H W (.lst words12) W = some (.lst words12) := upd_same
    have hWd := D.apart hW
    generalize hH1 : upd H W (.lst words12) = H1 at k1 D1 eW
    refine (?_ : _)
    rw [show upd H W (.lst [.str "number", .str "copy", .str "add", .str "less", .str "and", .str "or", .str "unlike", .str "same", .str "below", .str "up", .str "down", .str "pick"]) = H1 from hH1]
    refine ⟨.ref W, rfl, .ref d, rfl, d, c, ns, n, 12, rfl, D1, by omega, by decide, by decide, fun r H2 a0 a1 k2 D2 => ?_⟩
    obtain ⟨r, rfl⟩ := Int.eq_ofNat_of_zero_le a0
    obtain ⟨z, hz, hw⟩ := word_of (r := r) (by omega)
    refine ⟨W, _, r, .str z, rfl, rfl, SqL.of (k2.lst eW hWd), atI_nat hz, ?_⟩
    have kB := k1.trans k2
    have tl : 2 ^ v ≤ 4096 := Nat.pow_le_pow_right (n := 2) (i := v) (j := 12) (by decide) w2
    have tp := Nat.two_pow_pos v
    clear hH1
    rcases hw with rfl | hw | ⟨hn1, hin, m, hm, m1, m3, hta⟩
    · refine ⟨.str "number", rfl, rfl, _, rfl, ite2 (fun _ => ?_) (fun y => absurd (decide_eq_true rfl) y)⟩
      refine ⟨.str "number", rfl, .int v, rfl, v, rfl, rfl, by omega, ((2 ^ v : Nat) : Int), 1, rfl, rfl, .ref d, rfl, .int v, rfl, v, rfl, rfl, by omega, d, c, ns, _, ((2 ^ v : Nat) : Int), rfl, D2, by omega, by generalize 2 ^ v = u at tl tp ⊢; omega, by generalize 2 ^ v = u at tl tp ⊢; omega, fun r5 H5 b0 b1 k5 D5 => ⟨(show 3 ≤ sizeLine by decide), fun p hp => ?_⟩⟩
      refine ⟨.ref d, rfl, d, c, ns, _, 3, rfl, D5.new hp, by omega, by decide, by decide, fun r6 H6 c0 c1 k6 D6 => ?_⟩
      obtain ⟨x, hx, kk, rfl, hk⟩ : ∃ x, atI [V.int 0, .int (((2 ^ v : Nat) : Int) - 1), .int r5] r6 = some x ∧ ∃ m : Nat, x = .int (m : Int) ∧ m < 2 ^ v := at_nat (m := 3) c0 c1 rfl _ (fun x hx => by
        simp only [List.mem_cons, List.not_mem_nil, or_false] at hx
        rcases hx with rfl | rfl | rfl
        · exact ⟨0, rfl, tp⟩
        · exact ⟨2 ^ v - 1, by rw [show ((2 ^ v : Nat) : Int) - 1 = ((2 ^ v - 1 : Nat) : Int) by omega], by omega⟩
        · exact ⟨r5.toNat, by rw [Int.toNat_of_nonneg b0], by omega⟩)
      refine ⟨p, _, r6, .int (kk : Int), rfl, rfl, SqL.of (k6.lst upd_same (D5.apart hp)), hx, (show 2 ≤ sizeLine by decide), fun o ho => ?_⟩
      have kZ := ((kB.trans k5).nu D5 hp).trans k6
      exact q (.num kk) o _ hk (fun _ h => by cases h) (kZ.nu D6 ho) ((D6.new ho).more (by omega)) upd_same
    · have hud : z ≠ "number" ∧ inV (.str z) [.str "up", .str "down"] = true ∧ ∀ (y : PySem.Str) (kk : Nat), kk ≤ 11 → ∃ ex : Ex, ex.vs = [.str z, .str y, .int (kk : Int)] ∧ Ex.ok v ex ∧ ∀ x ∈ ex.names, x = y := by
        rcases hw with rfl | rfl
        · exact ⟨by decide, rfl, fun y kk hk => ⟨.up y kk, rfl, hk, fun x hx => List.mem_singleton.mp hx⟩⟩
        · exact ⟨by decide, rfl, fun y kk hk => ⟨.down y kk, rfl, hk, fun x hx => List.mem_singleton.mp hx⟩⟩
      obtain ⟨hn1, hin, hex⟩ := hud
      refine ⟨.str z, rfl, rfl, _, rfl, ite2 (fun y => absurd y (no hn1)) (fun _ => ?_)⟩
      refine ⟨.str z, rfl, (show 2 ≤ sizeLine by decide), fun t ht => ⟨t, _, rfl, .inr (SqT.of upd_same), rfl, rfl, _, rfl, ite2 (fun _ => ?_) (fun y => absurd hin y)⟩⟩
      have kT : Kept (At d) H (upd H2 t (.tup [.str "up", .str "down"])) := kB.nu D2 ht
      have DT : Dr (upd H2 t (.tup [.str "up", .str "down"])) d c ns (n + 1) := D2.new ht
      generalize upd H2 t (.tup [.str "up", .str "down"]) = H4 at kT DT ⊢
      refine ⟨.str z, rfl, .ref d, rfl, d, c, ns, _, rfl, DT, by omega, fun y H5 ny k5 D5 => ?_⟩
      refine ⟨.ref d, rfl, d, c, ns, _, 12, rfl, D5, by omega, by decide, by decide, fun r6 H6 c0 c1 k6 D6 => ⟨(show 3 ≤ sizeLine by decide), fun p hp => ?_⟩⟩
      refine ⟨.ref d, rfl, d, c, ns, _, 3, rfl, D6.new hp, by omega, by decide, by decide, fun r7 H7 d0 d1 k7 D7 => ?_⟩
      obtain ⟨x, hx, kk, rfl, hk⟩ : ∃ x, atI [V.int 0, .int 11, .int r6] r7 = some x ∧ ∃ m : Nat, x = .int (m : Int) ∧ m ≤ 11 := at_nat (m := 3) d0 d1 rfl _ (fun x hx => by
        simp only [List.mem_cons, List.not_mem_nil, or_false] at hx
        rcases hx with rfl | rfl | rfl
        · exact ⟨0, rfl, by decide⟩
        · exact ⟨11, rfl, by decide⟩
        · exact ⟨r6.toNat, by rw [Int.toNat_of_nonneg c0], by omega⟩)
      refine ⟨p, _, r7, .int (kk : Int), rfl, rfl, SqL.of (k7.lst upd_same (D6.apart hp)), hx, (show 3 ≤ sizeLine by decide), fun o ho => ?_⟩
      obtain ⟨ex, hvs, hok, hnm⟩ := hex y kk hk
      have kZ := (((kT.trans k5).trans k6).nu D6 hp).trans k7
      exact q ex o _ hok (fun x hx => by rw [hnm x hx]; exact ny) (kZ.nu D7 ho) ((D7.new ho).more (by omega)) (by rw [upd_same, hvs])
    · refine ⟨.str z, rfl, rfl, _, rfl, ite2 (fun y => absurd y (no hn1)) (fun _ => ?_)⟩
      refine ⟨.str z, rfl, (show 2 ≤ sizeLine by decide), fun t ht => ⟨t, _, rfl, .inr (SqT.of upd_same), rfl, rfl, _, rfl, ite2 (fun y => absurd (hin.symm.trans y) (by decide)) (fun _ => ?_)⟩⟩
      have kT : Kept (At d) H (upd H2 t (.tup [.str "up", .str "down"])) := kB.nu D2 ht
      have DT : Dr (upd H2 t (.tup [.str "up", .str "down"])) d c ns (n + 1) := D2.new ht
      generalize upd H2 t (.tup [.str "up", .str "down"]) = H4 at kT DT ⊢
      refine ⟨.str z, rfl, (show 1 ≤ sizeLine by decide), fun t2 ht2 => ?_⟩
      have kW : Kept (At d) H (upd H4 t2 (.tup [.str z])) := kT.nu DT ht2
      have DW : Dr (upd H4 t2 (.tup [.str z])) d c ns (n + 1) := DT.new ht2
      have et2 : upd H4 t2 (.tup [.str z]) t2 = some (.tup [.str z]) := upd_same
      generalize upd H4 t2 (.tup [.str z]) = H4' at kW DW et2 ⊢
      refine fun u hu4 => ?_
      refine ⟨upd_same, manyD, rfl, (show 2 ≤ 15 by decide), u, rfl, .inl ⟨_, .inl upd_same⟩, .str z, rfl, valV (mergeK [] manyD) (Sum.inr z), DGet.k (k := Sum.inr z) upd_same, ?_⟩
      rw [hm]
      have kU : Kept (At d) H (upd (upd H4' u (.dK [])) u (.dK (mergeK [] manyD))) := (kW.nu DW hu4).new (At.free kW DW hu4)
      have eU : upd (upd H4' u (.dK [])) u (.dK (mergeK [] manyD)) = upd H4' u (.dK (mergeK [] manyD)) := by
        funext b
        by_cases hb : b = u
        · rw [hb, upd_same, upd_same]
        · rw [upd_ne hb, upd_ne hb, upd_ne hb]
      have DU : Dr (upd (upd H4' u (.dK [])) u (.dK (mergeK [] manyD))) d c ns (n + 1) := by
        rw [eU]; exact DW.new hu4
      have et3 : upd (upd H4' u (.dK [])) u (.dK (mergeK [] manyD)) t2 = some (.tup [.str z]) := by
        rw [eU, upd_ne (ne_of_none et2 hu4)]; exact et2
      generalize upd (upd H4' u (.dK [])) u (.dK (mergeK [] manyD)) = H5 at kU DU et3 ⊢
      refine ⟨(m : Int), rfl, by omega, by omega, fun L hL => ?_⟩
      have hLH : H L = none := At.free kU DU hL
      have hLd : ¬ L = d := DU.apart hL
      have hLc := DU.apartC hL
      have tL : t2 ≠ L := ne_of_none et3 hL
      have t2d : ¬ t2 = d := fun y => by
        obtain ⟨_, _, _, y2, _⟩ := DU.at_
        rw [← y, et3] at y2; cases y2
      refine lc_range (lo := 0) (n := m) (fun i H' => Kept (At2 d L) H5 H' ∧ Dr H' d c ns (n + 1 + 11 * i) ∧ ∃ es : List PySem.Str, es.length = i ∧ H' L = some (.lst (es.map V.str)) ∧ ∀ x ∈ es, Nm x)
        ⟨Kept.refl.upd (.inr rfl), DU.keep hLd hLc, [], rfl, upd_same, by simp⟩ (fun i H' hi h => ?_) (fun H' h => ?_)
      · obtain ⟨ki, Di, es, e1, e2, e3⟩ := h
        refine ⟨rfl, ?_⟩
        unfold tYes
        dsimp only
        rw [if_pos rfl]
        refine ⟨.ref d, rfl, d, c, ns, _, rfl, Di, by omega, fun x H6 nx k6 D6 => ?_⟩
        refine ⟨es.map V.str, k6.lst e2 hLd, by rw [List.length_map]; omega, (ki.trans (k6.weak fun b hb => .inl hb)).upd (.inr rfl), (D6.keep hLd hLc).more (by omega), es ++ [x], by rw [List.length_append, e1]; rfl, by rw [upd_same, List.map_append]; rfl, fun y hy => ?_⟩
        rcases List.mem_append.mp hy with h | h
        · exact e3 y h
        · rw [List.mem_singleton.mp h]; exact nx
      · obtain ⟨ki, Di, es, e1, e2, e3⟩ := h
        have kH : Kept (At d) H H' := kU.drop hLH ki
        obtain ⟨ex, hvs, hok, hnm⟩ := hta es e1
        have et4 : H' t2 = some (.tup [.str z]) := ki.tup et3 fun y => y.elim t2d tL
        refine .inl ⟨L, _, rfl, SqL.of e2, fun M hM => ?_⟩
        have tM : t2 ≠ M := ne_of_none et4 hM
        refine ⟨t2, M, [.str z], es.map V.str, rfl, rfl, SqT.of (by rw [upd_ne tM]; exact et4), SqT.of upd_same, (fun y => nomatch y), by rw [List.length_map, List.length_singleton]; omega, (fun y => by
          have := congrArg List.length y
          rw [List.length_map, e1] at this
          exact absurd this (by simp; omega)), fun _ o ho => ?_⟩
        have kM := kH.nu Di hM (o := .tup (es.map V.str))
        have DM := Di.new hM (o := .tup (es.map V.str))
        exact q ex o _ (hok v) (fun x hx => e3 x (hnm x hx)) (kM.nu DM ho) ((DM.new ho).more (by omega)) (by rw [upd_same, hvs]; rfl)
end
end K7

set_option Elab.async false
set_option linter.all false
set_option maxRecDepth 100000
set_option maxHeartbeats 4000000
namespace K7
open PySem PySem.Spec PyProof.Rows L2 TL
/-! ### a tuple behind a tuple, whichever is empty -/
def rCatE (K : PySem.W.Frag) : R2 := fun x y H Q => ∃ a b xs ys, x = .ref a ∧ y = .ref b ∧ SqT K H a xs ∧ SqT K H b ys ∧ xs.length + ys.length ≤ sizeLine ∧
  (xs = [] → Q (.ref b) H) ∧ (xs ≠ [] → ys = [] → Q (.ref a) H) ∧ (xs ≠ [] → ys ≠ [] → ∀ p, H p = none → Q (.ref p) (upd H p (.tup (xs ++ ys))))
theorem cat_tupE {prog : Program} {w : World} {A : Around} {E : Value → Shared → Prop} {s : Shared} {t b : Addr} {ws : List Value} {Q : Value → Shared → Prop} (ht : IsTup s.heap t ([] : List Value).toArray) (hb : IsTup s.heap b ws.toArray)
    (h0 : Q (.ref b) s) : wpAny (model prog w) A (binaryOp .Add (.ref t) (.ref b)) Q E s := by
  obtain ⟨⟨cls, dd, data, sl⟩, ho, hc, n, hd⟩ := _root_.id ht
  obtain ⟨⟨cls2, dd2, data2, sl2⟩, ho2, hc2, n2, hd2⟩ := _root_.id hb
  simp only at hc hd hc2 hd2
  subst hc hd hc2 hd2
  exact concat_meets ⟨_, ho, rfl⟩ ⟨_, ho2, rfl⟩ noFill_tuple_add seq_tuple_add PySem.F.slot_tuple_add PySem.F.entry_tuple_add (PySem.F.args_tuple_add_2 _ _)
      (tuple_addW0 t b ([] : List Value).toArray ws.toArray n n2 dd dd2 sl sl2 (by simp)) ⟨ho, ho2, h0⟩
theorem op_catE {X : Cx} : OpR X (binaryOp .Add) (rCatE X.K) := by
  intro pins s σ H x y v u Q I rx ry h
  obtain ⟨a, b, xs, ys, rfl, rfl, ha, hb, hz, q0, q1, q2⟩ := h
  by_cases hx : xs = []
  · subst hx
    cases rx
    cases ry
    obtain ⟨its, r1, p1, _⟩ := I.tuple ha
    obtain ⟨its2, r2, p2, _⟩ := I.tuple hb
    cases r1
    exact cat_tupE p1 p2 ⟨.ref b, H, I, rfl, q0 rfl⟩
  · exact op_catT pins s σ H (.ref a) (.ref b) v u Q I rx ry ⟨a, b, xs, ys, rfl, rfl, ha, hb, hx, hz, q1 hx, fun hy => q2 hx hy⟩
/-! ### trees one behind the other -/
theorem Tr.app_fine {v : Nat} : ∀ (t u : Tr) (d r : Nat), t.fine v d r → u.fine v d r → (t.app u).fine v d r
  | .nil, _, _, _, _, h => h
  | .set _ _ t, u, d, r, ⟨f1, f2, f3, f4, f5⟩, h => ⟨f1, f2, f3, f4, app_fine t u d r f5 h⟩
  | .tell _ t, u, d, r, ⟨f1, f2, f3⟩, h => ⟨f1, f2, app_fine t u d r f3 h⟩
  | .ite _ a b t, u, d, r, ⟨f1, f2, f3, f4, f5⟩, h => ⟨f1, f2, f3, f4, app_fine t u d r f5 h⟩
  | .rnd _ a t, u, d, r, ⟨f1, f2, f3, f4, f5⟩, h => ⟨f1, f2, f3, f4, app_fine t u d r f5 h⟩
end K7

set_option Elab.async false
set_option linter.all false
set_option maxRecDepth 100000
set_option maxHeartbeats 4000000
namespace K7
open PySem PySem.Spec PyProof.Rows L2 TL
abbrev sLRows : Stmt := top 32
theorem scLRows : FnScope ["draw", "room", "deep", "wide", "rounds", "found", "k", "way", "more", "ways", "name", "number", "turn"] ["draw", "room", "deep", "wide", "rounds"] (defScope sLRows) := ⟨rfl, rfl, rfl, by decide +kernel, rfl, by decide +kernel, by decide +kernel⟩
abbrev AtR (d R : Addr) : Addr → Prop := fun b => b = d ∨ b = R
abbrev AtF (d R F : Addr) : Addr → Prop := fun b => AtR d R b ∨ b = F
def spLRows (n0 : Nat) : Sp := fun vs H Q _ => ∃ (d c R : Addr) (ns : List Int) (n room deep v rounds : Nat), vs = [.ref d, .ref R, .int (deep : Int), .int (v : Int), .int (rounds : Int)] ∧ deep + n0 = 7 ∧ 1 ≤ n0 ∧ 1 ≤ v ∧ v ≤ 12 ∧ rounds ≤ 3 ∧ room ≤ 60 ∧ R ≠ d ∧ R ≠ c ∧ H R = some (.lst [.int (room : Int)]) ∧ Dr H d c ns n ∧ n ≤ 700000000 + 10000 * deep ∧
  ∀ (t : Tr) (p : Addr) (rs : List V) H', t.all ≤ room → t.fine v deep rounds → H' R = some (.lst [.int ((room - t.all : Nat) : Int)]) → Kept (AtR d R) H H' → Dr H' d c ns (n + 110 * t.all + 2) → H' p = some (.tup rs) → Its H' rs t → Q (.ref p) H'
/-- more rounds or not -/
def tMore : TE := fun σ H Q => ∃ (way : Int) (r : Nat), σ[7]? = some (some (.int way)) ∧ σ[4]? = some (some (.int (r : Int))) ∧ ∀ m : Nat, (m = r ∨ (m = r + 1 ∧ r < 3)) → Q (.int (m : Int)) H
section
variable {P : Program} {w : World} {K : PySem.W.Frag} {mg : PySem.Str → Option Value} {base : Heap} {f fN fM fE : Addr} {fd fdN fdM fdE : FuncData} {n0 : Nat}
theorem ok_lrows0 (F : FnP K "_law_rows" sLRows f fd) : FnOk P w K mg base CX0 5 f fd ["draw", "room", "deep", "wide", "rounds"] (spLRows 0) := by
  refine F.ok (k := 4) scLRows (fun vs H Q E h => ?_) (fun cdv A outer s H vs Q E hr h => ?_)
  · obtain ⟨d, c, R, ns, n, room, deep, v, rounds, rfl, _⟩ := h
    rfl
  · obtain ⟨d, c, R, ns, n, room, deep, v, rounds, rfl, h1, h2, _⟩ := h
    omega
theorem ok_lrows1 (F : FnP K "_law_rows" sLRows f fd) (GN : FnOk P w K mg base CX0 2 fN fdN ["draw", "many"] spNext) (bN : Binds K fdN ["draw", "many"] []) (kN : PySem.W.keepIn K (.ref fN) = true) (gN : mg "_law_next" = some (.ref fN))
    (GM : FnOk P w K mg base CX0 3 fM fdM ["draw"] spLName) (bM : Binds K fdM ["draw"] []) (kM : PySem.W.keepIn K (.ref fM) = true) (gM : mg "_law_name" = some (.ref fM))
    (GE : FnOk P w K mg base CX0 4 fE fdE ["draw", "wide"] spLExpr) (bE : Binds K fdE ["draw", "wide"] []) (kE : PySem.W.keepIn K (.ref fE) = true) (gE : mg "_law_expr" = some (.ref fE))
    (G : FnOk P w K mg base CX0 (5 + n0) f fd ["draw", "room", "deep", "wide", "rounds"] (spLRows n0)) (bR : Binds K fd ["draw", "room", "deep", "wide", "rounds"] []) (kR : PySem.W.keepIn K (.ref f) = true) (gR : mg "_law_rows" = some (.ref f))
    (m_range : mg "range" = none) (m_tuple : mg "tuple" = none) (m_int : mg "int" = none) : FnOk P w K mg base CX0 (5 + n0 + 1) f fd ["draw", "room", "deep", "wide", "rounds"] (spLRows (n0 + 1)) := by
  refine F.ok (k := 5 + n0) scLRows (fun vs H Q E h => ?_) (fun cdv A outer s H vs Q E hr h => ?_)
  · obtain ⟨d, c, R, ns, n, room, deep, v, rounds, rfl, _⟩ := h
    rfl
  · obtain ⟨d, c, R, ns, n, room, deep, v, rounds, rfl, hd, _, v1, v2, r3, rm, Rd0, Rc, hR, D0, hn, q⟩ := h
    have hu := hu_of hr
    have GN := GN.mono (show 2 ≤ 5 + n0 by omega)
    have GM := GM.mono (show 3 ≤ 5 + n0 by omega)
    have GE := GE.mono (show 4 ≤ 5 + n0 by omega)
    refine ⟨_, PSs.nox (pss_cons (ps_set (i := 5) scLRows.nd rfl (Or.inl rfl) (pe_lst pa_nil))
    (pss_cons (ps_for PassesOwn.never rfl (pi_range1 rfl m_range (pa_cons (pe_ix ix_list (pe_lst (pa_cons pe_int (pa_cons pe_int (pa_cons pe_int (pa_cons pe_int (pa_cons pe_int (pa_cons (pe_ix ix_list (pe_lst (pa_cons pe_int (pa_cons pe_int pa_nil))) (pe_callTy call_int1 (by rfl) m_int (by decide +kernel) (pa_cons (pe_cmpR op_eq (pv 2) pe_int (nomark _)) pa_nil)) (fun _ _ => rfl)) pa_nil))))))) (pe_call GN hr (by rfl) gN kN bN .nil pass0 (pa_cons (pv 0) (pa_cons pe_int pa_nil))) (fun _ _ => rfl)) pa_nil)) (pg_name (i := 6) scLRows.nd rfl (Or.inl rfl))
      (pss_cons (ps_set (i := 7) scLRows.nd rfl (Or.inl rfl) (pe_call GN hr (by rfl) gN kN bN .nil pass0 (pa_cons (pv 0) (pa_cons pe_int pa_nil))))
      (pss_cons (ps_if (pt_cmpR op_eq (pe_ix ix_list (pv 1) pe_int (fun _ _ => rfl)) pe_int (nomark _))
        (pss_one ps_break)
        pss_nil)
      (pss_cons (ps_asg (pe_op op_sub (pe_ix ix_list (pv 1) pe_int (fun _ _ => rfl)) pe_int) (pg_sub (pv 1) pe_int set_list))
      (pss_one (ps_if (pt_cmpR op_lt (pv 7) pe_int (nomark _))
        (pss_one (ps_expr (pe_bm PySem.F.plainAttrs_list PySem.F.slot_list_append PySem.F.type_list_append mt_append (pv 5) (pa_cons (pe_tup (pa_cons pe_str (pa_cons (pe_call GM hr (by rfl) gM kM bM .nil pass0 (pa_cons (pv 0) pa_nil)) (pa_cons (pe_call GE hr (by rfl) gE kE bE .nil pass0 (pa_cons (pv 0) (pa_cons (pv 3) pa_nil))) pa_nil)))) pa_nil))))
        (pss_one (ps_if (pt_cmpR op_eq (pv 7) pe_int (nomark _))
          (pss_one (ps_expr (pe_bm PySem.F.plainAttrs_list PySem.F.slot_list_append PySem.F.type_list_append mt_append (pv 5) (pa_cons (pe_tup (pa_cons pe_str (pa_cons (pe_call GM hr (by rfl) gM kM bM .nil pass0 (pa_cons (pv 0) pa_nil)) pa_nil))) pa_nil))))
          (pss_cons (ps_set (i := 8) scLRows.nd rfl (Or.inr rfl) (pe_as (t' := tMore) (pe_op op_add (pv 4) (pe_callTy call_int1 (by rfl) m_int (by decide +kernel) (pa_cons (pe_and (pe_cmpR op_eq (pv 7) pe_int (nomark _)) (pe_one (pe_cmpR op_lt (pv 4) pe_int (nomark _)))) pa_nil))) (fun σ H Q h => by
            obtain ⟨way, r, h7, h4, q⟩ := h
            refine ⟨.int (r : Int), h4, .int way, h7, rfl, _, rfl, ite2 (fun e => ?_) (fun e => ?_)⟩
            · refine ⟨.int (r : Int), h4, (r : Int), 3, rfl, rfl, .inr ⟨_, rfl, (r : Int), _, rfl, rfl, ?_⟩⟩
              by_cases z : r < 3
              · rw [decide_eq_true (show (r : Int) < 3 by omega)]
                exact q (r + 1) (.inr ⟨rfl, z⟩)
              · rw [decide_eq_false (show ¬ (r : Int) < 3 by omega)]
                exact q r (.inl rfl)
            · exact .inr ⟨_, rfl, (r : Int), _, rfl, rfl, q r (.inl rfl)⟩)))
          (pss_cons (ps_setLc (i := 9) (own := [("turn", 12)]) (g := gName 12) (tt := tYes) rfl scLRows.nd rfl rfl (sw_true rfl rfl rfl (by decide +kernel)) (pi_range1 rfl m_range (pa_cons pe_int pa_nil)) (blkOk_by (own := [("turn", 12)]) (N := ["draw", "room", "deep", "wide", "rounds", "found", "k", "way", "more", "ways", "name", "number", "turn"]) (sc := defScope sLRows) (by decide +kernel)) (by exact (fun _ _ _ _ _ => (pg_name (i := 12) scLRows.nd rfl (Or.inl rfl)))) (by exact (fun _ _ _ _ _ => pts_nil)) (by exact (fun _ _ _ _ _ => (pe_ifExp (pt_cmpR op_lt (pv 2) pe_int (nomark _)) (pe_call G hr (by rfl) gR kR bR .nil pass0 (pa_cons (pv 0) (pa_cons (pv 1) (pa_cons (pe_op op_add (pv 2) pe_int) (pa_cons (pv 3) (pa_cons (pv 8) pa_nil)))))) (pe_tup pa_nil)))))
          (pss_cons (ps_par (i := 10) (j := 11) (by rfl) scLRows.nd rfl rfl (by decide) rfl rfl (pa_cons (pe_call GM hr (by rfl) gM kM bM .nil pass0 (pa_cons (pv 0) pa_nil)) (pa_cons (pe_ix ix_list (pe_lst (pa_cons pe_int (pa_cons pe_int (pa_cons (pe_call GN hr (by rfl) gN kN bN .nil pass0 (pa_cons (pv 0) (pa_cons pe_int pa_nil))) pa_nil)))) (pe_call GN hr (by rfl) gN kN bN .nil pass0 (pa_cons (pv 0) (pa_cons pe_int pa_nil))) (fun _ _ => rfl)) pa_nil)) (by rfl))
          (pss_one (ps_expr (pe_bm PySem.F.plainAttrs_list PySem.F.slot_list_append PySem.F.type_list_append mt_append (pv 5) (pa_cons (pe_ifExp (pt_cmpR op_eq (pv 8) (pv 4) (nomark _)) (pe_tup (pa_cons pe_str (pa_cons (pv 10) (pa_cons (pe_ix ix_list (pv 9) pe_int (fun _ _ => rfl)) (pa_cons (pe_ix ix_list (pv 9) pe_int (fun _ _ => rfl)) pa_nil))))) (pe_tup (pa_cons pe_str (pa_cons (pv 11) (pa_cons (pe_op op_catE (pe_ix ix_list (pv 9) pe_int (fun _ _ => rfl)) (pe_ix ix_list (pv 9) pe_int (fun _ _ => rfl))) pa_nil))))) pa_nil)))))))))))))))
    (pss_one (ps_ret (pe_tupleOf (by rfl) m_tuple (pv 5)))))), ?_⟩
    have szl := sizeLine_eq
    refine ⟨(show 0 ≤ sizeLine by decide), fun F0 hF => ?_⟩
    have k0 : Kept (AtF d R F0) H (upd H F0 (.lst [])) := Kept.refl.new hF
    have D1 : Dr (upd H F0 (.lst [])) d c ns n := D0.new hF
    have hFd := D0.apart hF
    have hFc := D0.apartC hF
    have FR : F0 ≠ R := fun z => by rw [z, hR] at hF; cases hF
    have eF : upd H F0 (.lst []) F0 = some (.lst []) := upd_same
    have eR : upd H F0 (.lst []) R = some (.lst [.int (room : Int)]) := by rw [upd_ne (Ne.symm FR)]; exact hR
    generalize upd H F0 (.lst []) = H1 at k0 D1 eF eR ⊢
    refine ⟨(show 2 ≤ sizeLine by decide), fun p1 hp1 => ?_⟩
    refine ⟨.int (deep : Int), rfl, rfl, .inr ⟨_, rfl, ?_⟩⟩
    obtain ⟨y1, hy1, N1, rfl, n1a, n1b⟩ : ∃ x, atI [V.int 7, .int 14] (if decide (V.int (deep : Int) = V.int 1) = true then 1 else 0) = some x ∧ ∃ m : Int, x = .int m ∧ 0 ≤ m ∧ m ≤ 14 := at_nat (m := 2) (by split <;> decide) (by split <;> decide) rfl _ (fun x hx => by
      simp only [List.mem_cons, List.not_mem_nil, or_false] at hx
      rcases hx with rfl | rfl
      · exact ⟨_, rfl, by decide, by decide⟩
      · exact ⟨_, rfl, by decide, by decide⟩)
    refine ⟨p1, _, _, .int N1, rfl, rfl, SqL.of upd_same, hy1, ?_⟩
    refine ⟨(show 6 ≤ sizeLine by decide), fun p2 hp2 => ?_⟩
    have ka : Kept None H1 (upd H1 p1 (.lst [.int 7, .int 14])) := Kept.refl.new hp1
    have kb := ka.new (ka.free hp2) (o := .lst [.int 0, .int 1, .int 2, .int 4, .int 7, .int N1])
    have D2 := (D1.new hp1 (o := .lst [.int 7, .int 14])).new hp2 (o := .lst [.int 0, .int 1, .int 2, .int 4, .int 7, .int N1])
    have hp2d := (D1.new hp1 (o := .lst [.int 7, .int 14])).apart hp2
    have e2 : upd (upd H1 p1 (.lst [.int 7, .int 14])) p2 (.lst [.int 0, .int 1, .int 2, .int 4, .int 7, .int N1]) p2 = some (.lst [.int 0, .int 1, .int 2, .int 4, .int 7, .int N1]) := upd_same
    have eF2 := kb.lst eF fun z => z
    have eR2 := kb.lst eR fun z => z
    generalize upd (upd H1 p1 (.lst [.int 7, .int 14])) p2 (.lst [.int 0, .int 1, .int 2, .int 4, .int 7, .int N1]) = H2 at kb D2 e2 eF2 eR2 ⊢
    refine ⟨.ref d, rfl, d, c, ns, n, 6, rfl, D2, by omega, by decide, by decide, fun r H3 a0 a1 k3 D3 => ?_⟩
    obtain ⟨y2, hy2, N, rfl, n2a, n2b⟩ : ∃ x, atI [V.int 0, .int 1, .int 2, .int 4, .int 7, .int N1] r = some x ∧ ∃ m : Int, x = .int m ∧ 0 ≤ m ∧ m ≤ 14 := at_nat (m := 6) a0 a1 rfl _ (fun x hx => by
      simp only [List.mem_cons, List.not_mem_nil, or_false] at hx
      rcases hx with rfl | rfl | rfl | rfl | rfl | rfl
      · exact ⟨_, rfl, by decide, by decide⟩
      · exact ⟨_, rfl, by decide, by decide⟩
      · exact ⟨_, rfl, by decide, by decide⟩
      · exact ⟨_, rfl, by decide, by decide⟩
      · exact ⟨_, rfl, by decide, by decide⟩
      · exact ⟨_, rfl, n1a, n1b⟩)
    refine ⟨p2, _, r, .int N, rfl, rfl, SqL.of (k3.lst e2 hp2d), hy2, N, rfl, by omega, by omega, ?_⟩
    have kS : Kept (AtF d R F0) H H3 := k0.trans ((kb.weak fun _ z => z.elim).trans (k3.weak fun b z => .inl (.inl z)))
    have eF3 := k3.lst eF2 hFd
    have eR3 := k3.lst eR2 Rd0
    clear kb ka e2 hy2 hy1 k3 eF2 eR2 D2 D1 k0
    -- what the end needs
    have fin : ∀ (t : Tr) (xs : List V) (H' : Hp), t.all ≤ room → t.fine v deep rounds → Kept (AtF d R F0) H H' → H' F0 = some (.lst xs) → Its H' xs t → H' R = some (.lst [.int ((room - t.all : Nat) : Int)]) → Dr H' d c ns (n + 110 * t.all + 2) → ∀ p, H' p = none → Q (.ref p) (upd H' p (.tup xs)) := fun t xs H' h1 h2 h3 h4 h5 h6 h7 p hp => by
      have kp : Kept None H' (upd H' p (.tup xs)) := Kept.refl.new hp
      refine q t p xs _ h1 h2 (kp.lst h6 fun z => z) (fun b o e nb => ?_) (h7.new hp) upd_same (h5.stay kp fun _ _ _ z => z)
      refine ko_trans (h3 b o e ?_) fun u eu => kp b u eu fun z => z
      rintro (z | z)
      · exact nb z
      · exact ne_of_none e hF z
    refine for_range (lo := 0) (n := N.toNat) (fun i σ H' => ∃ (t : Tr) (xs : List V) (x6 x7 x8 x9 x10 x11 x12 : Option V), σ = [some (.ref d), some (.ref R), some (.int (deep : Int)), some (.int (v : Int)), some (.int (rounds : Int)), some (.ref F0), x6, x7, x8, x9, x10, x11, x12] ∧ t.all ≤ room ∧ t.fine v deep rounds ∧ Kept (AtF d R F0) H H' ∧ H' F0 = some (.lst xs) ∧ Its H' xs t ∧ H' R = some (.lst [.int ((room - t.all : Nat) : Int)]) ∧ Dr H' d c ns (n + 1 + 110 * t.all))
      ⟨.nil, [], none, none, none, none, none, none, none, rfl, Nat.zero_le _, trivial, kS, eF3, .nil, eR3, D3⟩ (fun i σ H' hi h => ?_) (fun σ H' h => ?_)
    · obtain ⟨t, xs, x6, x7, x8, x9, x10, x11, x12, rfl, ta, tf, kA, eA, iA, eR, DA⟩ := h
      refine ⟨.ref d, rfl, d, c, ns, _, 9, rfl, DA, by omega, by decide, by decide, fun way H4 b0 b1 k4 D4 => ?_⟩
      have eA4 := k4.lst eA hFd
      have eR4 := k4.lst eR Rd0
      have nt4 : ∀ p ys, H' p = some (.tup ys) → ¬ At d p := fun p ys e z => by
        obtain ⟨_, _, _, z2, _⟩ := DA.at_
        rw [z, z2] at e; cases e
      have iA4 := iA.stay k4 nt4
      have kA4 : Kept (AtF d R F0) H H4 := kA.trans (k4.weak fun b z => .inl (.inl z))
      refine ⟨.ref R, rfl, R, _, 0, .int ((room - t.all : Nat) : Int), rfl, rfl, SqL.of eR4, atI_nat (j := 0) rfl, rfl, _, rfl, ite2 (fun e => ?_) (fun e => ?_)⟩
      · exact ⟨.ref F0, rfl, .inl ⟨F0, xs, rfl, SqL.of eA4, fin t xs H4 ta tf kA4 eA4 iA4 eR4 (D4.more (by omega))⟩⟩
      have rem : 1 ≤ room - t.all := by
        rcases Nat.eq_zero_or_pos (room - t.all) with z | z
        · exact absurd (by rw [z]; exact decide_eq_true rfl) e
        · exact z
      refine ⟨.ref R, rfl, R, _, 0, .int ((room - t.all : Nat) : Int), rfl, rfl, SqL.of eR4, atI_nat (j := 0) rfl, ((room - t.all : Nat) : Int), 1, rfl, rfl, ?_⟩
      refine ⟨.ref R, rfl, R, _, 0, 0, rfl, rfl, eR4, rfl, ?_⟩
      have e5 : ([V.int ((room - t.all : Nat) : Int)].set 0 (.int (((room - t.all : Nat) : Int) - 1))) = [V.int ((room - t.all - 1 : Nat) : Int)] := by
        rw [show (((room - t.all : Nat) : Int) - 1) = ((room - t.all - 1 : Nat) : Int) by omega]; rfl
      have eR5 : upd H4 R (.lst ([V.int ((room - t.all : Nat) : Int)].set 0 (.int (((room - t.all : Nat) : Int) - 1)))) R = some (.lst [V.int ((room - t.all - 1 : Nat) : Int)]) := by rw [upd_same, e5]
      have k5 : Kept (AtR d R) H4 (upd H4 R (.lst ([V.int ((room - t.all : Nat) : Int)].set 0 (.int (((room - t.all : Nat) : Int) - 1))))) := Kept.refl.upd (.inr rfl)
      have D5 := D4.keep Rd0 Rc (o := .lst ([V.int ((room - t.all : Nat) : Int)].set 0 (.int (((room - t.all : Nat) : Int) - 1))))
      generalize upd H4 R (.lst ([V.int ((room - t.all : Nat) : Int)].set 0 (.int (((room - t.all : Nat) : Int) - 1)))) = H5 at eR5 k5 D5 ⊢
      have F3 : ∀ b, AtR d R b → AtF d R F0 b := fun b z => .inl z
      have nFR : ¬ AtR d R F0 := fun z => z.elim hFd FR
      have eF5 := k5.lst eA4 nFR
      have ntR : ∀ {Hx : Hp} {m : Nat} {zs : List V}, Dr Hx d c ns m → Hx R = some (.lst zs) → ∀ p ys, Hx p = some (.tup ys) → ¬ AtR d R p := fun Dx ex p ys e z => by
        rcases z with z | z
        · obtain ⟨_, _, _, z2, _⟩ := Dx.at_
          rw [z, z2] at e; cases e
        · rw [z, ex] at e; cases e
      have iA5 := iA4.stay k5 (ntR D4 eR4)
      have kA5 : Kept (AtF d R F0) H H5 := kA4.trans (k5.weak F3)
      have dl : deep ≤ 6 := by omega
      have add : ∀ (one : Tr) (p : Addr) (H7 : Hp) (z7 z8 z9 z10 z11 z12 : Option V), Kept (AtR d R) H5 H7 → one.fine v deep rounds → 1 ≤ one.all → t.all + one.all ≤ room → H7 R = some (.lst [.int ((room - t.all - one.all : Nat) : Int)]) → Dr H7 d c ns (n + 1 + 110 * (t.all + one.all)) → Its H7 [.ref p] one → one.len = 1 →
          H7 F0 = some (.lst xs) ∧ xs.length < sizeLine ∧ (∃ (t : Tr) (xs' : List V) (x6 x7 x8 x9 x10 x11 x12 : Option V), ([some (.ref d), some (.ref R), some (.int (deep : Int)), some (.int (v : Int)), some (.int (rounds : Int)), some (.ref F0), some (.int (0 + (i : Int))), z7, z8, z9, z10, z11, z12] : L2.St) = [some (.ref d), some (.ref R), some (.int (deep : Int)), some (.int (v : Int)), some (.int (rounds : Int)), some (.ref F0), x6, x7, x8, x9, x10, x11, x12] ∧ t.all ≤ room ∧ t.fine v deep rounds ∧ Kept (AtF d R F0) H (upd H7 F0 (.lst (xs ++ [.ref p]))) ∧ upd H7 F0 (.lst (xs ++ [.ref p])) F0 = some (.lst xs') ∧ Its (upd H7 F0 (.lst (xs ++ [.ref p]))) xs' t ∧ upd H7 F0 (.lst (xs ++ [.ref p])) R = some (.lst [.int ((room - t.all : Nat) : Int)]) ∧ Dr (upd H7 F0 (.lst (xs ++ [.ref p]))) d c ns (n + 1 + 110 * t.all)) := by
        intro one p H7 z7 z8 z9 z10 z11 z12 k7 of1 o1 oa o2 o3 o4 o5
        have e7 := k7.lst eF5 nFR
        have ku : Kept (fun b => b = F0) H7 (upd H7 F0 (.lst (xs ++ [.ref p]))) := Kept.refl.upd rfl
        have nt : ∀ q ys, H7 q = some (.tup ys) → ¬ q = F0 := fun q ys e z => by
          rw [z, e7] at e; cases e
        have hxl := iA.len
        have hul := t.len_all
        refine ⟨e7, by omega, t.app one, xs ++ [.ref p], _, _, _, _, _, _, _, rfl, by rw [Tr.app_all]; exact oa, Tr.app_fine t one _ _ tf of1, (kA5.trans (k7.weak F3)).upd (.inr rfl), upd_same, ((iA5.stay k7 (ntR D5 eR5)).stay ku nt).app (o4.stay ku nt), ?_, ?_⟩
        · rw [upd_ne (Ne.symm FR), Tr.app_all, ← Nat.sub_sub]; exact o2
        · rw [Tr.app_all]; exact o3.keep hFd hFc
      refine ⟨.int way, rfl, way, 5, rfl, rfl, _, rfl, ite2 (fun e6 => ?_) (fun e6 => ?_)⟩
      · -- a set row
        refine ⟨.ref F0, rfl, .inl ⟨rfl, _, SqL.of eF5⟩, .ref d, rfl, d, c, ns, _, rfl, D5, by omega, fun x H6 nx k6 D6 => ?_⟩
        refine ⟨.ref d, rfl, .int (v : Int), rfl, d, c, ns, _, v, rfl, D6, by omega, v1, v2, fun e p0 H7 ok en k7 D7 ep0 => ⟨(show 3 ≤ sizeLine by decide), fun p hp => ?_⟩⟩
        have kp : Kept None H7 (upd H7 p (.tup [.str "set", .str x, .ref p0])) := Kept.refl.new hp
        have k57 : Kept (AtR d R) H5 (upd H7 p (.tup [.str "set", .str x, .ref p0])) := ((k6.trans k7).weak fun b z => .inl z).trans (kp.weak fun _ z => z.elim)
        refine ⟨F0, _, _, rfl, rfl, add (.set x e .nil) p _ _ _ _ _ _ _ k57 ⟨nx, en, ok, dl, trivial⟩ (by simp [Tr.all]) (by simp only [Tr.all]; omega) ?_ ((D7.new hp).more (by simp only [Tr.all]; omega)) (.set upd_same (kp.tup ep0 fun z => z) .nil) rfl⟩
        simp only [Tr.all]
        exact kp.lst ((k6.trans k7).lst eR5 Rd0) fun z => z
      refine ⟨.int way, rfl, rfl, _, rfl, ite2 (fun e7 => ?_) (fun e7 => ?_)⟩
      · -- a tell row
        refine ⟨.ref F0, rfl, .inl ⟨rfl, _, SqL.of eF5⟩, .ref d, rfl, d, c, ns, _, rfl, D5, by omega, fun x H6 nx k6 D6 => ⟨(show 2 ≤ sizeLine by decide), fun p hp => ?_⟩⟩
        have kp : Kept None H6 (upd H6 p (.tup [.str "tell", .str x])) := Kept.refl.new hp
        have k57 : Kept (AtR d R) H5 (upd H6 p (.tup [.str "tell", .str x])) := (k6.weak fun b z => .inl z).trans (kp.weak fun _ z => z.elim)
        refine ⟨F0, _, _, rfl, rfl, add (.tell x .nil) p _ _ _ _ _ _ _ k57 ⟨nx, dl, trivial⟩ (by simp [Tr.all]) (by simp only [Tr.all]; omega) ?_ ((D6.new hp).more (by simp only [Tr.all]; omega)) (.tell upd_same .nil) rfl⟩
        simp only [Tr.all]
        exact kp.lst (k6.lst eR5 Rd0) fun z => z
      refine ⟨way, rounds, rfl, rfl, fun more hmore => ?_⟩
      refine ⟨2, rfl, by decide, by decide, fun L hL => ?_⟩
      have hLd : ¬ L = d := D5.apart hL
      have hLc := D5.apartC hL
      have LR : L ≠ R := fun z => by rw [z, eR5] at hL; cases hL
      have hm3 : more ≤ 3 := by omega
      refine lc_range (lo := 0) (n := 2) (fun i H' => ∃ (qs : List (Addr × List V × Tr)), qs.length = i ∧ H' L = some (.lst (qs.map fun q => V.ref q.1)) ∧ (∀ q ∈ qs, H' q.1 = some (.tup q.2.1) ∧ Its H' q.2.1 q.2.2 ∧ q.2.2.fine v (deep + 1) more) ∧ (qs.map fun q => q.2.2.all).sum ≤ room - t.all - 1 ∧ H' R = some (.lst [.int ((room - t.all - 1 - (qs.map fun q => q.2.2.all).sum : Nat) : Int)]) ∧ Dr H' d c ns (n + 1 + 110 * t.all + 1 + 110 * (qs.map fun q => q.2.2.all).sum + 2 * i) ∧ Kept (AtF d R L) H5 H')
        ⟨[], rfl, upd_same, (fun q h => by cases h), Nat.zero_le _, by rw [upd_ne (Ne.symm LR)]; exact eR5, D5.keep hLd hLc, Kept.refl.upd (.inr rfl)⟩ (fun i H' hi h => ?_) (fun H' h => ?_)
      · obtain ⟨qs, q1, q2, q3, q4, q5, q6, q7⟩ := h
        refine ⟨rfl, ?_⟩
        unfold tYes
        dsimp only
        rw [if_pos rfl]
        have nL : ¬ AtR d R L := fun z => z.elim hLd LR
        have cont : ∀ (t2 : Tr) (p3 : Addr) (rs : List V) (H6 : Hp), t2.all ≤ room - t.all - 1 - (qs.map fun q => q.2.2.all).sum → t2.fine v (deep + 1) more → H6 R = some (.lst [.int ((room - t.all - 1 - (qs.map fun q => q.2.2.all).sum - t2.all : Nat) : Int)]) → Kept (AtR d R) H' H6 → Dr H6 d c ns (n + 1 + 110 * t.all + 1 + 110 * (qs.map fun q => q.2.2.all).sum + 2 * i + 110 * t2.all + 2) → H6 p3 = some (.tup rs) → Its H6 rs t2 →
            ∃ acc, H6 L = some (.lst acc) ∧ acc.length < sizeLine ∧ ∃ (qs : List (Addr × List V × Tr)), qs.length = i + 1 ∧ upd H6 L (.lst (acc ++ [.ref p3])) L = some (.lst (qs.map fun q => V.ref q.1)) ∧ (∀ q ∈ qs, upd H6 L (.lst (acc ++ [.ref p3])) q.1 = some (.tup q.2.1) ∧ Its (upd H6 L (.lst (acc ++ [.ref p3]))) q.2.1 q.2.2 ∧ q.2.2.fine v (deep + 1) more) ∧ (qs.map fun q => q.2.2.all).sum ≤ room - t.all - 1 ∧ upd H6 L (.lst (acc ++ [.ref p3])) R = some (.lst [.int ((room - t.all - 1 - (qs.map fun q => q.2.2.all).sum : Nat) : Int)]) ∧ Dr (upd H6 L (.lst (acc ++ [.ref p3]))) d c ns (n + 1 + 110 * t.all + 1 + 110 * (qs.map fun q => q.2.2.all).sum + 2 * (i + 1)) ∧ Kept (AtF d R L) H5 (upd H6 L (.lst (acc ++ [.ref p3]))) := by
          intro t2 p3 rs H6 ta2 tf2 eR6 k6 D6 ep6 i6
          have eL6 := k6.lst q2 nL
          have ku : Kept (fun b => b = L) H6 (upd H6 L (.lst ((qs.map fun q => V.ref q.1) ++ [.ref p3]))) := Kept.refl.upd rfl
          have nt : ∀ q ys, H6 q = some (.tup ys) → ¬ q = L := fun q ys e z => by
            rw [z, eL6] at e; cases e
          have es : ((qs ++ [(p3, rs, t2)]).map fun q => q.2.2.all).sum = (qs.map fun q => q.2.2.all).sum + t2.all := by
            rw [List.map_append, List.sum_append]; simp
          refine ⟨_, eL6, by rw [List.length_map]; omega, qs ++ [(p3, rs, t2)], by rw [List.length_append, q1]; rfl, by rw [upd_same, List.map_append]; rfl, fun q hq => ?_, by rw [es]; omega, ?_, ?_, (q7.trans (k6.weak fun b z => .inl z)).upd (.inr rfl)⟩
          · rcases List.mem_append.mp hq with h | h
            · obtain ⟨g1, g2, g3⟩ := q3 q h
              have g4 := k6.tup g1 (ntR q6 q5 _ _ g1)
              exact ⟨ku.tup g4 (nt _ _ g4), (g2.stay k6 (ntR q6 q5)).stay ku nt, g3⟩
            · rw [List.mem_singleton.mp h]
              exact ⟨ku.tup ep6 (nt _ _ ep6), i6.stay ku nt, tf2⟩
          · rw [upd_ne (Ne.symm LR), es, ← Nat.sub_sub]; exact eR6
          · rw [es]; exact (D6.keep hLd hLc).more (by omega)
        refine ⟨.int (deep : Int), rfl, (deep : Int), 6, rfl, rfl, _, rfl, ite2 (fun e8 => ?_) (fun e8 => ?_)⟩
        · have d6 : deep < 6 := by have := of_decide_eq_true e8; omega
          refine ⟨.ref d, rfl, .ref R, rfl, .int (deep : Int), rfl, (deep : Int), 1, rfl, rfl, .int (v : Int), rfl, .int (more : Int), rfl, d, c, R, ns, _, _, deep + 1, v, more, rfl, by omega, by omega, v1, v2, hm3, by omega, Rd0, Rc, q5, q6, by omega, fun t2 p3 rs H6 ta2 tf2 eR6 k6 D6 ep6 i6 => ?_⟩
          exact cont t2 p3 rs H6 ta2 tf2 eR6 k6 D6 ep6 i6
        · refine ⟨Nat.zero_le _, fun p3 hp3 => ?_⟩
          have kp : Kept None H' (upd H' p3 (.tup [])) := Kept.refl.new hp3
          exact cont .nil p3 [] _ (Nat.zero_le _) trivial (kp.lst q5 fun z => z) (kp.weak fun _ z => z.elim) ((q6.new hp3).more (by simp only [Tr.all]; omega)) upd_same .nil
      · obtain ⟨qs, q1, q2, q3, q4, q5, q6, q7⟩ := h
        obtain ⟨pa, ras, a, pb, rbs, b, rfl⟩ : ∃ pa ras a pb rbs b, qs = [((pa, ras, a) : Addr × List V × Tr), (pb, rbs, b)] := by
          match qs, q1 with
          | [⟨pa, ras, a⟩, ⟨pb, rbs, b⟩], _ => exact ⟨_, _, _, _, _, _, rfl⟩
        obtain ⟨a1, a2, a3⟩ := q3 (pa, ras, a) (by simp)
        obtain ⟨b1, b2, b3⟩ := q3 (pb, rbs, b) (by simp)
        dsimp only at a1 a2 a3 b1 b2 b3
        have hs : ([((pa, ras, a) : Addr × List V × Tr), (pb, rbs, b)].map fun q => q.2.2.all).sum = a.all + b.all := by simp
        rw [hs] at q4 q5 q6
        have hK : Kept (AtR d R) H5 H' := fun x o e nb => q7 x o e fun z => z.elim nb (ne_of_none e hL)
        have nL : ¬ AtR d R L := fun z => z.elim hLd LR
        refine ⟨.ref d, rfl, d, c, ns, _, rfl, q6, by omega, fun x H6 nx k6 D6 => ?_⟩
        refine ⟨.ref d, rfl, d, c, ns, _, 13, rfl, D6, by omega, by decide, by decide, fun r6 H7 c0 c1 k7 D7 => ⟨(show 3 ≤ sizeLine by decide), fun p5 hp5 => ?_⟩⟩
        refine ⟨.ref d, rfl, d, c, ns, _, 3, rfl, D7.new hp5, by omega, by decide, by decide, fun r7 H8 d0 d1 k8 D8 => ?_⟩
        obtain ⟨y, hy, kk, rfl, hk⟩ : ∃ x, atI [V.int 0, .int 12, .int r6] r7 = some x ∧ ∃ m : Nat, x = .int (m : Int) ∧ m ≤ 12 := at_nat (m := 3) d0 d1 rfl _ (fun x hx => by
          simp only [List.mem_cons, List.not_mem_nil, or_false] at hx
          rcases hx with rfl | rfl | rfl
          · exact ⟨0, rfl, by decide⟩
          · exact ⟨12, rfl, by decide⟩
          · exact ⟨r6.toNat, by rw [Int.toNat_of_nonneg c0], by omega⟩)
        refine ⟨p5, _, r7, .int (kk : Int), rfl, rfl, SqL.of (k8.lst upd_same (D7.apart hp5)), hy, _, _, rfl, ?_⟩
        have k58 : Kept (At d) H' H8 := ((k6.trans k7).nu D7 hp5).trans k8
        have e8R := k58.lst q5 Rd0
        have e8L := k58.lst q2 hLd
        have ntd : ∀ q ys, H' q = some (.tup ys) → ¬ At d q := fun q ys e z => by
          obtain ⟨_, _, _, z2, _⟩ := q6.at_
          rw [z, z2] at e; cases e
        have a1 := k58.tup a1 (ntd _ _ a1)
        have b1 := k58.tup b1 (ntd _ _ b1)
        have a2 := a2.stay k58 ntd
        have b2 := b2.stay k58 ntd
        have K8 : Kept (AtR d R) H5 H8 := hK.trans (k58.weak fun b z => .inl z)
        have eF8 := K8.lst eF5 nFR
        have nn : ∀ {Hx : Hp} (p : Addr) (ys : List V), Hx p = some (.tup ys) → ¬ None p := fun p ys _ z => z
        clear k6 k7 k8 D6 D7 hy
        refine ⟨.ref F0, rfl, .inl ⟨rfl, _, SqL.of eF8⟩, .int (more : Int), rfl, .int (rounds : Int), rfl, rfl, _, rfl, ite2 (fun e9 => ?_) (fun e9 => ?_)⟩
        · -- if
          have em : more = rounds := by
            have := V.int.inj (of_decide_eq_true e9)
            omega
          subst em
          refine ⟨.str x, rfl, .ref L, rfl, L, _, 0, .ref pa, rfl, rfl, SqL.of e8L, atI_nat (j := 0) rfl, .ref L, rfl, L, _, 1, .ref pb, rfl, rfl, SqL.of e8L, atI_nat (j := 1) rfl, (show 4 ≤ sizeLine by decide), fun p hp => ?_⟩
          have kp : Kept None H8 (upd H8 p (.tup [.str "if", .str x, .ref pa, .ref pb])) := Kept.refl.new hp
          refine ⟨F0, _, _, rfl, rfl, add (.ite x a b .nil) p _ _ _ _ _ _ _ (K8.trans (kp.weak fun _ z => z.elim)) ⟨nx, dl, a3, b3, trivial⟩ (by simp only [Tr.all]; omega) (by simp only [Tr.all]; omega) ?_ ((D8.new hp).more (by simp only [Tr.all]; omega)) (.ite upd_same (kp.tup a1 fun z => z) (kp.tup b1 fun z => z) (a2.stay kp nn) (b2.stay kp nn) .nil) rfl⟩
          rw [show room - t.all - (Tr.ite x a b .nil).all = room - t.all - 1 - (a.all + b.all) by simp only [Tr.all]; omega]
          exact kp.lst e8R fun z => z
        · -- round
          obtain ⟨em, hr3⟩ : more = rounds + 1 ∧ rounds < 3 := by
            rcases hmore with h | h
            · exact absurd (decide_eq_true (by rw [h])) e9
            · exact h
          subst em
          have fab := Tr.app_fine a b _ _ a3 b3
          have aab := Tr.app_all a b
          have la := a2.len
          have lb := b2.len
          have lla := a.len_all
          have llb := b.len_all
          have done : ∀ (pq : Addr) (H9 : Hp), Kept None H8 H9 → H9 pq = some (.tup (ras ++ rbs)) → ∀ p, H9 p = none → Dr H9 d c ns (n + 1 + 110 * t.all + 1 + 110 * (a.all + b.all) + 2 * 2 + 11 + 1 + 1) → _ := fun pq H9 k9 e9 p hp D9 => by
            have kp : Kept None H9 (upd H9 p (.tup [.str "round", .int (kk : Int), .ref pq])) := Kept.refl.new hp
            have ka := k9.trans kp
            refine add (.rnd kk (a.app b) .nil) p (upd H9 p (.tup [.str "round", .int (kk : Int), .ref pq])) (some (.int way)) (some (.int ((rounds + 1 : Nat) : Int))) (some (.ref L)) (some (.str x)) (some (.int (kk : Int))) x12 (K8.trans (ka.weak fun _ z => z.elim)) ⟨hk, hr3, dl, fab, trivial⟩ (by simp only [Tr.all]; omega) (by simp only [Tr.all]; omega) ?_ ((D9.new hp).more (by simp only [Tr.all]; omega)) (.rnd upd_same (kp.tup e9 fun z => z) ((a2.stay ka nn).app (b2.stay ka nn)) .nil) rfl
            rw [show room - t.all - (Tr.rnd kk (a.app b) .nil).all = room - t.all - 1 - (a.all + b.all) by simp only [Tr.all]; omega]
            exact ka.lst e8R fun z => z
          refine ⟨.int (kk : Int), rfl, .ref L, rfl, L, _, 0, .ref pa, rfl, rfl, SqL.of e8L, atI_nat (j := 0) rfl, .ref L, rfl, L, _, 1, .ref pb, rfl, rfl, SqL.of e8L, atI_nat (j := 1) rfl, pa, pb, ras, rbs, rfl, rfl, SqT.of a1, SqT.of b1, by omega, (fun z => ?_), (fun z1 z2 => ?_), (fun z1 z2 pq hpq => ?_)⟩
          · refine ⟨(show 3 ≤ sizeLine by decide), fun p hp => ⟨F0, xs, .ref p, rfl, rfl, ?_⟩⟩
            exact done pb H8 Kept.refl (by rw [z]; exact b1) p hp D8
          · refine ⟨(show 3 ≤ sizeLine by decide), fun p hp => ⟨F0, xs, .ref p, rfl, rfl, ?_⟩⟩
            exact done pa H8 Kept.refl (by rw [z2, List.append_nil]; exact a1) p hp D8
          · refine ⟨(show 3 ≤ sizeLine by decide), fun p hp => ⟨F0, xs, .ref p, rfl, rfl, ?_⟩⟩
            exact done pq _ (Kept.refl.new hpq) upd_same p hp (D8.new hpq)
    · obtain ⟨t, xs, x6, x7, x8, x9, x10, x11, x12, rfl, ta, tf, kA, eA, iA, eR, DA⟩ := h
      exact ⟨.ref F0, rfl, .inl ⟨F0, xs, rfl, SqL.of eA, fin t xs H' ta tf kA eA iA eR (DA.more (by omega))⟩⟩
end
end K7

set_option Elab.async false
set_option linter.all false
set_option maxRecDepth 100000
set_option maxHeartbeats 4000000
namespace K7
open PySem PySem.Spec PyProof.Rows L2 TL
abbrev sLRowLines : Stmt := top 34
theorem scLRowLines : FnScope ["rows", "found", "row", "part"] ["rows"] (defScope sLRowLines) := ⟨rfl, rfl, rfl, by decide +kernel, rfl, by decide +kernel, by decide +kernel⟩
/-! ### the lines that are due -/
/-- lists of words, new since H -/
inductive Ls (H H' : Hp) : List Addr → List (List PySem.Str) → Prop where
  | nil : Ls H H' [] []
  | cons {t : Addr} {l : List PySem.Str} {ts : List Addr} {ls : List (List PySem.Str)} (h : H' t = some (.lst (l.map V.str))) (n : H t = none) (r : Ls H H' ts ls) : Ls H H' (t :: ts) (l :: ls)
theorem Ls.app {H H' : Hp} {ts us : List Addr} {ls ms : List (List PySem.Str)} (a : Ls H H' ts ls) (b : Ls H H' us ms) : Ls H H' (ts ++ us) (ls ++ ms) := by
  induction a with
  | nil => exact b
  | cons h n _ ih => exact .cons h n ih
theorem Ls.stay {D : Addr → Prop} {H H' H2 : Hp} {ts : List Addr} {ls : List (List PySem.Str)} (a : Ls H H' ts ls) (k : Kept D H' H2) (nd : ∀ t ∈ ts, ¬ D t) : Ls H H2 ts ls := by
  induction a with
  | nil => exact .nil
  | cons h n _ ih => exact .cons (k.lst h (nd _ List.mem_cons_self)) n (ih fun t ht => nd t (List.mem_cons_of_mem _ ht))
theorem Ls.old {D : Addr → Prop} {H H0 H' : Hp} {ts : List Addr} {ls : List (List PySem.Str)} (a : Ls H0 H' ts ls) (k : Kept D H H0) (nd : ∀ t ∈ ts, ¬ D t) : Ls H H' ts ls := by
  induction a with
  | nil => exact .nil
  | cons h n _ ih => exact .cons h (k.freeD n (nd _ List.mem_cons_self)) (ih fun t ht => nd t (List.mem_cons_of_mem _ ht))
theorem Ls.mem {H H' : Hp} {ts : List Addr} {ls : List (List PySem.Str)} (a : Ls H H' ts ls) : ∀ t ∈ ts, H t = none := by
  induction a with
  | nil => intro t h; cases h
  | cons h n _ ih =>
    intro t ht
    rcases List.mem_cons.mp ht with rfl | ht
    · exact n
    · exact ih t ht
theorem Ls.len {H H' : Hp} {ts : List Addr} {ls : List (List PySem.Str)} (a : Ls H H' ts ls) : ts.length = ls.length := by
  induction a with
  | nil => rfl
  | cons h n _ ih => rw [List.length_cons, ih, List.length_cons]
theorem Ls.at {H H' : Hp} {ts : List Addr} {ls : List (List PySem.Str)} (a : Ls H H' ts ls) : ∀ {i : Nat} {t : Addr}, ts[i]? = some t → ∃ l, ls[i]? = some l ∧ H' t = some (.lst (l.map V.str)) := by
  induction a with
  | nil => intro i t h; cases h
  | cons h n _ ih =>
    intro i t ht
    cases i with
    | zero => cases ht; exact ⟨_, rfl, h⟩
    | succ i => exact ih ht
/-- a list that grows at F by new lists -/
structure Gr (H H' : Hp) (F : Addr) (ts : List Addr) (ls : List (List PySem.Str)) : Prop where
  f : H' F = some (.lst (ts.map V.ref))
  n : F ∉ ts
  l : Ls H H' ts ls
  k : Kept (fun b => b = F) H H'
theorem Gr.more {H H' H2 : Hp} {F : Addr} {ts us : List Addr} {ls ms : List (List PySem.Str)} (g : Gr H H' F ts ls) (k : Kept None H' H2) (h : Ls H' H2 us ms) :
    H2 F = some (.lst (ts.map V.ref)) ∧ Gr H (upd H2 F (.lst (ts.map V.ref ++ us.map V.ref))) F (ts ++ us) (ls ++ ms) := by
  have e2 := k.lst g.f fun z => z
  have nu : F ∉ us := fun z => by
    have := h.mem F z
    rw [g.f] at this; cases this
  have ku : Kept (fun b => b = F) H2 (upd H2 F (.lst (ts.map V.ref ++ us.map V.ref))) := Kept.refl.upd rfl
  refine ⟨e2, by rw [upd_same, List.map_append], fun z => (List.mem_append.mp z).elim g.n nu, ?_, (g.k.trans (k.weak fun _ z => z.elim)).trans ku⟩
  exact ((g.l.stay k fun _ _ z => z).stay ku fun t ht z => g.n (z ▸ ht)).app ((h.stay ku fun t ht z => nu (z ▸ ht)).old g.k fun t ht z => nu (z ▸ ht))
theorem Gr.one {H H' H2 : Hp} {F t : Addr} {ts : List Addr} {ls : List (List PySem.Str)} {l : List PySem.Str} (g : Gr H H' F ts ls) (k : Kept None H' H2) (h : H2 t = some (.lst (l.map V.str))) (n : H' t = none) :
    H2 F = some (.lst (ts.map V.ref)) ∧ Gr H (upd H2 F (.lst (ts.map V.ref ++ [.ref t]))) F (ts ++ [t]) (ls ++ [l]) := g.more k (.cons h n .nil)
def spRowL (n : Nat) : Sp := fun vs H Q _ => ∃ (R : Addr) (rs : List V) (t : Tr) (v d r : Nat), vs = [.ref R] ∧ d + n = 8 ∧ 1 ≤ n ∧ H R = some (.tup rs) ∧ Its H rs t ∧ t.fine v d r ∧ v ≤ 12 ∧ t.lines.length ≤ 10000 ∧
  ∀ (p : Addr) (ts : List Addr) H', H p = none → Kept None H H' → H' p = some (.lst (ts.map V.ref)) → p ∉ ts → Ls H H' ts t.lines → Q (.ref p) H'
section
variable {P : Program} {w : World} {K : PySem.W.Frag} {mg : PySem.Str → Option Value} {base : Heap} {f : Addr} {fd : FuncData} {n : Nat}
theorem ok_rowl0 (F : FnP K "_law_row_lines" sLRowLines f fd) : FnOk P w K mg base CX0 1 f fd ["rows"] (spRowL 0) := by
  refine F.ok (k := 0) scLRowLines (fun vs H Q E h => ?_) (fun cdv A outer s H vs Q E hr h => ?_)
  · obtain ⟨R, rs, t, v, d, r, rfl, _⟩ := h
    rfl
  · obtain ⟨R, rs, t, v, d, r, rfl, h1, h2, _⟩ := h
    omega
theorem ok_rowl1 (F : FnP K "_law_row_lines" sLRowLines f fd) (G : FnOk P w K mg base CX0 (1 + n) f fd ["rows"] (spRowL n)) (bR : Binds K fd ["rows"] []) (kR : PySem.W.keepIn K (.ref f) = true) (gR : mg "_law_row_lines" = some (.ref f)) (m_str : mg "str" = none) : FnOk P w K mg base CX0 (1 + n + 1) f fd ["rows"] (spRowL (n + 1)) := by
  refine F.ok (k := 1 + n) scLRowLines (fun vs H Q E h => ?_) (fun cdv A outer s H vs Q E hr h => ?_)
  · obtain ⟨R, rs, t, v, d, r, rfl, _⟩ := h
    rfl
  · obtain ⟨R, rs, t, v, d, r, rfl, hd, n1, hR, it, ft, hv, few, q⟩ := h
    refine ⟨_, PSs.nox (pss_cons (ps_set (i := 1) scLRowLines.nd rfl (Or.inl rfl) (pe_lst pa_nil))
    (pss_cons (ps_for PassesOwn.never rfl (pi_tup (pv 0)) (pg_name (i := 2) scLRowLines.nd rfl (Or.inl rfl))
      (pss_one (ps_if (pt_cmpR op_eq (pe_ix ix_tup (pv 2) pe_int (fun _ _ => rfl)) pe_str (nomark _))
        (pss_one (ps_expr (pe_bm PySem.F.plainAttrs_list PySem.F.slot_list_append PySem.F.type_list_append mt_append (pv 1) (pa_cons (pe_op op_cat (pe_lst (pa_cons pe_str (pa_cons (pe_ix ix_tup (pv 2) pe_int (fun _ _ => rfl)) pa_nil))) (pe_lc (own := [("part", 3)]) (g := gName 3) (tt := tYes) rfl scLRowLines.nd (pi_tup (pe_ix ix_tup (pv 2) pe_int (fun _ _ => rfl))) (blkOk_by (own := [("part", 3)]) (N := ["rows", "found", "row", "part"]) (sc := defScope sLRowLines) (by decide +kernel)) (by exact (fun _ _ _ _ _ => (pg_name (i := 3) scLRowLines.nd rfl (Or.inl rfl)))) (by exact (fun _ _ _ _ _ => pts_nil)) (by exact (fun _ _ _ _ _ => (pe_callTy call_strB (by rfl) m_str (by decide +kernel) (pa_cons (pv 3) pa_nil)))))) pa_nil))))
        (pss_one (ps_if (pt_cmpR op_eq (pe_ix ix_tup (pv 2) pe_int (fun _ _ => rfl)) pe_str (nomark _))
          (pss_one (ps_expr (pe_bm PySem.F.plainAttrs_list PySem.F.slot_list_append PySem.F.type_list_append mt_append (pv 1) (pa_cons (pe_lst (pa_cons pe_str (pa_cons (pe_ix ix_tup (pv 2) pe_int (fun _ _ => rfl)) pa_nil))) pa_nil))))
          (pss_cons (ps_expr (pe_bm PySem.F.plainAttrs_list PySem.F.slot_list_append PySem.F.type_list_append mt_append (pv 1) (pa_cons (pe_lst (pa_cons (pe_ix ix_tup (pv 2) pe_int (fun _ _ => rfl)) (pa_cons (pe_callTy call_strB (by rfl) m_str (by decide +kernel) (pa_cons (pe_ix ix_tup (pv 2) pe_int (fun _ _ => rfl)) pa_nil)) pa_nil))) pa_nil)))
          (pss_cons (ps_expr (pe_bm PySem.F.plainAttrs_list PySem.F.slot_list_extend PySem.F.type_list_extend mt_extend (pv 1) (pa_cons (pe_call G hr (by rfl) gR kR bR .nil pass0 (pa_cons (pe_ix ix_tup (pv 2) pe_int (fun _ _ => rfl)) pa_nil)) pa_nil)))
          (pss_cons (ps_expr (pe_bm PySem.F.plainAttrs_list PySem.F.slot_list_extend PySem.F.type_list_extend mt_extend (pv 1) (pa_cons (pe_ifExp (pt_cmpR op_eq (pe_ix ix_tup (pv 2) pe_int (fun _ _ => rfl)) pe_str (nomark _)) (pe_op op_cat (pe_lst (pa_cons (pe_lst (pa_cons pe_str pa_nil)) pa_nil)) (pe_call G hr (by rfl) gR kR bR .nil pass0 (pa_cons (pe_ix ix_tup (pv 2) pe_int (fun _ _ => rfl)) pa_nil))) (pe_lst pa_nil)) pa_nil)))
          (pss_one (ps_expr (pe_bm PySem.F.plainAttrs_list PySem.F.slot_list_append PySem.F.type_list_append mt_append (pv 1) (pa_cons (pe_lst (pa_cons pe_str pa_nil)) pa_nil))))))))))))
    (pss_one (ps_ret (pv 1))))), ?_⟩
    have szl := sizeLine_eq
    have no : ∀ {y z : PySem.Str}, y ≠ z → ¬ decide (V.str y = V.str z) = true := fun h e => h (V.str.inj (of_decide_eq_true e))
    refine ⟨(show 0 ≤ sizeLine by decide), fun F0 hF => ?_⟩
    have g0 : Gr H (upd H F0 (.lst [])) F0 [] [] := ⟨upd_same, by simp, .nil, Kept.refl.upd rfl⟩
    have hR1 : upd H F0 (.lst []) R = some (.tup rs) := by rw [upd_ne (ne_of_none hR hF)]; exact hR
    have i1 : Its (upd H F0 (.lst [])) rs t := it.stay (Kept.refl.new hF : Kept None H (upd H F0 (.lst []))) fun _ _ _ z => z
    generalize upd H F0 (.lst []) = H1 at g0 hR1 i1 ⊢
    refine ⟨.ref R, rfl, R, rfl, ⟨_, SqT.of hR1⟩, ?_⟩
    have ntF : ∀ {Hx : Hp} {zs : List V}, Hx F0 = some (.lst zs) → ∀ q ys, Hx q = some (.tup ys) → ¬ q = F0 := fun e q ys e2 z => by
      rw [z, e] at e2; cases e2
    refine for_tup (K := K) (a := R) (xs := rs) (fun i σ H' => ∃ (u w : Tr) (ts : List Addr) (x2 x3 : Option V), σ = [some (.ref R), some (.ref F0), x2, x3] ∧ t = u.app w ∧ Gr H H' F0 ts u.lines ∧ Its H' (rs.drop i) w ∧ w.fine v d r)
      ⟨.nil, t, [], none, none, rfl, rfl, g0, i1, ft⟩ (fun i σ H' _ h => ?_) (fun i x σ H' hx h => ?_) (fun σ H' h => ?_)
    · obtain ⟨_, _, _, _, _, _, _, g, _⟩ := h
      have := g.k.tup hR (ne_of_none hR hF)
      exact SqT.of this
    · obtain ⟨u, w, ts, x2, x3, rfl, htu, g, iw, fw⟩ := h
      have hi : i < rs.length := (List.getElem?_eq_some_iff.mp hx).1
      have hdr : rs.drop i = x :: rs.drop (i + 1) := by
        rw [List.drop_eq_getElem_cons hi, (List.getElem?_eq_some_iff.mp hx).2]
      rw [hdr] at iw
      have hlen : u.lines.length + w.lines.length = t.lines.length := by rw [htu, Tr.app_lines, List.length_append]
      have hts := g.l.len
      have nn : ∀ {Hx : Hp} (p : Addr) (ys : List V), Hx p = some (.tup ys) → ¬ None p := fun p ys _ z => z
      have fin : ∀ (one w' : Tr) (ts' : List Addr) (Hn : Hp) (z3 : Option V), w = one.app w' → w'.fine v d r → Its H' (rs.drop (i + 1)) w' → Gr H Hn F0 ts' (u.lines ++ one.lines) → Kept (fun b => b = F0) H' Hn → (∃ (u w : Tr) (ts : List Addr) (x2 x3 : Option V), ([some (.ref R), some (.ref F0), some x, z3] : L2.St) = [some (.ref R), some (.ref F0), x2, x3] ∧ t = u.app w ∧ Gr H Hn F0 ts u.lines ∧ Its Hn (rs.drop (i + 1)) w ∧ w.fine v d r) := fun one w' ts' Hn z3 ew fw' iw' gn kn =>
        ⟨u.app one, w', ts', _, _, rfl, by rw [htu, ew, Tr.app_assoc], by rw [Tr.app_lines]; exact gn, iw'.stay kn (ntF g.f), fw'⟩
      cases iw with
      | @set p qq x e _ t' h he i0 =>
        simp only [Tr.lines, List.length_cons] at hlen
        refine ⟨.ref p, rfl, p, _, 0, .str "set", rfl, rfl, SqT.of h, atI_nat (j := 0) rfl, rfl, _, rfl, ite2 (fun _ => ?_) (fun z => absurd (decide_eq_true rfl) z)⟩
        refine ⟨.ref F0, rfl, .inl ⟨rfl, _, SqL.of g.f⟩, .ref p, rfl, p, _, 1, .str x, rfl, rfl, SqT.of h, atI_nat (j := 1) rfl, (show 2 ≤ sizeLine by decide), fun l1 hl1 => ?_⟩
        have ka : Kept None H' (upd H' l1 (.lst [.str "set", .str x])) := Kept.refl.new hl1
        have ea : upd H' l1 (.lst [.str "set", .str x]) l1 = some (.lst [.str "set", .str x]) := upd_same
        generalize upd H' l1 (.lst [.str "set", .str x]) = H2 at ka ea ⊢
        have he2 := ka.tup he fun z => z
        refine ⟨.ref p, rfl, p, _, 2, .ref qq, rfl, rfl, SqT.of (ka.tup h fun z => z), atI_nat (j := 2) rfl, qq, rfl, ⟨_, SqT.of he2⟩, fun D hD => ?_⟩
        have sm := e.sm fw.2.1 fw.2.2.1 hv
        have few4 : e.vs.length ≤ 4 := by cases e <;> simp [Ex.vs, Ex.parts]
        refine lc_tup (K := K) (a := qq) (xs := e.vs) (fun i H' => Kept None H2 H' ∧ H' D = some (.lst (((e.vs.take i).map txV).map V.str))) ⟨Kept.refl.new hD, upd_same⟩ (fun i H' _ h => SqT.of (h.1.tup he2 fun z => z)) (fun i x H' hx h => ?_) (fun H3 h3 => ?_)
        · obtain ⟨k1, k2⟩ := h
          have sx := sm x (List.mem_of_getElem? hx)
          refine ⟨rfl, ?_⟩
          unfold tYes
          dsimp only
          rw [if_pos rfl]
          refine ⟨x, rfl, ?_⟩
          unfold tNil
          refine sx.str ⟨_, k2, ?_, fun b o e n => ?_, ?_⟩
          · rw [List.length_map, List.length_map, List.length_take]; omega
          · rw [upd_ne (ne_of_none e hD)]
            exact k1 b o e n
          · rw [upd_same, List.take_add_one, hx, List.map_append, List.map_append]
            rfl
        · obtain ⟨k1, k2⟩ := h3
          rw [List.take_length, Ex.tx] at k2
          have w4 : e.words.length ≤ 4 := by rw [← Ex.tx, List.length_map]; exact few4
          refine ⟨l1, D, _, _, rfl, rfl, k1.lst ea fun z => z, k2, by simp only [List.length_cons, List.length_nil, List.length_map]; omega, fun l3 hl3 => ?_⟩
          have k3 := (ka.trans k1).new ((ka.trans k1).free hl3) (o := .lst ([.str "set", .str x] ++ e.words.map V.str))
          have e3 : upd H3 l3 (.lst ([.str "set", .str x] ++ e.words.map V.str)) l3 = some (.lst ((("set" : PySem.Str) :: x :: e.words).map V.str)) := by rw [upd_same]; rfl
          obtain ⟨g1, g2⟩ := g.one k3 e3 ((ka.trans k1).free hl3)
          exact ⟨F0, _, _, rfl, rfl, g1, by rw [List.length_map]; omega, fin (.set x e .nil) t' _ _ _ rfl fw.2.2.2.2 i0 g2 ((k3.weak fun _ z => z.elim).upd rfl)⟩
      | @tell p x _ t' h i0 =>
        simp only [Tr.lines, List.length_cons] at hlen
        refine ⟨.ref p, rfl, p, _, 0, .str "tell", rfl, rfl, SqT.of h, atI_nat (j := 0) rfl, rfl, _, rfl, ite2 (fun z => absurd z (no (by decide))) (fun _ => ?_)⟩
        refine ⟨.ref p, rfl, p, _, 0, .str "tell", rfl, rfl, SqT.of h, atI_nat (j := 0) rfl, rfl, _, rfl, ite2 (fun _ => ?_) (fun z => absurd (decide_eq_true rfl) z)⟩
        refine ⟨.ref F0, rfl, .inl ⟨rfl, _, SqL.of g.f⟩, .ref p, rfl, p, _, 1, .str x, rfl, rfl, SqT.of h, atI_nat (j := 1) rfl, (show 2 ≤ sizeLine by decide), fun l1 hl1 => ?_⟩
        have ka : Kept None H' (upd H' l1 (.lst [.str "tell", .str x])) := Kept.refl.new hl1
        obtain ⟨g1, g2⟩ := g.one (l := ["tell", x]) ka upd_same hl1
        exact ⟨F0, _, _, rfl, rfl, g1, by rw [List.length_map]; omega, fin (.tell x .nil) t' _ _ _ rfl fw.2.2 i0 g2 ((ka.weak fun _ z => z.elim).upd rfl)⟩
      | @ite p q1 q2 x as bs _ a b t' h h1 h2 ra rb i0 =>
        have d6 : d ≤ 6 := fw.2.1
        simp only [Tr.lines, List.length_cons, List.length_append] at hlen
        refine ⟨.ref p, rfl, p, _, 0, .str "if", rfl, rfl, SqT.of h, atI_nat (j := 0) rfl, rfl, _, rfl, ite2 (fun z => absurd z (no (by decide))) (fun _ => ?_)⟩
        refine ⟨.ref p, rfl, p, _, 0, .str "if", rfl, rfl, SqT.of h, atI_nat (j := 0) rfl, rfl, _, rfl, ite2 (fun z => absurd z (no (by decide))) (fun _ => ?_)⟩
        refine ⟨.ref F0, rfl, .inl ⟨rfl, _, SqL.of g.f⟩, .ref p, rfl, p, _, 0, .str "if", rfl, rfl, SqT.of h, atI_nat (j := 0) rfl, .ref p, rfl, p, _, 1, .str x, rfl, rfl, SqT.of h, atI_nat (j := 1) rfl, ?_⟩
        unfold tNil
        refine fw.1.sm.str ⟨(show 2 ≤ sizeLine by decide), fun l1 hl1 => ?_⟩
        have ka : Kept None H' (upd H' l1 (.lst [.str "if", .str (txV (.str x))])) := Kept.refl.new hl1
        obtain ⟨g1, g2⟩ := g.one (l := ["if", x]) ka upd_same hl1
        have kA : Kept (fun b => b = F0) H' (upd (upd H' l1 (.lst [.str "if", .str (txV (.str x))])) F0 (.lst (ts.map V.ref ++ [.ref l1]))) := (ka.weak fun _ z => z.elim).upd rfl
        refine ⟨F0, _, _, rfl, rfl, g1, by rw [List.length_map]; omega, ?_⟩
        generalize upd (upd H' l1 (.lst [.str "if", .str (txV (.str x))])) F0 (.lst (ts.map V.ref ++ [.ref l1])) = HA at g2 kA ⊢
        have hA := kA.tup h (ntF g.f _ _ h)
        refine ⟨.ref F0, rfl, .inl ⟨rfl, _, SqL.of g2.f⟩, .ref p, rfl, p, _, 2, .ref q1, rfl, rfl, SqT.of hA, atI_nat (j := 2) rfl, q1, as, a, v, d + 1, r, rfl, by omega, by omega, kA.tup h1 (ntF g.f _ _ h1), ra.stay kA (ntF g.f), fw.2.2.1, hv, by omega, fun pl us H3 npl k3 e3 nus l3 => ?_⟩
        obtain ⟨g3, g4⟩ := g2.more k3 l3
        have l3l := l3.len
        refine ⟨F0, pl, _, _, rfl, rfl, g3, e3, by simp only [List.length_map, List.length_append, List.length_singleton]; rw [szl]; omega, ?_⟩
        have kB := kA.trans ((k3.weak fun _ z => z.elim).upd rfl (o := .lst ((ts ++ [l1]).map V.ref ++ us.map V.ref)))
        generalize upd H3 F0 (.lst ((ts ++ [l1]).map V.ref ++ us.map V.ref)) = HB at g4 kB ⊢
        have hB := kB.tup h (ntF g.f _ _ h)
        refine ⟨.ref F0, rfl, .inl ⟨rfl, _, SqL.of g4.f⟩, .ref p, rfl, p, _, 0, .str "if", rfl, rfl, SqT.of hB, atI_nat (j := 0) rfl, rfl, _, rfl, ite2 (fun _ => ?_) (fun z => absurd (decide_eq_true rfl) z)⟩
        refine ⟨(show 1 ≤ sizeLine by decide), fun m1 hm1 => ⟨(show 1 ≤ sizeLine by decide), fun m2 hm2 => ?_⟩⟩
        have kc : Kept None HB (upd HB m1 (.lst [.str "else"])) := Kept.refl.new hm1
        have em1 : upd HB m1 (.lst [.str "else"]) m1 = some (.lst ([("else" : PySem.Str)].map V.str)) := upd_same
        have kd := kc.new (kc.free hm2) (o := .lst [.ref m1])
        have em1 := (Kept.refl.new hm2 : Kept None _ (upd (upd HB m1 (.lst [.str "else"])) m2 (.lst [.ref m1]))).lst em1 fun z => z
        have em2 : upd (upd HB m1 (.lst [.str "else"])) m2 (.lst [.ref m1]) m2 = some (.lst [.ref m1]) := upd_same
        have kd' : Kept None HB (upd (upd HB m1 (.lst [.str "else"])) m2 (.lst [.ref m1])) := kd
        generalize upd (upd HB m1 (.lst [.str "else"])) m2 (.lst [.ref m1]) = HC at kd' em1 em2 ⊢
        have hC := kd'.tup hB fun z => z
        have kBC : Kept (fun b => b = F0) H' HC := kB.trans (kd'.weak fun _ z => z.elim)
        refine ⟨.ref p, rfl, p, _, 3, .ref q2, rfl, rfl, SqT.of hC, atI_nat (j := 3) rfl, q2, bs, b, v, d + 1, r, rfl, by omega, by omega, kBC.tup h2 (ntF g.f _ _ h2), rb.stay kBC (ntF g.f), fw.2.2.2.1, hv, by omega, fun pl2 us2 H5 npl2 k5 e5 nus2 l5 => ?_⟩
        have l5l := l5.len
        refine ⟨m2, pl2, _, _, rfl, rfl, k5.lst em2 fun z => z, e5, by simp only [List.length_map, List.length_singleton]; omega, fun m3 hm3 => ?_⟩
        have kE := (kd'.trans k5).new ((kd'.trans k5).free hm3) (o := .lst ([.ref m1] ++ us2.map V.ref))
        have kE2 : Kept None H5 (upd H5 m3 (.lst ([.ref m1] ++ us2.map V.ref))) := Kept.refl.new hm3
        have l7 : Ls HB (upd H5 m3 (.lst ([.ref m1] ++ us2.map V.ref))) (m1 :: us2) ([("else" : PySem.Str)] :: b.lines) := .cons (kE2.lst (k5.lst em1 fun z => z) fun z => z) hm1 ((l5.stay kE2 fun _ _ z => z).old kd' fun _ _ z => z)
        obtain ⟨g5, g6⟩ := g4.more kE l7
        refine ⟨F0, m3, _, _, rfl, rfl, g5, upd_same, by simp only [List.length_map, List.length_append, List.length_singleton, List.length_cons, List.length_nil]; rw [szl]; omega, ?_⟩
        have kF := kB.trans ((kE.weak fun _ z => z.elim).upd rfl (o := .lst ((ts ++ [l1] ++ us).map V.ref ++ ([.ref m1] ++ us2.map V.ref))))
        have g6' : Gr H (upd (upd H5 m3 (.lst ([.ref m1] ++ us2.map V.ref))) F0 (.lst ((ts ++ [l1] ++ us).map V.ref ++ ([.ref m1] ++ us2.map V.ref)))) F0 _ _ := g6
        generalize upd (upd H5 m3 (.lst ([.ref m1] ++ us2.map V.ref))) F0 (.lst ((ts ++ [l1] ++ us).map V.ref ++ ([.ref m1] ++ us2.map V.ref))) = HF at g6' kF ⊢
        refine ⟨.ref F0, rfl, .inl ⟨rfl, _, SqL.of g6'.f⟩, (show 1 ≤ sizeLine by decide), fun l9 hl9 => ?_⟩
        have kG : Kept None HF (upd HF l9 (.lst [.str "end"])) := Kept.refl.new hl9
        obtain ⟨g7, g8⟩ := g6'.one (l := ["end"]) kG upd_same hl9
        refine ⟨F0, _, _, rfl, rfl, g7, by simp only [List.length_map, List.length_append, List.length_singleton, List.length_cons, List.length_nil]; rw [szl]; omega, fin (.ite x a b .nil) t' (ts ++ [l1] ++ us ++ (m1 :: us2) ++ [l9]) _ _ rfl fw.2.2.2.2 i0 ?_ (kF.trans ((kG.weak fun _ z => z.elim).upd rfl))⟩
        have eL : u.lines ++ (Tr.ite x a b .nil).lines = u.lines ++ [[("if" : PySem.Str), x]] ++ a.lines ++ ([("else" : PySem.Str)] :: b.lines) ++ [[("end" : PySem.Str)]] := by simp [Tr.lines]
        rw [eL]
        exact g8
      | @rnd p q1 c as _ a t' h h1 ra i0 =>
        have d6 : d ≤ 6 := fw.2.2.1
        have sc : Sm (.int (c : Int)) := .inr ⟨c, rfl, by have := fw.1; omega⟩
        simp only [Tr.lines, List.length_cons, List.length_append] at hlen
        refine ⟨.ref p, rfl, p, _, 0, .str "round", rfl, rfl, SqT.of h, atI_nat (j := 0) rfl, rfl, _, rfl, ite2 (fun z => absurd z (no (by decide))) (fun _ => ?_)⟩
        refine ⟨.ref p, rfl, p, _, 0, .str "round", rfl, rfl, SqT.of h, atI_nat (j := 0) rfl, rfl, _, rfl, ite2 (fun z => absurd z (no (by decide))) (fun _ => ?_)⟩
        refine ⟨.ref F0, rfl, .inl ⟨rfl, _, SqL.of g.f⟩, .ref p, rfl, p, _, 0, .str "round", rfl, rfl, SqT.of h, atI_nat (j := 0) rfl, .ref p, rfl, p, _, 1, .int (c : Int), rfl, rfl, SqT.of h, atI_nat (j := 1) rfl, ?_⟩
        unfold tNil
        refine sc.str ⟨(show 2 ≤ sizeLine by decide), fun l1 hl1 => ?_⟩
        have ka : Kept None H' (upd H' l1 (.lst [.str "round", .str (txV (.int (c : Int)))])) := Kept.refl.new hl1
        obtain ⟨g1, g2⟩ := g.one (l := ["round", dec c]) ka upd_same hl1
        have kA : Kept (fun b => b = F0) H' (upd (upd H' l1 (.lst [.str "round", .str (txV (.int (c : Int)))])) F0 (.lst (ts.map V.ref ++ [.ref l1]))) := (ka.weak fun _ z => z.elim).upd rfl
        refine ⟨F0, _, _, rfl, rfl, g1, by rw [List.length_map]; omega, ?_⟩
        generalize upd (upd H' l1 (.lst [.str "round", .str (txV (.int (c : Int)))])) F0 (.lst (ts.map V.ref ++ [.ref l1])) = HA at g2 kA ⊢
        have hA := kA.tup h (ntF g.f _ _ h)
        refine ⟨.ref F0, rfl, .inl ⟨rfl, _, SqL.of g2.f⟩, .ref p, rfl, p, _, 2, .ref q1, rfl, rfl, SqT.of hA, atI_nat (j := 2) rfl, q1, as, a, v, d + 1, r + 1, rfl, by omega, by omega, kA.tup h1 (ntF g.f _ _ h1), ra.stay kA (ntF g.f), fw.2.2.2.1, hv, by omega, fun pl us H3 npl k3 e3 nus l3 => ?_⟩
        obtain ⟨g3, g4⟩ := g2.more k3 l3
        have l3l := l3.len
        refine ⟨F0, pl, _, _, rfl, rfl, g3, e3, by simp only [List.length_map, List.length_append, List.length_singleton]; rw [szl]; omega, ?_⟩
        have kB := kA.trans ((k3.weak fun _ z => z.elim).upd rfl (o := .lst ((ts ++ [l1]).map V.ref ++ us.map V.ref)))
        generalize upd H3 F0 (.lst ((ts ++ [l1]).map V.ref ++ us.map V.ref)) = HB at g4 kB ⊢
        have hB := kB.tup h (ntF g.f _ _ h)
        refine ⟨.ref F0, rfl, .inl ⟨rfl, _, SqL.of g4.f⟩, .ref p, rfl, p, _, 0, .str "round", rfl, rfl, SqT.of hB, atI_nat (j := 0) rfl, rfl, _, rfl, ite2 (fun z => absurd z (no (by decide))) (fun _ => ?_)⟩
        refine ⟨(show 0 ≤ sizeLine by decide), fun m3 hm3 => ?_⟩
        have kE : Kept None HB (upd HB m3 (.lst [])) := Kept.refl.new hm3
        obtain ⟨g5, g6⟩ := g4.more (us := []) (ms := []) kE .nil
        refine ⟨F0, m3, _, _, rfl, rfl, g5, upd_same, by simp only [List.length_map, List.length_append, List.length_singleton, List.length_cons, List.length_nil]; rw [szl]; omega, ?_⟩
        have kF := kB.trans ((kE.weak fun _ z => z.elim).upd rfl (o := .lst ((ts ++ [l1] ++ us).map V.ref ++ [])))
        have g6' : Gr H (upd (upd HB m3 (.lst [])) F0 (.lst ((ts ++ [l1] ++ us).map V.ref ++ []))) F0 _ _ := g6
        generalize upd (upd HB m3 (.lst [])) F0 (.lst ((ts ++ [l1] ++ us).map V.ref ++ [])) = HF at g6' kF ⊢
        refine ⟨.ref F0, rfl, .inl ⟨rfl, _, SqL.of g6'.f⟩, (show 1 ≤ sizeLine by decide), fun l9 hl9 => ?_⟩
        have kG : Kept None HF (upd HF l9 (.lst [.str "end"])) := Kept.refl.new hl9
        obtain ⟨g7, g8⟩ := g6'.one (l := ["end"]) kG upd_same hl9
        refine ⟨F0, _, _, rfl, rfl, g7, by simp only [List.length_map, List.length_append, List.length_singleton, List.length_cons, List.length_nil]; rw [szl]; omega, fin (.rnd c a .nil) t' (ts ++ [l1] ++ us ++ [] ++ [l9]) _ _ rfl fw.2.2.2.2 i0 ?_ (kF.trans ((kG.weak fun _ z => z.elim).upd rfl))⟩
        have eL : u.lines ++ (Tr.rnd c a .nil).lines = u.lines ++ [[("round" : PySem.Str), dec c]] ++ a.lines ++ [] ++ [[("end" : PySem.Str)]] := by simp [Tr.lines]
        rw [eL]
        exact g8
    · obtain ⟨u, w, ts, x2, x3, rfl, htu, g, iw, fw⟩ := h
      rw [List.drop_length] at iw
      cases iw
      rw [Tr.app_nil] at htu
      subst htu
      exact ⟨.ref F0, rfl, q F0 ts H' hF (fun b o e _ => g.k b o e (ne_of_none e hF)) g.f g.n g.l⟩
end
end K7

set_option Elab.async false
set_option linter.all false
set_option maxRecDepth 100000
set_option maxHeartbeats 4000000
namespace K7
open PySem PySem.Spec PyProof.Rows L2 TL
abbrev sLProgram : Stmt := top 33
theorem scLProgram : FnScope ["draw", "wide", "inputs", "k"] ["draw"] (defScope sLProgram) := ⟨rfl, rfl, rfl, by decide +kernel, rfl, by decide +kernel, by decide +kernel⟩
abbrev sLLines : Stmt := top 35
theorem scLLines : FnScope ["program"] ["program"] (defScope sLLines) := ⟨rfl, rfl, rfl, by decide +kernel, rfl, by decide +kernel, by decide +kernel⟩
def spLProg : Sp := fun vs H Q _ => ∃ (d c : Addr) (ns : List Int) (n : Nat), vs = [.ref d] ∧ Dr H d c ns n ∧ n ≤ 600000000 ∧ ∀ (g : Pg) (p : Addr) H', g.fine → PgAt H' p g → Kept (At d) H H' → Dr H' d c ns (n + 7000) → Q (.ref p) H'
def spLLines : Sp := fun vs H Q _ => ∃ (p : Addr) (g : Pg), vs = [.ref p] ∧ PgAt H p g ∧ g.fine ∧ ∀ (L : Addr) (ts : List Addr) H', H L = none → Kept None H H' → H' L = some (.lst (ts.map V.ref)) → Ls H H' ts g.lines → Q (.ref L) H'
section
variable {P : Program} {w : World} {K : PySem.W.Frag} {mg : PySem.Str → Option Value} {base : Heap} {f fN fM fR : Addr} {fd fdN fdM fdR : FuncData}
theorem ok_lprog (F : FnP K "_law_program" sLProgram f fd) (GN : FnOk P w K mg base CX0 2 fN fdN ["draw", "many"] spNext) (bN : Binds K fdN ["draw", "many"] []) (kN : PySem.W.keepIn K (.ref fN) = true) (gN : mg "_law_next" = some (.ref fN))
    (GM : FnOk P w K mg base CX0 3 fM fdM ["draw"] spLName) (bM : Binds K fdM ["draw"] []) (kM : PySem.W.keepIn K (.ref fM) = true) (gM : mg "_law_name" = some (.ref fM))
    (GR : FnOk P w K mg base CX0 (5 + 6) fR fdR ["draw", "room", "deep", "wide", "rounds"] (spLRows 6)) (bR : Binds K fdR ["draw", "room", "deep", "wide", "rounds"] []) (kR : PySem.W.keepIn K (.ref fR) = true) (gR : mg "_law_rows" = some (.ref fR))
    (m_range : mg "range" = none) (m_tuple : mg "tuple" = none) : FnOk P w K mg base CX0 12 f fd ["draw"] spLProg := by
  refine F.ok (k := 11) scLProgram (fun vs H Q E h => ?_) (fun cdv A outer s H vs Q E hr h => ?_)
  · obtain ⟨d, c, ns, n, rfl, _⟩ := h
    rfl
  · obtain ⟨d, c, ns, n, rfl, D, hn, q⟩ := h
    have GN := GN.mono (show 2 ≤ 11 by decide)
    have GM := GM.mono (show 3 ≤ 11 by decide)
    refine ⟨_, PSs.nox (pss_cons (ps_set (i := 1) scLProgram.nd rfl (Or.inl rfl) (pe_ix ix_list (pe_lst (pa_cons pe_int (pa_cons pe_int (pa_cons (pe_op op_add pe_int (pe_call GN hr (by rfl) gN kN bN .nil pass0 (pa_cons (pv 0) (pa_cons pe_int pa_nil)))) (pa_cons pe_int pa_nil))))) (pe_call GN hr (by rfl) gN kN bN .nil pass0 (pa_cons (pv 0) (pa_cons pe_int pa_nil))) (fun _ _ => rfl)))
    (pss_cons (ps_set (i := 2) scLProgram.nd rfl (Or.inl rfl) (pe_tupleOf (by rfl) m_tuple (pe_lc (own := [("k", 3)]) (g := gName 3) (tt := tYes) rfl scLProgram.nd (pi_range1 rfl m_range (pa_cons (pe_call GN hr (by rfl) gN kN bN .nil pass0 (pa_cons (pv 0) (pa_cons pe_int pa_nil))) pa_nil)) (blkOk_by (own := [("k", 3)]) (N := ["draw", "wide", "inputs", "k"]) (sc := defScope sLProgram) (by decide +kernel)) (by exact (fun _ _ _ _ _ => (pg_name (i := 3) scLProgram.nd rfl (Or.inl rfl)))) (by exact (fun _ _ _ _ _ => pts_nil)) (by exact (fun _ _ _ _ _ => (pe_call GM hr (by rfl) gM kM bM .nil pass0 (pa_cons (pv 0) pa_nil)))))))
    (pss_one (ps_ret (pe_tup (pa_cons (pv 1) (pa_cons (pv 2) (pa_cons (pe_call GR hr (by rfl) gR kR bR .nil pass0 (pa_cons (pv 0) (pa_cons (pe_lst (pa_cons (pe_ix ix_list (pe_lst (pa_cons pe_int (pa_cons pe_int (pa_cons pe_int pa_nil)))) (pe_call GN hr (by rfl) gN kN bN .nil pass0 (pa_cons (pv 0) (pa_cons pe_int pa_nil))) (fun _ _ => rfl)) pa_nil)) (pa_cons pe_int (pa_cons (pv 1) (pa_cons pe_int pa_nil)))))) pa_nil)))))))), ?_⟩
    have szl := sizeLine_eq
    refine ⟨.ref d, rfl, d, c, ns, n, 12, rfl, D, by omega, by decide, by decide, fun r1 H1 a1 b1 k1 D1 => ?_⟩
    refine ⟨1, r1, rfl, rfl, (show 4 ≤ sizeLine by decide), fun p1 hp1 => ?_⟩
    refine ⟨.ref d, rfl, d, c, ns, _, 4, rfl, D1.new hp1, by omega, by decide, by decide, fun r2 H2 a2 b2 k2 D2 => ?_⟩
    obtain ⟨y, hy, v, rfl, v1, v2⟩ : ∃ x, atI [V.int 1, .int 12, .int (1 + r1), .int 4] r2 = some x ∧ ∃ m : Nat, x = .int (m : Int) ∧ 1 ≤ m ∧ m ≤ 12 := at_nat (m := 4) a2 b2 rfl _ (fun x hx => by
      simp only [List.mem_cons, List.not_mem_nil, or_false] at hx
      rcases hx with rfl | rfl | rfl | rfl
      · exact ⟨1, rfl, by decide, by decide⟩
      · exact ⟨12, rfl, by decide, by decide⟩
      · exact ⟨(1 + r1).toNat, by rw [Int.toNat_of_nonneg (by omega)], by omega, by omega⟩
      · exact ⟨4, rfl, by decide, by decide⟩)
    refine ⟨p1, _, r2, .int (v : Int), rfl, rfl, SqL.of (k2.lst upd_same (D1.apart hp1)), hy, ?_⟩
    have kA : Kept (At d) H H2 := (k1.nu D1 hp1).trans k2
    clear hy
    refine ⟨.ref d, rfl, d, c, ns, _, 5, rfl, D2, by omega, by decide, by decide, fun r3 H3 a3 b3 k3 D3 => ?_⟩
    obtain ⟨r3, rfl⟩ := Int.eq_ofNat_of_zero_le a3
    have kB := kA.trans k3
    refine ⟨(r3 : Int), rfl, by omega, by omega, fun L hL => ?_⟩
    have hLH : H L = none := At.free kB D3 hL
    have hLd : ¬ L = d := D3.apart hL
    have hLc := D3.apartC hL
    refine lc_range (lo := 0) (n := r3) (fun i H' => Kept (At2 d L) H3 H' ∧ Dr H' d c ns (n + 3 + 11 * i) ∧ ∃ es : List PySem.Str, es.length = i ∧ H' L = some (.lst (es.map V.str)) ∧ ∀ x ∈ es, Nm x)
      ⟨Kept.refl.upd (.inr rfl), D3.keep hLd hLc, [], rfl, upd_same, by simp⟩ (fun i H' hi h => ?_) (fun H' h => ?_)
    · obtain ⟨ki, Di, es, e1, e2, e3⟩ := h
      refine ⟨rfl, ?_⟩
      unfold tYes
      dsimp only
      rw [if_pos rfl]
      refine ⟨.ref d, rfl, d, c, ns, _, rfl, Di, by omega, fun x H6 nx k6 D6 => ?_⟩
      refine ⟨es.map V.str, k6.lst e2 hLd, by rw [List.length_map]; omega, (ki.trans (k6.weak fun b hb => .inl hb)).upd (.inr rfl), (D6.keep hLd hLc).more (by omega), es ++ [x], by rw [List.length_append, e1]; rfl, by rw [upd_same, List.map_append]; rfl, fun y hy => ?_⟩
      rcases List.mem_append.mp hy with h | h
      · exact e3 y h
      · rw [List.mem_singleton.mp h]; exact nx
    · obtain ⟨ki, Di, es, e1, e2, e3⟩ := h
      have kH : Kept (At d) H H' := kB.drop hLH ki
      refine .inl ⟨L, _, rfl, SqL.of e2, fun q1 hq1 => ?_⟩
      have kC := kH.nu Di hq1 (o := .tup (es.map V.str))
      have DC := Di.new hq1 (o := .tup (es.map V.str))
      have eq1 : upd H' q1 (.tup (es.map V.str)) q1 = some (.tup (es.map V.str)) := upd_same
      generalize upd H' q1 (.tup (es.map V.str)) = H4 at kC DC eq1 ⊢
      refine ⟨.int (v : Int), rfl, .ref q1, rfl, .ref d, rfl, (show 3 ≤ sizeLine by decide), fun p5 hp5 => ?_⟩
      have kD := kC.nu DC hp5 (o := .lst [.int 6, .int 20, .int 60])
      have DD := DC.new hp5 (o := .lst [.int 6, .int 20, .int 60])
      have e5 : upd H4 p5 (.lst [.int 6, .int 20, .int 60]) p5 = some (.lst [.int 6, .int 20, .int 60]) := upd_same
      have eq2 := (Kept.refl.new hp5 : Kept None H4 (upd H4 p5 (.lst [.int 6, .int 20, .int 60]))).tup eq1 fun z => z
      have hp5d := DC.apart hp5
      generalize upd H4 p5 (.lst [.int 6, .int 20, .int 60]) = H5 at kD DD e5 eq2 ⊢
      refine ⟨.ref d, rfl, d, c, ns, _, 3, rfl, DD, by omega, by decide, by decide, fun r6 H6 a6 b6 k6 D6 => ?_⟩
      obtain ⟨y, hy, room, rfl, hroom⟩ : ∃ x, atI [V.int 6, .int 20, .int 60] r6 = some x ∧ ∃ m : Nat, x = .int (m : Int) ∧ m ≤ 60 := at_nat (m := 3) a6 b6 rfl _ (fun x hx => by
        simp only [List.mem_cons, List.not_mem_nil, or_false] at hx
        rcases hx with rfl | rfl | rfl
        · exact ⟨6, rfl, by decide⟩
        · exact ⟨20, rfl, by decide⟩
        · exact ⟨60, rfl, by decide⟩)
      refine ⟨p5, _, r6, .int (room : Int), rfl, rfl, SqL.of (k6.lst e5 hp5d), hy, (show 1 ≤ sizeLine by decide), fun R hR => ?_⟩
      have kE := (kD.trans k6).nu D6 hR (o := .lst [.int (room : Int)])
      have DE := D6.new hR (o := .lst [.int (room : Int)])
      have hRd := D6.apart hR
      have hRc := D6.apartC hR
      have hRH := At.free (kD.trans k6) D6 hR
      have q1d : ¬ q1 = d := fun z => by
        obtain ⟨_, _, _, z2, _⟩ := DD.at_
        rw [← z, eq2] at z2; cases z2
      have eq3 := (k6.trans (Kept.refl.new hR : Kept (At d) H6 (upd H6 R (.lst [.int (room : Int)])))).tup eq2 q1d
      have eR : upd H6 R (.lst [.int (room : Int)]) R = some (.lst [.int (room : Int)]) := upd_same
      generalize upd H6 R (.lst [.int (room : Int)]) = H7 at kE DE eq3 eR ⊢
      refine ⟨.int (v : Int), rfl, d, c, R, ns, _, room, 1, v, 0, rfl, by decide, by decide, v1, v2, by decide, hroom, hRd, hRc, eR, DE, by omega, fun t p3 rs H8 ta tf eR8 k8 D8 ep8 i8 => ⟨(show 3 ≤ sizeLine by decide), fun p hp => ?_⟩⟩
      have kp : Kept None H8 (upd H8 p (.tup [.int (v : Int), .ref q1, .ref p3])) := Kept.refl.new hp
      have q1R : q1 ≠ R := fun z => by rw [z, eR] at eq3; cases eq3
      have eq8 := k8.tup eq3 fun z => z.elim q1d q1R
      refine q ⟨v, es, t⟩ p _ ⟨v1, v2, by show es.length ≤ 4; omega, e3, by show t.all ≤ 60; omega, tf⟩ ⟨q1, p3, rs, upd_same, kp.tup eq8 fun z => z, kp.tup ep8 fun z => z, i8.stay kp fun _ _ _ z => z⟩ ?_ ((D8.new hp).more (by omega))
      refine fun b o e nb => ko_trans (kE b o e nb) fun u eu => ko_trans (k8 b u eu (fun z => z.elim nb (ne_of_none e hRH))) fun u2 eu2 => kp b u2 eu2 fun z => z
theorem ok_llines (F : FnP K "_law_lines" sLLines f fd) (GR : FnOk P w K mg base CX0 (1 + 7) fR fdR ["rows"] (spRowL 7)) (bR : Binds K fdR ["rows"] []) (kR : PySem.W.keepIn K (.ref fR) = true) (gR : mg "_law_row_lines" = some (.ref fR)) (m_str : mg "str" = none) (m_list : mg "list" = none) : FnOk P w K mg base CX0 9 f fd ["program"] spLLines := by
  refine F.ok (k := 8) scLLines (fun vs H Q E h => ?_) (fun cdv A outer s H vs Q E hr h => ?_)
  · obtain ⟨p, g, rfl, _⟩ := h
    rfl
  · obtain ⟨p, ⟨v, xs, t⟩, rfl, ⟨q1, q2, rs, hp, h1, h2, it⟩, fn, q⟩ := h
    have few := Pg.few fn
    obtain ⟨v1, v2, x4, nm, fa, ft⟩ := fn
    dsimp only at v1 v2 x4 nm fa ft hp h1 h2 it
    simp only [Pg.lines, List.length_cons] at few
    refine ⟨_, PSs.nox (pss_one (ps_ret (pe_op op_cat (pe_lst (pa_cons (pe_lst (pa_cons pe_str (pa_cons (pe_callTy call_strB (by rfl) m_str (by decide +kernel) (pa_cons (pe_ix ix_tup (pv 0) pe_int (fun _ _ => rfl)) pa_nil)) pa_nil))) (pa_cons (pe_op op_cat (pe_lst (pa_cons pe_str pa_nil)) (pe_callTy call_list_of (by rfl) m_list (by decide +kernel) (pa_cons (pe_ix ix_tup (pv 0) pe_int (fun _ _ => rfl)) pa_nil))) pa_nil))) (pe_call GR hr (by rfl) gR kR bR .nil pass0 (pa_cons (pe_ix ix_tup (pv 0) pe_int (fun _ _ => rfl)) pa_nil))))), ?_⟩
    have szl := sizeLine_eq
    have sv : Sm (.int (v : Int)) := .inr ⟨v, rfl, by omega⟩
    refine ⟨.ref p, rfl, p, _, 0, .int (v : Int), rfl, rfl, SqT.of hp, atI_nat (j := 0) rfl, ?_⟩
    unfold tNil
    refine sv.str ⟨(show 2 ≤ sizeLine by decide), fun l1 hl1 => ?_⟩
    have k1 : Kept None H (upd H l1 (.lst [.str "wide", .str (txV (.int (v : Int)))])) := Kept.refl.new hl1
    have e1 : upd H l1 (.lst [.str "wide", .str (txV (.int (v : Int)))]) l1 = some (.lst ([("wide" : PySem.Str), dec v].map V.str)) := upd_same
    generalize upd H l1 (.lst [.str "wide", .str (txV (.int (v : Int)))]) = H1 at k1 e1 ⊢
    refine ⟨(show 1 ≤ sizeLine by decide), fun m1 hm1 => ?_⟩
    have k2 : Kept None H1 (upd H1 m1 (.lst [.str "in"])) := Kept.refl.new hm1
    have e2 : upd H1 m1 (.lst [.str "in"]) m1 = some (.lst [.str "in"]) := upd_same
    generalize upd H1 m1 (.lst [.str "in"]) = H2 at k2 e2 ⊢
    have k02 := k1.trans k2
    refine ⟨.ref p, rfl, p, _, 1, .ref q1, rfl, rfl, SqT.of (k02.tup hp fun z => z), atI_nat (j := 1) rfl, q1, _, rfl, .inr (SqT.of (k02.tup h1 fun z => z)), fun m2 hm2 => ?_⟩
    have k3 : Kept None H2 (upd H2 m2 (.lst (xs.map V.str))) := Kept.refl.new hm2
    have e3 : upd H2 m2 (.lst (xs.map V.str)) m2 = some (.lst (xs.map V.str)) := upd_same
    generalize upd H2 m2 (.lst (xs.map V.str)) = H3 at k3 e3 ⊢
    refine ⟨m1, m2, _, _, rfl, rfl, k3.lst e2 fun z => z, e3, by simp only [List.length_map, List.length_singleton]; omega, fun l2 hl2 => ?_⟩
    have k4 : Kept None H3 (upd H3 l2 (.lst ([.str "in"] ++ xs.map V.str))) := Kept.refl.new hl2
    have e4 : upd H3 l2 (.lst ([.str "in"] ++ xs.map V.str)) l2 = some (.lst ((("in" : PySem.Str) :: xs).map V.str)) := upd_same
    have n2 := (k02.trans k3).free hl2
    generalize upd H3 l2 (.lst ([.str "in"] ++ xs.map V.str)) = H4 at k4 e4 ⊢
    refine ⟨(show 2 ≤ sizeLine by decide), fun L2 hL2 => ?_⟩
    have k5 : Kept None H4 (upd H4 L2 (.lst [.ref l1, .ref l2])) := Kept.refl.new hL2
    have e5 : upd H4 L2 (.lst [.ref l1, .ref l2]) L2 = some (.lst [.ref l1, .ref l2]) := upd_same
    generalize upd H4 L2 (.lst [.ref l1, .ref l2]) = H5 at k5 e5 ⊢
    have k05 := ((k02.trans k3).trans k4).trans k5
    refine ⟨.ref p, rfl, p, _, 2, .ref q2, rfl, rfl, SqT.of (k05.tup hp fun z => z), atI_nat (j := 2) rfl, q2, rs, t, v, 1, 0, rfl, by decide, by decide, k05.tup h2 fun z => z, it.stay k05 fun _ _ _ z => z, ft, v2, by omega, fun pl us H6 npl k6 e6 nus l6 => ?_⟩
    have l6l := l6.len
    refine ⟨L2, pl, _, _, rfl, rfl, k6.lst e5 fun z => z, e6, by simp only [List.length_map, List.length_cons, List.length_nil]; omega, fun L3 hL3 => ?_⟩
    have k7 : Kept None H6 (upd H6 L3 (.lst ([.ref l1, .ref l2] ++ us.map V.ref))) := Kept.refl.new hL3
    have k06 := k05.trans k6
    refine q L3 (l1 :: l2 :: us) _ (k06.free hL3) (k06.trans k7) upd_same (.cons ?_ hl1 (.cons ?_ n2 ((l6.stay k7 fun _ _ z => z).old k05 fun _ _ z => z)))
    · exact (((((k2.trans k3).trans k4).trans k5).trans k6).trans k7).lst e1 fun z => z
    · exact ((k5.trans k6).trans k7).lst e4 fun z => z
end
end K7

set_option Elab.async false
set_option linter.all false
set_option maxRecDepth 100000
set_option maxHeartbeats 4000000
namespace K7
open PySem PySem.Spec PyProof.Rows L2 TL
abbrev sLGapped : Stmt := top 36
theorem scLGapped : FnScope ["draw", "lines", "found", "words", "gap"] ["draw", "lines"] (defScope sLGapped) := ⟨rfl, rfl, rfl, by decide +kernel, rfl, by decide +kernel, by decide +kernel⟩
/-! ### a text with gaps -/
def rRepA : R2 := fun x y H Q => ∃ (z : PySem.Str) (k : Nat), x = .str z ∧ y = .int (k : Int) ∧ z.length ≤ 1000 ∧ k ≤ 1000 ∧ Q (.str (Txt.mul z (k : Int))) H
theorem op_repA {X : Cx} : OpR X (binaryOp .Mult) rRepA := by
  intro pins s σ H x y v u Q I rx ry h
  obtain ⟨z, k, rfl, rfl, h1, h2, q⟩ := h
  obtain ⟨t, rfl⟩ := rx
  obtain ⟨t', rfl⟩ := ry
  have h3 : z.length * k ≤ 1000000 := Nat.mul_le_mul h1 h2
  refine PySem.SB.mul ⟨?_, fun g1 _ => ?_, fun _ _ => ?_⟩ fun t2 tk => ⟨.str _, H, I.tok tk, ⟨t2, rfl⟩, q⟩
  · rw [decide_eq_false (by omega), decide_eq_false (by omega)]; rfl
  · have e2 : (1000000 : Int) ≤ (2 ^ 63 - 1) / (k : Int) := (Int.le_ediv_iff_mul_le (by omega)).mpr (by omega)
    omega
  · rw [Int.toNat_natCast]
    unfold Builtin.Str.tooLong
    rw [decide_eq_false (by rw [sizeLine_eq]; omega)]
def sps (k : Nat) : PySem.Str := Txt.mul " " (k : Int)
theorem sps_list : ∀ k, k < 5 → (sps k).cps.toList = List.replicate k 32 := by decide +kernel
theorem sps_len {k : Nat} (h : k < 5) : (sps k).length = k := by rw [len_list, sps_list k h, List.length_replicate]
theorem sps_no {k : Nat} (h : k < 5) : 10 ∉ (sps k).cps.toList := by
  rw [sps_list k h]
  intro z
  exact absurd (List.eq_of_mem_replicate z) (by decide)
theorem sps_shown {k : Nat} (h : k < 5) : shown (sps k) = [] := by
  unfold shown
  rw [sps_list k h, words_rep0]
  rfl
theorem gap_list {a b : Nat} {g : Nat} {ws : List PySem.Str} (ha : a < 5) (hb : b < 5) (hg : g < 4) : ((sps a ++ Txt.join (sps (g + 1)) ws) ++ sps b).cps.toList = List.replicate a 32 ++ (joinL (List.replicate (g + 1) 32) (ws.map fun z => z.cps.toList) ++ List.replicate b 32) := by
  show tl _ = _
  rw [tl_append, tl_append]
  show ((sps a).cps.toList ++ (Txt.join (sps (g + 1)) ws).cps.toList) ++ (sps b).cps.toList = _
  rw [join_list, sps_list a ha, sps_list b hb, sps_list (g + 1) (by omega), List.append_assoc]
theorem gap_shown {a b g : Nat} {ws : List PySem.Str} (ha : a < 5) (hb : b < 5) (hg : g < 4) (h : ∀ w ∈ ws, Wt w) (hn : ws ≠ []) : shown ((sps a ++ Txt.join (sps (g + 1)) ws) ++ sps b) = [ws] := by
  refine shown_of ?_ hn
  rw [gap_list ha hb hg, words_rep, words_gap g b (wd_map h)]
theorem gap_no {a b g : Nat} {ws : List PySem.Str} (ha : a < 5) (hb : b < 5) (hg : g < 4) (h : ∀ w ∈ ws, Wt w) : 10 ∉ ((sps a ++ Txt.join (sps (g + 1)) ws) ++ sps b).cps.toList := by
  have r : ∀ k, 10 ∉ List.replicate k 32 := fun k z => absurd (List.eq_of_mem_replicate z) (by decide)
  rw [gap_list ha hb hg]
  simp only [List.mem_append, not_or]
  refine ⟨r a, joinL_no (r _) fun w hw => ?_, r b⟩
  obtain ⟨z, hz, rfl⟩ := List.mem_map.mp hw
  exact (h z hz).no
theorem gap_len {a b g : Nat} {ws : List PySem.Str} (ha : a < 5) (hb : b < 5) (hg : g < 4) (h : ∀ w ∈ ws, w.length ≤ 8) (few : ws.length ≤ 6) : ((sps a ++ Txt.join (sps (g + 1)) ws) ++ sps b).length ≤ 100 ∧ (Txt.join (sps (g + 1)) ws).length ≤ 80 := by
  have q := joinL_len (List.replicate (g + 1) 32) (ws.map fun z => z.cps.toList)
  have s8 := sum8 h
  have e : ((ws.map fun z => z.cps.toList).map (·.length)) = ws.map (·.length) := by
    rw [List.map_map]
    exact List.map_congr_left fun z _ => (len_list z).symm
  rw [e, List.length_map, List.length_replicate] at q
  have g6 : ws.length * (g + 1) ≤ 6 * 4 := Nat.mul_le_mul few (by omega)
  have j : (Txt.join (sps (g + 1)) ws).length ≤ 80 := by
    rw [len_list, join_list, sps_list (g + 1) (by omega)]
    omega
  refine ⟨?_, j⟩
  have := sps_len ha
  have := sps_len hb
  rw [PySem.Str.length_append, PySem.Str.length_append]
  omega
def spGap : Sp := fun vs H Q _ => ∃ (d c L : Addr) (ns : List Int) (n : Nat) (ts : List Addr) (ls : List (List PySem.Str)) (H0 : Hp), vs = [.ref d, .ref L] ∧ Dr H d c ns n ∧ n ≤ 700000000 ∧ H L = some (.lst (ts.map V.ref)) ∧ Ls H0 H ts ls ∧ (∀ l ∈ ls, Lw l) ∧ ls.length ≤ 200 ∧ ls ≠ [] ∧
  ∀ (z : PySem.Str) H', linesOf z = ls → z.length ≤ 900000 → Kept (At d) H H' → Dr H' d c ns (n + 1300) → Q (.str z) H'
section
variable {P : Program} {w : World} {K : PySem.W.Frag} {mg : PySem.Str → Option Value} {base : Heap} {f fN : Addr} {fd fdN : FuncData}
theorem ok_lgapped (F : FnP K "_law_gapped" sLGapped f fd) (GN : FnOk P w K mg base CX0 2 fN fdN ["draw", "many"] spNext) (bN : Binds K fdN ["draw", "many"] []) (kN : PySem.W.keepIn K (.ref fN) = true) (gN : mg "_law_next" = some (.ref fN)) : FnOk P w K mg base CX0 3 f fd ["draw", "lines"] spGap := by
  refine F.ok (k := 2) scLGapped (fun vs H Q E h => ?_) (fun cdv A outer s H vs Q E hr h => ?_)
  · obtain ⟨d, c, L, ns, n, ts, ls, H0, rfl, _⟩ := h
    rfl
  · obtain ⟨d, c, L, ns, n, ts, ls, H0, rfl, D, hn, hL, hls, lw, few, ne, q⟩ := h
    refine ⟨_, PSs.nox (pss_cons (ps_set (i := 2) scLGapped.nd rfl (Or.inl rfl) (pe_lst pa_nil))
    (pss_cons (ps_for PassesOwn.never rfl (pi_list (pv 1)) (pg_name (i := 3) scLGapped.nd rfl (Or.inl rfl))
      (pss_cons (ps_if (pt_cmpR op_eq (pe_call GN hr (by rfl) gN kN bN .nil pass0 (pa_cons (pv 0) (pa_cons pe_int pa_nil))) pe_int (nomark _))
        (pss_one (ps_expr (pe_bm PySem.F.plainAttrs_list PySem.F.slot_list_append PySem.F.type_list_append mt_append (pv 2) (pa_cons (pe_op op_repA pe_str (pe_call GN hr (by rfl) gN kN bN .nil pass0 (pa_cons (pv 0) (pa_cons pe_int pa_nil)))) pa_nil))))
        pss_nil)
      (pss_cons (ps_set (i := 4) scLGapped.nd rfl (Or.inl rfl) (pe_op op_repA pe_str (pe_op op_add pe_int (pe_call GN hr (by rfl) gN kN bN .nil pass0 (pa_cons (pv 0) (pa_cons pe_int pa_nil))))))
      (pss_one (ps_expr (pe_bm PySem.F.plainAttrs_list PySem.F.slot_list_append PySem.F.type_list_append mt_append (pv 2) (pa_cons (pe_op op_add_str (pe_op op_add_str (pe_op op_repA pe_str (pe_call GN hr (by rfl) gN kN bN .nil pass0 (pa_cons (pv 0) (pa_cons pe_int pa_nil)))) (pe_join (pv 4) (pv 3))) (pe_op op_repA pe_str (pe_call GN hr (by rfl) gN kN bN .nil pass0 (pa_cons (pv 0) (pa_cons pe_int pa_nil))))) pa_nil)))))))
    (pss_one (ps_ret (pe_join pe_str (pe_op op_cat (pv 2) (pe_ix ix_list (pe_lst (pa_cons (pe_lst pa_nil) (pa_cons (pe_lst (pa_cons pe_str pa_nil)) (pa_cons (pe_lst (pa_cons pe_str (pa_cons pe_str pa_nil))) pa_nil)))) (pe_call GN hr (by rfl) gN kN bN .nil pass0 (pa_cons (pv 0) (pa_cons pe_int pa_nil))) (fun _ _ => rfl)))))))), ?_⟩
    have szl := sizeLine_eq
    refine ⟨(show 0 ≤ sizeLine by decide), fun F0 hF => ?_⟩
    have hFd := D.apart hF
    have hFc := D.apartC hF
    have D1 : Dr (upd H F0 (.lst [])) d c ns n := D.new hF
    have kF : Kept (At2 d F0) H (upd H F0 (.lst [])) := Kept.refl.new hF
    have eF : upd H F0 (.lst []) F0 = some (.lst []) := upd_same
    generalize upd H F0 (.lst []) = H1 at D1 kF eF ⊢
    have ntd : ∀ {q : Addr} {zs : List V}, H q = some (.lst zs) → ¬ At2 d F0 q := fun {q zs} e z => by
      rcases z with z | z
      · obtain ⟨_, _, _, z2, _⟩ := D.at_
        rw [z, z2] at e; cases e
      · exact ne_of_none e hF z
    refine ⟨.ref L, rfl, L, rfl, ⟨_, SqL.of (kF.lst hL (ntd hL))⟩, ?_⟩
    have hlen := hls.len
    refine for_list (K := K) (a := L) (xs := ts.map V.ref) (fun i σ H' => ∃ (tx : List PySem.Str) (x3 x4 : Option V), σ = [some (.ref d), some (.ref L), some (.ref F0), x3, x4] ∧ H' F0 = some (.lst (tx.map V.str)) ∧ tx.length ≤ 2 * i ∧ tx.flatMap shown = ls.take i ∧ (∀ t ∈ tx, 10 ∉ t.cps.toList ∧ t.length ≤ 100) ∧ Kept (At2 d F0) H H' ∧ Dr H' d c ns (n + 5 * i))
      ⟨[], none, none, rfl, eF, Nat.zero_le _, by simp, by simp, kF, D1⟩ (fun i σ H' _ h => ?_) (fun i x σ H' hx h => ?_) (fun σ H' h => ?_)
    · obtain ⟨_, _, _, _, _, _, _, _, k1, _⟩ := h
      exact SqL.of (k1.lst hL (ntd hL))
    · obtain ⟨tx, x3, x4, rfl, e1, e2, e3, e4, k1, D2⟩ := h
      rw [List.getElem?_map] at hx
      obtain ⟨t, ht, rfl⟩ := Option.map_eq_some_iff.mp hx
      have hi : i < ts.length := (List.getElem?_eq_some_iff.mp ht).1
      obtain ⟨l, hl, et⟩ := hls.at ht
      have lwl := lw l (List.mem_of_getElem? hl)
      have htk : ls.take (i + 1) = ls.take i ++ [l] := by rw [List.take_add_one, hl]; rfl
      refine ⟨.ref d, rfl, d, c, ns, _, 4, rfl, D2, by omega, by decide, by decide, fun r1 H2 a1 b1 k2 D3 => ⟨rfl, _, rfl, ite2 (fun e5 => ?pos) (fun e5 => ?neg)⟩⟩
      case' pos =>
        refine ⟨.ref F0, rfl, .inl ⟨rfl, _, SqL.of (k2.lst e1 hFd)⟩, .ref d, rfl, d, c, ns, _, 3, rfl, D3, by omega, by decide, by decide, fun r2 H3 a2 b2 k3 D4 => ?_⟩
        obtain ⟨r2, rfl⟩ := Int.eq_ofNat_of_zero_le a2
        have h2 : r2 < 5 := by omega
        have eF3 := (k2.trans k3).lst e1 hFd
        refine ⟨" ", r2, rfl, rfl, by decide +kernel, by omega, F0, _, _, rfl, rfl, eF3, by rw [List.length_map]; omega, ?_⟩
        have e1' : upd H3 F0 (.lst (tx.map V.str ++ [.str (Txt.mul " " (r2 : Int))])) F0 = some (.lst ((tx ++ [sps r2]).map V.str)) := by rw [upd_same, List.map_append]; rfl
        have k1' : Kept (At2 d F0) H (upd H3 F0 (.lst (tx.map V.str ++ [.str (Txt.mul " " (r2 : Int))]))) := (k1.trans ((k2.trans k3).weak fun b z => .inl z)).upd (.inr rfl)
        have D2' : Dr (upd H3 F0 (.lst (tx.map V.str ++ [.str (Txt.mul " " (r2 : Int))]))) d c ns (n + 5 * i + 2) := D4.keep hFd hFc
        have e3' : (tx ++ [sps r2]).flatMap shown = ls.take i := by rw [List.flatMap_append, List.flatMap_cons, sps_shown h2, e3]; simp
        have e4' : ∀ t ∈ tx ++ [sps r2], 10 ∉ t.cps.toList ∧ t.length ≤ 100 := fun t ht => by
          rcases List.mem_append.mp ht with h | h
          · exact e4 t h
          · rw [List.mem_singleton.mp h]; exact ⟨sps_no h2, by rw [sps_len h2]; omega⟩
        have e2' : (tx ++ [sps r2]).length ≤ 2 * i + 1 := by rw [List.length_append]; exact Nat.succ_le_succ e2
        generalize upd H3 F0 (.lst (tx.map V.str ++ [.str (Txt.mul " " (r2 : Int))])) = H5 at e1' k1' D2' ⊢
        generalize tx ++ [sps r2] = tx' at e1' e2' e3' e4'
      case' neg =>
        have e1' := k2.lst e1 hFd
        have k1' : Kept (At2 d F0) H H2 := k1.trans (k2.weak fun b z => .inl z)
        have D2' : Dr H2 d c ns (n + 5 * i + 2) := D3.more (by omega)
        have e3' := e3
        have e4' := e4
        have e2' : tx.length ≤ 2 * i + 1 := by omega
        generalize H2 = H5 at e1' k1' D2' ⊢
        generalize tx = tx' at e1' e2' e3' e4'
      all_goals
        refine ⟨.ref d, rfl, d, c, ns, _, 3, rfl, D2', by omega, by decide, by decide, fun g H6 a6 b6 k6 D6 => ?_⟩
        obtain ⟨g, rfl⟩ := Int.eq_ofNat_of_zero_le a6
        have hg : g < 4 := by omega
        refine ⟨1, (g : Int), rfl, rfl, " ", g + 1, rfl, congrArg V.int (show (1 : Int) + (g : Int) = ((g + 1 : Nat) : Int) by omega), by decide +kernel, by omega, ?_⟩
        have e6 := k6.lst e1' hFd
        refine ⟨.ref F0, rfl, .inl ⟨rfl, _, SqL.of e6⟩, .ref d, rfl, d, c, ns, _, 4, rfl, D6, by omega, by decide, by decide, fun a H7 a7 b7 k7 D7 => ?_⟩
        obtain ⟨a, rfl⟩ := Int.eq_ofNat_of_zero_le a7
        have ha : a < 5 := by omega
        refine ⟨" ", a, rfl, rfl, by decide +kernel, by omega, ?_⟩
        have k17 := k1'.trans ((k6.trans k7).weak fun b z => .inl z)
        have gl := gap_len (b := 0) ha (by decide) hg (fun w hw => (lwl.2.1 w hw).2) lwl.2.2
        have s8 := sum8 (fun w hw => (lwl.2.1 w hw).2)
        have g4 : l.length * (g + 1) ≤ 6 * 4 := Nat.mul_le_mul lwl.2.2 (by omega)
        refine ⟨.str (sps (g + 1)), rfl, ⟨_, rfl⟩, .ref t, rfl, sps (g + 1), t, l, rfl, rfl, .inl (SqL.of (k17.lst et (ntd et))), by rw [sps_len (by omega)]; have := lwl.2.2; omega, sps a, _, rfl, rfl, by rw [sps_len ha]; omega, ?_⟩
        refine ⟨.ref d, rfl, d, c, ns, _, 2, rfl, D7, by omega, by decide, by decide, fun b H8 a8 b8 k8 D8 => ?_⟩
        obtain ⟨b, rfl⟩ := Int.eq_ofNat_of_zero_le a8
        have hb : b < 5 := by omega
        have gl2 := gap_len ha hb hg (fun w hw => (lwl.2.1 w hw).2) lwl.2.2
        have e8 := ((k6.trans k7).trans k8).lst e1' hFd
        refine ⟨" ", b, rfl, rfl, by decide +kernel, by omega, _, sps b, rfl, rfl, by rw [PySem.Str.length_append, sps_len ha, sps_len hb]; omega, F0, _, _, rfl, rfl, e8, by rw [List.length_map]; omega, ?_⟩
        refine ⟨tx' ++ [(sps a ++ Txt.join (sps (g + 1)) l) ++ sps b], _, _, rfl, by rw [upd_same, List.map_append]; rfl, by rw [List.length_append]; exact Nat.succ_le_succ e2', ?_, fun t ht => ?_, (k17.trans (k8.weak fun b z => .inl z)).upd (.inr rfl), (D8.keep hFd hFc).more (by omega)⟩
        · rw [List.flatMap_append, e3', htk, List.flatMap_cons, gap_shown ha hb hg (fun w hw => (lwl.2.1 w hw).1) lwl.1]
          rfl
        · rcases List.mem_append.mp ht with h | h
          · exact e4' t h
          · rw [List.mem_singleton.mp h]; exact ⟨gap_no ha hb hg (fun w hw => (lwl.2.1 w hw).1), gl2.1⟩
    · obtain ⟨tx, x3, x4, rfl, e1, e2, e3, e4, k1, D2⟩ := h
      rw [List.length_map] at e2 e3 D2
      rw [hlen, List.take_length] at e3
      refine ⟨⟨_, rfl⟩, .ref F0, rfl, (show 0 ≤ sizeLine by decide), fun p0 h0 => ⟨(show 1 ≤ sizeLine by decide), fun p1 h1 => ⟨(show 2 ≤ sizeLine by decide), fun p2 h2 => ⟨(show 3 ≤ sizeLine by decide), fun p3 h3 => ?_⟩⟩⟩⟩
      have ka : Kept None H' (upd H' p0 (.lst [])) := Kept.refl.new h0
      have ea : upd H' p0 (.lst []) p0 = some (.lst []) := upd_same
      have Da := D2.new h0 (o := .lst [])
      generalize upd H' p0 (.lst []) = Ha at ka ea Da h1 h2 h3 ⊢
      have kb : Kept None Ha (upd Ha p1 (.lst [.str ""])) := Kept.refl.new h1
      have eb : upd Ha p1 (.lst [.str ""]) p1 = some (.lst [.str ""]) := upd_same
      have Db := Da.new h1 (o := .lst [.str ""])
      generalize upd Ha p1 (.lst [.str ""]) = Hb at kb eb Db h2 h3 ⊢
      have kc : Kept None Hb (upd Hb p2 (.lst [.str "  ", .str ""])) := Kept.refl.new h2
      have ec : upd Hb p2 (.lst [.str "  ", .str ""]) p2 = some (.lst [.str "  ", .str ""]) := upd_same
      have Dc := Db.new h2 (o := .lst [.str "  ", .str ""])
      generalize upd Hb p2 (.lst [.str "  ", .str ""]) = Hc at kc ec Dc h3 ⊢
      have kd : Kept None Hc (upd Hc p3 (.lst [.ref p0, .ref p1, .ref p2])) := Kept.refl.new h3
      have ed : upd Hc p3 (.lst [.ref p0, .ref p1, .ref p2]) p3 = some (.lst [.ref p0, .ref p1, .ref p2]) := upd_same
      have Dd := Dc.new h3 (o := .lst [.ref p0, .ref p1, .ref p2])
      have h3d := Dc.apart h3
      generalize upd Hc p3 (.lst [.ref p0, .ref p1, .ref p2]) = Hd at kd ed Dd ⊢
      have eF := (((ka.trans kb).trans kc).trans kd).lst e1 fun z => z
      have ea := ((kb.trans kc).trans kd).lst ea fun z => z
      have eb := (kc.trans kd).lst eb fun z => z
      have ec := kd.lst ec fun z => z
      have ld : ∀ {q : Addr} {zs : List V}, Hd q = some (.lst zs) → ¬ q = d := fun {q zs} e z => by
        obtain ⟨_, _, _, z2, _⟩ := Dd.at_
        rw [z, z2] at e; cases e
      refine ⟨.ref d, rfl, d, c, ns, _, 3, rfl, Dd, by omega, by decide, by decide, fun r He a5 b5 ke De => ?_⟩
      obtain ⟨y, hy, px, zs, rfl, z1, z2, z3, z4⟩ : ∃ x, atI [V.ref p0, .ref p1, .ref p2] r = some x ∧ ∃ (px : Addr) (zs : List PySem.Str), x = .ref px ∧ He px = some (.lst (zs.map V.str)) ∧ zs.flatMap shown = [] ∧ (∀ t ∈ zs, 10 ∉ t.cps.toList ∧ t.length ≤ 100) ∧ zs.length ≤ 2 := at_nat (m := 3) a5 b5 rfl _ (fun x hx => by
        simp only [List.mem_cons, List.not_mem_nil, or_false] at hx
        rcases hx with rfl | rfl | rfl
        · exact ⟨p0, [], rfl, ke.lst ea (ld ea), rfl, by simp, by decide⟩
        · exact ⟨p1, [""], rfl, ke.lst eb (ld eb), by decide +kernel, by decide +kernel, by decide⟩
        · exact ⟨p2, ["  ", ""], rfl, ke.lst ec (ld ec), by decide +kernel, by decide +kernel, by decide⟩)
      have eF2 := ke.lst eF (ld eF)
      refine ⟨p3, _, r, .ref px, rfl, rfl, SqL.of (ke.lst ed h3d), hy, F0, px, _, _, rfl, rfl, eF2, z1, by simp only [List.length_map]; omega, fun p9 h9 => ?_⟩
      have s9 : (((tx ++ zs).map (·.length)).sum) ≤ 100 * (tx ++ zs).length := by
        have all : ∀ t ∈ tx ++ zs, t.length ≤ 100 := fun t ht => (List.mem_append.mp ht).elim (fun h => (e4 t h).2) (fun h => (z3 t h).2)
        generalize tx ++ zs = ws at all
        induction ws with
        | nil => exact Nat.le_refl _
        | cons a r ih =>
          have := ih fun y hy => all y (List.mem_cons_of_mem _ hy)
          have := all a List.mem_cons_self
          simp only [List.map_cons, List.sum_cons, List.length_cons]
          omega
      have l9 : (tx ++ zs).length ≤ 402 := by rw [List.length_append]; omega
      refine ⟨"\n", p9, tx ++ zs, rfl, rfl, .inl (SqL.of (by rw [upd_same, List.map_append])), ?_, ?_⟩
      · rw [show ("\n" : PySem.Str).length = 1 from by decide +kernel]; omega
      have nx : tx ++ zs ≠ [] := fun z => by
        have : tx = [] := (List.append_eq_nil_iff.mp z).1
        rw [this] at e3
        exact ne e3.symm
      have ks : Kept (At2 d F0) H (upd He p9 (.lst (tx.map V.str ++ zs.map V.str))) := (k1.trans ((((ka.trans kb).trans kc).trans kd).weak fun _ z => z.elim)).trans ((ke.weak fun b z => .inl z).trans ((Kept.refl.new h9 : Kept None He _).weak fun _ z => z.elim))
      refine q (nlj (tx ++ zs)) _ ?_ ?_ (fun b o e nb => ks b o e fun z => z.elim nb (ne_of_none e hF)) ((De.new h9).more (by omega))
      · rw [linesOf_nlj nx (fun t ht => (List.mem_append.mp ht).elim (fun h => (e4 t h).1) (fun h => (z3 t h).1)), List.flatMap_append, z2, e3, List.append_nil]
      · have q9 := joinL_len [10] ((tx ++ zs).map fun z => z.cps.toList)
        have e9 : (((tx ++ zs).map fun z => z.cps.toList).map (·.length)) = (tx ++ zs).map (·.length) := by
          rw [List.map_map]
          exact List.map_congr_left fun z _ => (len_list z).symm
        rw [e9, List.length_map, List.length_singleton] at q9
        rw [len_list]
        unfold nlj
        rw [join_list, nl_list]
        omega
end
end K7

set_option Elab.async false
set_option linter.all false
set_option maxRecDepth 100000
set_option maxHeartbeats 4000000
namespace K7
open PySem PySem.Spec PyProof.Rows L2 TL
/-! ### a program's data, for repr -/
def dv : V → PyData
  | .str x => .str x
  | .int i => .int i
  | _ => .none
def Tr.dat : Tr → List PyData
  | .nil => []
  | .set x e t => .tuple [.str "set", .str x, .tuple (e.vs.map dv)] :: t.dat
  | .tell x t => .tuple [.str "tell", .str x] :: t.dat
  | .ite x a b t => .tuple [.str "if", .str x, .tuple a.dat, .tuple b.dat] :: t.dat
  | .rnd n a t => .tuple [.str "round", .int (n : Int), .tuple a.dat] :: t.dat
def Pg.dat (g : Pg) : PyData := .tuple [.int (g.v : Int), .tuple (g.xs.map PyData.str), .tuple g.t.dat]
theorem dp_flat {K : PySem.W.Frag} {H : Hp} : ∀ {vs : List V}, (∀ x ∈ vs, Sm x) → DpAll K H vs (vs.map dv)
  | [], _ => .nil
  | x :: r, h => .cons (by
      rcases h x List.mem_cons_self with ⟨y, rfl, _⟩ | ⟨n, rfl, _⟩
      · exact .str y
      · exact .int _) (dp_flat fun y hy => h y (List.mem_cons_of_mem _ hy))
theorem dp_strs {K : PySem.W.Frag} {H : Hp} : ∀ xs : List PySem.Str, DpAll K H (xs.map V.str) (xs.map PyData.str)
  | [] => .nil
  | x :: r => .cons (.str x) (dp_strs r)
theorem its_dp {K : PySem.W.Frag} {H : Hp} {v : Nat} (hv : v ≤ 12) : ∀ (t : Tr) (xs : List V) (d r : Nat), Its H xs t → t.fine v d r → DpAll K H xs t.dat
  | .nil, _, _, _, i, _ => by cases i; exact .nil
  | .set x e t, _, d, r, i, f => by
    cases i with
    | set h he i0 => exact .cons (.tup (SqT.of h) (.cons (.str _) (.cons (.str _) (.cons (.tup (SqT.of he) (dp_flat (e.sm f.2.1 f.2.2.1 hv))) .nil)))) (its_dp hv t _ d r i0 f.2.2.2.2)
  | .tell x t, _, d, r, i, f => by
    cases i with
    | tell h i0 => exact .cons (.tup (SqT.of h) (.cons (.str _) (.cons (.str _) .nil))) (its_dp hv t _ d r i0 f.2.2)
  | .ite x a b t, _, d, r, i, f => by
    cases i with
    | ite h h1 h2 ra rb i0 => exact .cons (.tup (SqT.of h) (.cons (.str _) (.cons (.str _) (.cons (.tup (SqT.of h1) (its_dp hv a _ _ _ ra f.2.2.1)) (.cons (.tup (SqT.of h2) (its_dp hv b _ _ _ rb f.2.2.2.1)) .nil))))) (its_dp hv t _ d r i0 f.2.2.2.2)
  | .rnd n a t, _, d, r, i, f => by
    cases i with
    | rnd h h1 ra i0 => exact .cons (.tup (SqT.of h) (.cons (.str _) (.cons (.int _) (.cons (.tup (SqT.of h1) (its_dp hv a _ _ _ ra f.2.2.2.1)) .nil)))) (its_dp hv t _ d r i0 f.2.2.2.2)
theorem pg_dp {K : PySem.W.Frag} {H : Hp} {p : Addr} {g : Pg} (a : PgAt H p g) (f : g.fine) : Dp K H (.ref p) g.dat := by
  obtain ⟨q1, q2, rs, hp, h1, h2, it⟩ := a
  exact .tup (SqT.of hp) (.cons (.int _) (.cons (.tup (SqT.of h1) (dp_strs _)) (.cons (.tup (SqT.of h2) (its_dp f.2.1 _ _ _ _ it f.2.2.2.2.2)) .nil)))
structure G1 (x : PyData) (dp bk : Nat) : Prop where
  sh : x.showable = true
  hd : x.hasDict = false
  d : x.depth ≤ dp
  lf : x.leavesShort 8 = true
  bk : x.bulk ≤ bk
structure Gd (l : List PyData) (dp bk : Nat) : Prop where
  sh : PyData.showableAll l = true
  hd : PyData.hasDictAll l = false
  d : PyData.depthAll l ≤ dp
  lf : PyData.leavesShortAll 8 l = true
  bk : PyData.bulkAll l ≤ bk
theorem Gd.nil {dp : Nat} : Gd [] dp 0 := ⟨rfl, rfl, Nat.zero_le _, rfl, Nat.le_refl _⟩
theorem Gd.cons {x : PyData} {l : List PyData} {dp a b : Nat} (h : G1 x dp a) (r : Gd l dp b) : Gd (x :: l) dp (a + 1 + b) := by
  refine ⟨?_, ?_, ?_, ?_, ?_⟩
  · simp only [PyData.showableAll, h.sh, r.sh, Bool.and_self]
  · simp only [PyData.hasDictAll, h.hd, r.hd, Bool.or_self]
  · simp only [PyData.depthAll]; exact Nat.max_le.mpr ⟨h.d, r.d⟩
  · simp only [PyData.leavesShortAll, h.lf, r.lf, Bool.and_self]
  · have := h.bk; have := r.bk
    simp only [PyData.bulkAll]; omega
theorem Gd.tup {l : List PyData} {dp b : Nat} (h : Gd l dp b) : G1 (.tuple l) (dp + 1) b := by
  refine ⟨?_, ?_, ?_, ?_, ?_⟩
  · simp only [PyData.showable]; exact h.sh
  · simp only [PyData.hasDict]; exact h.hd
  · simp only [PyData.depth]; exact Nat.succ_le_succ h.d
  · simp only [PyData.leavesShort]; exact h.lf
  · simp only [PyData.bulk]; exact h.bk
theorem G1.mono {x : PyData} {a a' b b' : Nat} (h : G1 x a b) (h1 : a ≤ a') (h2 : b ≤ b') : G1 x a' b' := ⟨h.sh, h.hd, Nat.le_trans h.d h1, h.lf, Nat.le_trans h.bk h2⟩
theorem Gd.mono {x : List PyData} {a a' b b' : Nat} (h : Gd x a b) (h1 : a ≤ a') (h2 : b ≤ b') : Gd x a' b' := ⟨h.sh, h.hd, Nat.le_trans h.d h1, h.lf, Nat.le_trans h.bk h2⟩
theorem g_str {x : PySem.Str} {dp : Nat} (h : Nm x) : G1 (.str x) dp 8 := by
  refine ⟨rfl, rfl, Nat.zero_le _, ?_, ?_⟩
  · simp only [PyData.leavesShort, List.all_eq_true, decide_eq_true_eq]
    intro c hc
    unfold Nm nameB at h
    dsimp only at h
    obtain ⟨_, h2⟩ := Bool.and_eq_true_iff.mp h
    unfold lowB at h2
    have := low_asc (List.all_eq_true.mp h2 c hc)
    exact Nat.lt_of_lt_of_le this (by decide)
  · have e : (PyData.str x).bulk = x.cps.size := by simp only [PyData.bulk]
    rw [e]; exact h.len
theorem g_int {n dp : Nat} (h : n < 4096) : G1 (.int (n : Int)) dp 0 := by
  refine ⟨?_, rfl, Nat.zero_le _, ?_, Nat.le_refl _⟩
  · simp only [PyData.showable]; exact decide_eq_true (sm_log h)
  · simp only [PyData.leavesShort]; exact decide_eq_true (dec_num h).2
theorem g_sm {v : V} {dp : Nat} (h : (∃ x, v = .str x ∧ Nm x) ∨ ∃ n : Nat, v = .int (n : Int) ∧ n < 4096) : G1 (dv v) dp 8 := by
  rcases h with ⟨x, rfl, h⟩ | ⟨n, rfl, h⟩
  · exact g_str h
  · exact (g_int h).mono (Nat.le_refl _) (Nat.zero_le _)
theorem g_flat {dp : Nat} : ∀ {vs : List V}, (∀ v ∈ vs, (∃ x, v = .str x ∧ Nm x) ∨ ∃ n : Nat, v = .int (n : Int) ∧ n < 4096) → Gd (vs.map dv) dp (9 * vs.length)
  | [], _ => Gd.nil
  | x :: r, h => (Gd.cons (g_sm (h x List.mem_cons_self)) (g_flat fun y hy => h y (List.mem_cons_of_mem _ hy))).mono (Nat.le_refl _) (by simp only [List.length_cons]; omega)
theorem g_strs {dp : Nat} : ∀ {xs : List PySem.Str}, (∀ x ∈ xs, Nm x) → Gd (xs.map PyData.str) dp (9 * xs.length)
  | [], _ => Gd.nil
  | x :: r, h => (Gd.cons (g_str (h x List.mem_cons_self)) (g_strs fun y hy => h y (List.mem_cons_of_mem _ hy))).mono (Nat.le_refl _) (by simp only [List.length_cons]; omega)
theorem Ex.gv {v : Nat} (e : Ex) (hn : ∀ y ∈ e.names, Nm y) (ok : e.ok v) (hv : v ≤ 12) : ∀ x ∈ e.vs, (∃ z, x = .str z ∧ Nm z) ∨ ∃ n : Nat, x = .int (n : Int) ∧ n < 4096 := by
  intro x hx
  rcases ex_split e hn ok hv with ⟨ks, ws, e1, e2, e3, e4, _⟩ | ⟨ks, kd, n, lo, hi, ws, e1, e2, e3, e4, e5, e6, e7, e8, _⟩
  · rw [e3] at hx
    obtain ⟨z, hz, rfl⟩ := List.mem_map.mp hx
    exact .inl ⟨z, rfl, e4 z hz⟩
  · rw [e4] at hx
    rcases List.mem_append.mp hx with h | h
    · obtain ⟨z, hz, rfl⟩ := List.mem_map.mp h
      exact .inl ⟨z, rfl, e5 z hz⟩
    · rw [List.mem_singleton.mp h]; exact .inr ⟨n, rfl, e8⟩
theorem Tr.gd {v : Nat} (hv : v ≤ 12) : ∀ (t : Tr) (d r : Nat), t.fine v d r → Gd t.dat (2 * (7 - d)) (60 * t.all)
  | .nil, d, r, _ => Gd.nil
  | .set x e t, d, r, f => by
    have fe : e.vs.length ≤ 4 := by cases e <;> simp [Ex.vs, Ex.parts]
    have g0 : Gd (e.vs.map dv) 0 36 := (g_flat (e.gv f.2.1 f.2.2.1 hv)).mono (Nat.le_refl _) (by omega)
    have g := ((Gd.cons (g_str nm_set) (Gd.cons (g_str f.1) (Gd.cons g0.tup Gd.nil))).tup.mono (a' := 2 * (7 - d)) (by have := f.2.2.2.1; omega) (Nat.le_refl _))
    exact (Gd.cons g (t.gd hv d r f.2.2.2.2)).mono (Nat.le_refl _) (by simp only [Tr.all]; omega)
  | .tell x t, d, r, f => by
    have g := ((Gd.cons (dp := 0) (g_str nm_tell) (Gd.cons (g_str f.1) Gd.nil)).tup.mono (a' := 2 * (7 - d)) (by have := f.2.1; omega) (Nat.le_refl _))
    exact (Gd.cons g (t.gd hv d r f.2.2)).mono (Nat.le_refl _) (by simp only [Tr.all]; omega)
  | .ite x a b t, d, r, f => by
    have ga := (a.gd hv (d + 1) r f.2.2.1).tup
    have gb := (b.gd hv (d + 1) r f.2.2.2.1).tup
    have g := ((Gd.cons (g_str nm_if) (Gd.cons (g_str f.1) (Gd.cons ga (Gd.cons gb Gd.nil)))).tup.mono (a' := 2 * (7 - d)) (by have := f.2.1; omega) (Nat.le_refl _))
    exact (Gd.cons g (t.gd hv d r f.2.2.2.2)).mono (Nat.le_refl _) (by simp only [Tr.all]; omega)
  | .rnd n a t, d, r, f => by
    have ga := (a.gd hv (d + 1) (r + 1) f.2.2.2.1).tup
    have g := ((Gd.cons (g_str nm_round) (Gd.cons (g_int (n := n) (by have := f.1; omega)) (Gd.cons ga Gd.nil))).tup.mono (a' := 2 * (7 - d)) (by have := f.2.2.1; omega) (Nat.le_refl _))
    exact (Gd.cons g (t.gd hv d r f.2.2.2.2)).mono (Nat.le_refl _) (by simp only [Tr.all]; omega)
/-- what repr asks of a program -/
theorem pg_repr {K : PySem.W.Frag} {H : Hp} {p : Addr} {g : Pg} (a : PgAt H p g) (f : g.fine) : Dp K H (.ref p) g.dat ∧ g.dat.showable = true ∧ g.dat.hasDict = false ∧ g.dat.depth ≤ 100 ∧ g.dat.shown.length ≤ sizeLine := by
  obtain ⟨v1, v2, x4, nm, fa, ft⟩ := f
  have gt := (g.t.gd v2 1 0 ft).tup
  have gx := (g_strs (dp := 12) nm).tup
  have gg := (Gd.cons (g_int (n := g.v) (dp := 13) (by omega)) (Gd.cons gx (Gd.cons gt Gd.nil))).tup
  refine ⟨pg_dp a ⟨v1, v2, x4, nm, fa, ft⟩, gg.sh, gg.hd, Nat.le_trans gg.d (by decide), ?_⟩
  have e := PyData.shown_le_bulk 8 (by decide) _ gg.lf
  have b := gg.bk
  show (PyData.shown (.tuple _)).length ≤ _
  rw [sizeLine_eq]
  omega
end K7

set_option Elab.async false
set_option linter.all false
set_option maxRecDepth 100000
set_option maxHeartbeats 4000000
namespace K7
open PySem PySem.Spec PyProof.Rows L2 TL
abbrev sLaw : Stmt := top 37
theorem scLaw : FnScope ["script", "draw", "turn", "program", "kept", "lines", "due", "other", "expr", "words", "part"] ["script"] (defScope sLaw) := ⟨rfl, rfl, rfl, by decide +kernel, rfl, by decide +kernel, by decide +kernel⟩
def spLaw (K : PySem.W.Frag) : Sp := fun vs H Q _ => ∃ (a : Addr) (ns : List Int), vs = [.ref a] ∧ SqL K H a (ns.map V.int) ∧ ns.length ≤ 63 ∧ ∀ H', Q (.bl true) H'
abbrev tJoin9 (K : PySem.W.Frag) : TE := tM1 (fun x xs H Q => ∃ a p, ∃ ys : List PySem.Str, x = .str a ∧ xs = [.ref p] ∧ (SqL K H p (ys.map V.str) ∨ SqT K H p (ys.map V.str)) ∧
      (ys.map (·.length)).sum + ys.length * a.length ≤ 16777216 ∧ Q (.str (Txt.join a ys)) H) (tC (.str " ")) (tVar 9)
theorem PgAt.stay {D : Addr → Prop} {H H' : Hp} {p : Addr} {g : Pg} (a : PgAt H p g) (k : Kept D H H') (nd : ∀ p ys, H p = some (.tup ys) → ¬ D p) : PgAt H' p g := by
  obtain ⟨q1, q2, rs, hp, h1, h2, it⟩ := a
  exact ⟨q1, q2, rs, k.tup hp (nd _ _ hp), k.tup h1 (nd _ _ h1), k.tup h2 (nd _ _ h2), it.stay k nd⟩
theorem Dr.ntup {H : Hp} {d c : Addr} {ns : List Int} {n : Nat} (D : Dr H d c ns n) : ∀ p ys, H p = some (.tup ys) → ¬ At d p := fun p ys e z => by
  obtain ⟨_, _, _, z2, _⟩ := D.at_
  rw [z, z2] at e; cases e
theorem Dr.nlst {H : Hp} {d c : Addr} {ns : List Int} {n : Nat} (D : Dr H d c ns n) : ∀ p ys, H p = some (.lst ys) → ¬ At d p := fun p ys e z => by
  obtain ⟨_, _, _, z2, _⟩ := D.at_
  rw [z, z2] at e; cases e
theorem Ls.lsts {H H' : Hp} {ts : List Addr} {ls : List (List PySem.Str)} (a : Ls H H' ts ls) : ∀ t ∈ ts, ∃ ys, H' t = some (.lst ys) := by
  induction a with
  | nil => intro t h; cases h
  | cons h n _ ih =>
    intro t ht
    rcases List.mem_cons.mp ht with rfl | ht
    · exact ⟨_, h⟩
    · exact ih t ht
theorem text_len_all {g : Pg} (f : g.fine) : (textOf g).length ≤ 900000 := by
  have tl := text_len (Pg.lw f)
  have few := Pg.few f
  have q := joinL_len [10] ((g.lines.map spj).map fun z => z.cps.toList)
  have e : (((g.lines.map spj).map fun z => z.cps.toList).map (·.length)) = (g.lines.map spj).map (·.length) := by
    rw [List.map_map]
    exact List.map_congr_left fun z _ => (len_list z).symm
  rw [e, List.length_map, List.length_map, List.length_singleton] at q
  rw [len_list]
  unfold textOf nlj
  rw [join_list, nl_list]
  omega
section
variable {P : Program} {w : World} {K : PySem.W.Frag} {mg : PySem.Str → Option Value} {base : Heap} {f : Addr} {fd : FuncData}
theorem ok_law (F : FnP K "law" sLaw f fd) (dB : Def P w K mg base 1 "_law_begin" ["script"] (spBegin K)) (dP : Def P w K mg base 12 "_law_program" ["draw"] spLProg) (dL : Def P w K mg base 9 "_law_lines" ["program"] spLLines) (dT : Def P w K mg base 17 "program_text" ["program"] (spPText K)) (dI : Def P w K mg base 22 "program_in" ["text"] spProgIn)
    (dG : Def P w K mg base 3 "_law_gapped" ["draw", "lines"] spGap) (dE : Def P w K mg base 4 "_law_expr" ["draw", "wide"] spLExpr) (dX : Def P w K mg base 1 "expr_text" ["expr"] (spExText K))
    (m_range : mg "range" = none) (m_repr : mg "repr" = none) (m_str : mg "str" = none) : FnG P w K mg base 23 f fd ["script"] (spLaw K) := by
  obtain ⟨fB, fdB, GB, bB, kB, gB⟩ := dB
  obtain ⟨fP, fdP, GP, bP, kP, gP⟩ := dP
  obtain ⟨fL, fdL, GL, bL, kL, gL⟩ := dL
  obtain ⟨fT, fdT, GT, bT, kT, gT⟩ := dT
  obtain ⟨fI, fdI, GI, bI, kI, gI⟩ := dI
  obtain ⟨fG, fdG, GG, bG, kG, gG⟩ := dG
  obtain ⟨fE, fdE, GE, bE, kE, gE⟩ := dE
  obtain ⟨fX, fdX, GX, bX, kX, gX⟩ := dX
  refine fnG_of (k := 22) F scLaw (fun vs H Q E h => ?_) (fun cdv A outer s H vs Q E gd hr h => ?_)
  · obtain ⟨a, ns, rfl, _⟩ := h
    rfl
  · obtain ⟨a, ns, rfl, hS, hl, q⟩ := h
    have GB := GB.mono (show 1 ≤ 22 by decide)
    have GP := GP.mono (show 12 ≤ 22 by decide)
    have GL := GL.mono (show 9 ≤ 22 by decide)
    have GT := GT.mono (show 17 ≤ 22 by decide)
    have GG := GG.mono (show 3 ≤ 22 by decide)
    have GE := GE.mono (show 4 ≤ 22 by decide)
    have GX := GX.mono (show 1 ≤ 22 by decide)
    refine ⟨_, PSs.nox (pss_cons (ps_set (i := 1) scLaw.nd rfl (Or.inl rfl) (pe_call GB hr (by rfl) gB kB bB .nil pass0 (pa_cons (pv 0) pa_nil)))
    (pss_cons (ps_for PassesOwn.never rfl (pi_range1 rfl m_range (pa_cons pe_int pa_nil)) (pg_name (i := 2) scLaw.nd rfl (Or.inl rfl))
      (pss_cons (ps_set (i := 3) scLaw.nd rfl (Or.inl rfl) (pe_call GP hr (by rfl) gP kP bP .nil pass0 (pa_cons (pv 1) pa_nil)))
      (pss_cons (ps_set (i := 4) scLaw.nd rfl (Or.inl rfl) (pe_callB (call_reprL gd hr) (by rfl) m_repr (by decide +kernel) (pa_cons (pv 3) pa_nil)))
      (pss_cons (ps_set (i := 5) scLaw.nd rfl (Or.inl rfl) (pe_call GL hr (by rfl) gL kL bL .nil pass0 (pa_cons (pv 3) pa_nil)))
      (pss_cons (ps_set (i := 6) scLaw.nd rfl (Or.inl rfl) (pe_join pe_str (pe_lc (own := [("words", 9)]) (g := gName 9) (tt := tYes) (te := tJoin9 K) rfl scLaw.nd (pi_list (pv 5)) (blkOk_by (own := [("words", 9)]) (N := ["script", "draw", "turn", "program", "kept", "lines", "due", "other", "expr", "words", "part"]) (sc := defScope sLaw) (by decide +kernel)) (by exact (fun _ _ _ _ _ => (pg_name (i := 9) scLaw.nd rfl (Or.inl rfl)))) (by exact (fun _ _ _ _ _ => pts_nil)) (by exact (fun _ _ _ _ _ => (pe_join pe_str (pv 9)))))))
      (pss_cons (ps_if (PW.pt (pw_or (pt_cmpR op_ne (pe_call GT hr (by rfl) gT kT bT .nil pass0 (pa_cons (pv 3) pa_nil)) (pv 6) (nomark _)) (pw_or1 (pt_cmpR op_ne (pe_callB (call_reprL gd hr) (by rfl) m_repr (by decide +kernel) (pa_cons (pe_call GI hr (by rfl) gI kI bI .nil pass0 (pa_cons (pv 6) pa_nil)) pa_nil)) (pv 4) (nomark _)))))
        (pss_one (ps_ret pe_bl))
        pss_nil)
      (pss_cons (ps_set (i := 7) scLaw.nd rfl (Or.inl rfl) (pe_call GI hr (by rfl) gI kI bI .nil pass0 (pa_cons (pe_call GG hr (by rfl) gG kG bG .nil pass0 (pa_cons (pv 1) (pa_cons (pv 5) pa_nil))) pa_nil)))
      (pss_cons (ps_if (PW.pt (pw_or (pt_cmpR op_ne (pe_callB (call_reprL gd hr) (by rfl) m_repr (by decide +kernel) (pa_cons (pv 7) pa_nil)) (pv 4) (nomark _)) (pw_or1 (pt_cmpR op_ne (pe_call GT hr (by rfl) gT kT bT .nil pass0 (pa_cons (pv 7) pa_nil)) (pv 6) (nomark _)))))
        (pss_one (ps_ret pe_bl))
        pss_nil)
      (pss_cons (ps_if (PW.pt (pw_or (pt_cmpR op_ne (pe_callB (call_reprL gd hr) (by rfl) m_repr (by decide +kernel) (pa_cons (pe_call GI hr (by rfl) gI kI bI .nil pass0 (pa_cons (pv 6) pa_nil)) pa_nil)) (pv 4) (nomark _)) (pw_or1 (pt_cmpR op_ne (pe_callB (call_reprL gd hr) (by rfl) m_repr (by decide +kernel) (pa_cons (pv 3) pa_nil)) (pv 4) (nomark _)))))
        (pss_one (ps_ret pe_bl))
        pss_nil)
      (pss_cons (ps_set (i := 8) scLaw.nd rfl (Or.inl rfl) (pe_call GE hr (by rfl) gE kE bE .nil pass0 (pa_cons (pv 1) (pa_cons (pe_ix ix_tup (pv 3) pe_int (fun _ _ => rfl)) pa_nil))))
      (pss_one (ps_if (pt_cmpR op_ne (pe_call GX hr (by rfl) gX kX bX .nil pass0 (pa_cons (pv 8) pa_nil)) (pe_join pe_str (pe_lc (own := [("part", 10)]) (g := gName 10) (tt := tYes) rfl scLaw.nd (pi_tup (pv 8)) (blkOk_by (own := [("part", 10)]) (N := ["script", "draw", "turn", "program", "kept", "lines", "due", "other", "expr", "words", "part"]) (sc := defScope sLaw) (by decide +kernel)) (by exact (fun _ _ _ _ _ => (pg_name (i := 10) scLaw.nd rfl (Or.inl rfl)))) (by exact (fun _ _ _ _ _ => pts_nil)) (by exact (fun _ _ _ _ _ => (pe_callTy call_strB (by rfl) m_str (by decide +kernel) (pa_cons (pv 10) pa_nil)))))) (nomark _))
        (pss_one (ps_ret pe_bl))
        pss_nil))))))))))))
    (pss_one (ps_ret pe_bl)))), ?_⟩
    have szl := sizeLine_eq
    refine ⟨.ref a, rfl, a, ns, rfl, hS, hl, fun d c H1 nd k1 D1 => ⟨4, rfl, by decide, by decide, ?_⟩⟩
    refine for_range (lo := 0) (n := 4) (fun i σ H' => Dr H' d c (ns ++ [0]) (10000 * i) ∧ ∃ y2 y3 y4 y5 y6 y7 y8 y9 y10, σ = [some (.ref a), some (.ref d), y2, y3, y4, y5, y6, y7, y8, y9, y10]) ⟨D1, none, none, none, none, none, none, none, none, none, rfl⟩ (fun i σ H2 hi h => ?_) (fun σ H2 h => ?_)
    · obtain ⟨D2, y2, y3, y4, y5, y6, y7, y8, y9, y10, rfl⟩ := h
      refine ⟨.ref d, rfl, d, c, ns ++ [0], 10000 * i, rfl, D2, by omega, fun g p H3 fg pa k3 D3 => ?_⟩
      have lw := Pg.lw fg
      have few := Pg.few fg
      have tx := text_len lw
      obtain ⟨r1, r2, r3, r4, r5⟩ := pg_repr (K := K) pa fg
      refine ⟨.ref p, rfl, p, g.dat, rfl, r1, r2, r3, r4, r5, ?_⟩
      refine ⟨.ref p, rfl, p, g, rfl, pa, fg, fun L ts H4 nL k4 eL ls => ?_⟩
      have D4 := D3.stay k4
      have pa4 := pa.stay k4 fun _ _ _ z => z
      have lsl := ls.len
      refine ⟨⟨_, rfl⟩, .ref L, rfl, L, rfl, ⟨_, SqL.of eL⟩, fun Dd hDd => ?_⟩
      refine lc_list (K := K) (a := L) (xs := ts.map V.ref) (fun i' H' => Kept None H4 H' ∧ H' Dd = some (.lst (((g.lines.take i').map spj).map V.str))) ⟨Kept.refl.new hDd, upd_same⟩ (fun i' H' _ h => .inl (.inl (h.1.lst eL fun z => z))) (fun i' x H' hx h => ?_) (fun H5 h5 => ?_)
      · obtain ⟨ki, e1⟩ := h
        rw [List.getElem?_map] at hx
        obtain ⟨t, ht, rfl⟩ := Option.map_eq_some_iff.mp hx
        obtain ⟨l, hl, et⟩ := ls.at ht
        have lwl := lw l (List.mem_of_getElem? hl)
        have s8 := sum8 (fun w hw => (lwl.2.1 w hw).2)
        refine ⟨rfl, ?_⟩
        unfold tYes
        dsimp only
        rw [if_pos rfl]
        refine ⟨⟨_, rfl⟩, .ref t, rfl, " ", t, l, rfl, rfl, .inl (SqL.of (ki.lst et fun z => z)), ?_, _, e1, ?_, fun b o e n => ?_, ?_⟩
        · rw [show (" " : PySem.Str).length = 1 from by decide +kernel]
          have := lwl.2.2
          omega
        · rw [List.length_map, List.length_map, List.length_take]; omega
        · rw [upd_ne (ne_of_none e hDd)]
          exact ki b o e n
        · rw [upd_same, List.take_add_one, hl, List.map_append, List.map_append]
          rfl
      · obtain ⟨k5, e5⟩ := h5
        rw [List.length_map, lsl, List.take_length] at e5
        refine ⟨"\n", Dd, g.lines.map spj, rfl, rfl, .inl (SqL.of e5), ?_, ?_⟩
        · rw [show ("\n" : PySem.Str).length = 1 from by decide +kernel, List.length_map]; omega
        have D5 := D4.stay k5
        have pa5 := pa4.stay k5 fun _ _ _ z => z
        have eL5 := k5.lst eL fun z => z
        have ls5 := ls.stay k5 fun _ _ z => z
        clear k4 k5 e5 eL ls pa pa4 D4 hDd
        have nn : ∀ {Hx : Hp} (p : Addr) (ys : List V), Hx p = some (.tup ys) → ¬ None p := fun p ys _ z => z
        have same : ∀ x : PySem.Str, (!decide (V.str x = V.str x)) = false := fun x => by rw [decide_eq_true rfl]; rfl
        -- the texts are alike, and read back
        refine ⟨.ref p, rfl, p, g, rfl, pa5, fg, fun H6 k6 => ⟨.str (textOf g), rfl, rfl, _, rfl, ?_⟩⟩
        rw [decide_eq_true rfl]
        refine iteF ?_
        have pa6 := pa5.stay k6 nn
        have D6 := D5.stay k6
        have eL6 := k6.lst eL5 fun z => z
        have ls6 := ls5.stay k6 fun _ _ z => z
        clear k6 D5 pa5 eL5 ls5
        refine ⟨.str (textOf g), rfl, textOf g, g, rfl, text_len_all fg, fg, linesOf_text fg, fun p7 H7 k7 pg7 => ?_⟩
        obtain ⟨w1, w2, w3, w4, w5⟩ := pg_repr (K := K) pg7 fg
        refine ⟨p7, g.dat, rfl, w1, w2, w3, w4, w5, .str g.dat.shown, rfl, rfl, _, rfl, ?_⟩
        rw [decide_eq_true rfl]
        refine iteF ?_
        have pa7 := pa6.stay k7 nn
        have D7 := D6.stay k7
        have eL7 := k7.lst eL6 fun z => z
        have ls7 := ls6.stay k7 fun _ _ z => z
        clear k7 D6 pa6 eL6 ls6 w1 pg7
        -- the text with gaps
        refine ⟨.ref d, rfl, .ref L, rfl, d, c, L, ns ++ [0], _, ts, g.lines, H3, rfl, D7, by omega, eL7, ls7, lw, few, (by simp [Pg.lines]), fun z H8 hz lz k8 D8 => ?_⟩
        have pa8 := pa7.stay k8 D7.ntup
        refine ⟨z, g, rfl, lz, fg, hz, fun p9 H9 k9 pg9 => ?_⟩
        have pa9 := pa8.stay k9 nn
        have D9 := D8.stay k9
        obtain ⟨w1, w2, w3, w4, w5⟩ := pg_repr (K := K) pg9 fg
        clear D7 eL7 ls7 k8 pa7 k9 pa8 D8
        refine ⟨.ref p9, rfl, p9, g.dat, rfl, w1, w2, w3, w4, w5, .str g.dat.shown, rfl, rfl, _, rfl, ?_⟩
        rw [decide_eq_true rfl]
        refine iteF ⟨.ref p9, rfl, p9, g, rfl, pg9, fg, fun HA kA => ⟨.str (textOf g), rfl, rfl, _, rfl, ?_⟩⟩
        rw [decide_eq_true rfl]
        refine iteF ?_
        have paA := pa9.stay kA nn
        have DA := D9.stay kA
        clear kA D9 pa9 pg9 w1
        -- read once more; the program itself untouched
        refine ⟨.str (textOf g), rfl, textOf g, g, rfl, text_len_all fg, fg, linesOf_text fg, fun pB HB kB pgB => ?_⟩
        obtain ⟨w1, w2, w3, w4, w5⟩ := pg_repr (K := K) pgB fg
        refine ⟨pB, g.dat, rfl, w1, w2, w3, w4, w5, .str g.dat.shown, rfl, rfl, _, rfl, ?_⟩
        rw [decide_eq_true rfl]
        have paB := paA.stay kB nn
        have DB := DA.stay kB
        obtain ⟨v1, v2, v3, v4, v5⟩ := pg_repr (K := K) paB fg
        refine iteF ⟨.ref p, rfl, p, g.dat, rfl, v1, v2, v3, v4, v5, .str g.dat.shown, rfl, rfl, _, rfl, ?_⟩
        rw [decide_eq_true rfl]
        refine iteF ?_
        -- an expression
        obtain ⟨q1, q2, rs, hp, h1, h2, it⟩ := paB
        obtain ⟨g1, g2, _⟩ := fg
        refine ⟨.ref d, rfl, .ref p, rfl, p, _, 0, .int (g.v : Int), rfl, rfl, SqT.of hp, atI_nat (j := 0) rfl, d, c, ns ++ [0], _, g.v, rfl, DB, by omega, g1, g2, fun e pe HC ok en kC DC epe => ?_⟩
        refine ⟨.ref pe, rfl, pe, e, g.v, rfl, epe, en, ok, g2, fun HD kD => ?_⟩
        have epD := kD.tup epe fun z => z
        have DD := DC.stay kD
        have sm := e.sm en ok g2
        have few4 : e.vs.length ≤ 4 := by cases e <;> simp [Ex.vs, Ex.parts]
        refine ⟨⟨_, rfl⟩, .ref pe, rfl, pe, rfl, ⟨_, SqT.of epD⟩, fun Dm hDm => ?_⟩
        refine lc_tup (K := K) (a := pe) (xs := e.vs) (fun i H' => Kept None HD H' ∧ H' Dm = some (.lst (((e.vs.take i).map txV).map V.str))) ⟨Kept.refl.new hDm, upd_same⟩ (fun i H' _ h => SqT.of (h.1.tup epD fun z => z)) (fun i x H' hx h => ?_) (fun HE hE => ?_)
        · obtain ⟨k1, k2⟩ := h
          have sx := sm x (List.mem_of_getElem? hx)
          refine ⟨rfl, ?_⟩
          unfold tYes
          dsimp only
          rw [if_pos rfl]
          refine ⟨x, rfl, ?_⟩
          unfold tNil
          refine sx.str ⟨_, k2, ?_, fun b o e n => ?_, ?_⟩
          · rw [List.length_map, List.length_map, List.length_take]; omega
          · rw [upd_ne (ne_of_none e hDm)]
            exact k1 b o e n
          · rw [upd_same, List.take_add_one, hx, List.map_append, List.map_append]
            rfl
        · obtain ⟨k1, k2⟩ := hE
          rw [List.take_length, Ex.tx] at k2
          have s8 := sum_le8 sm
          rw [Ex.tx] at s8
          have le : e.words.length = e.vs.length := by rw [← Ex.tx, List.length_map]
          refine ⟨" ", Dm, e.words, rfl, rfl, .inl (SqL.of k2), by rw [show (" " : PySem.Str).length = 1 from by decide +kernel]; omega, rfl, _, rfl, ?_⟩
          rw [show Txt.join " " e.words = spj e.words from rfl, decide_eq_true rfl]
          exact iteF ⟨(DD.stay k1).more (by omega), _, _, _, _, _, _, _, _, _, rfl⟩
    · obtain ⟨D2, y2, y3, y4, y5, y6, y7, y8, y9, y10, rfl⟩ := h
      exact q H2
end
end K7

set_option Elab.async false
set_option linter.all false
set_option maxRecDepth 100000
set_option maxHeartbeats 0
namespace K7
open PySem PySem.W PySem.Spec PyProof.Rows L2
/-! ### the head: facts by names, the class, the table, the run -/
def mkD (x : PySem.Str) (i : Nat) : He.DefD := ⟨(x, none), x, x, defArgs (top i), defBody (top i), defScope (top i), [], []⟩
def mkM (m q : PySem.Str) (j : Nat) : He.DefD := ⟨("Text", some m), m, q, defArgs (inClass (top 20) j), defBody (inClass (top 20) j), defScope (inClass (top 20) j), [], []⟩
def fn : List He.DefD := [mkD "is_name" 6, mkD "number_in" 7, mkD "rows_of" 8, mkD "program_in" 19, mkD "expr_text" 22, mkD "program_text" 23, mkD "_show_rows" 24, mkD "_show_within" 25, mkD "_law_begin" 27, mkD "_law_mixed" 28, mkD "_law_next" 29, mkD "_law_name" 30, mkD "_law_expr" 31, mkD "_law_rows" 32, mkD "_law_program" 33, mkD "_law_row_lines" 34, mkD "_law_lines" 35, mkD "_law_gapped" 36, mkD "law" 37, mkM "__init__" "Text.__init__" 0, mkM "read_program" "Text.read_program" 1, mkM "read_inputs" "Text.read_inputs" 2, mkM "read_rows" "Text.read_rows" 3, mkM "read_set" "Text.read_set" 4, mkM "read_if" "Text.read_if" 5, mkM "read_round" "Text.read_round" 6, mkM "take_line_of" "Text.take_line_of" 7, mkM "take_closing" "Text.take_closing" 8, mkM "name_behind" "Text.name_behind" 9, mkM "number_behind" "Text.number_behind" 10, mkM "number_of" "Text.number_of" 11, mkM "are_names" "Text.are_names" 12]
def fa : List He.Fa := [.glo "is_name", .glo "number_in", .glo "rows_of", .glo "program_in", .glo "expr_text", .glo "program_text", .glo "_show_rows", .glo "_show_within", .glo "_law_begin", .glo "_law_mixed", .glo "_law_next", .glo "_law_name", .glo "_law_expr", .glo "_law_rows", .glo "_law_program", .glo "_law_row_lines", .glo "_law_lines", .glo "_law_gapped", .glo "law", .free "type", .free "str", .free "tuple", .free "len", .free "range", .free "repr", .free "list", .free "int", .int "LONGEST_NAME" 8, .int "MOST_FIGURES" 4, .int "WIDEST" 12, .int "MOST_INPUTS" 4, .int "MOST_ROWS" 60, .int "MOST_WITHIN" 6, .int "MOST_ROUNDS_WITHIN" 3, .int "MOST_GOINGS" 12, .int "MOST_SHIFT" 11, .glo "EXPR_PARTS", .glo "CLOSING_WORDS", .glo "Text", .cls "Text", .mkr "Text", .noat "Text" "all_lines", .noat "Text" "lines", .noat "Text" "taken", .noat "Text" "many_rows", .noat "Text" "names", .noat "Text" "bounds", .meth "Text" "read_program", .meth "Text" "read_inputs", .meth "Text" "read_rows", .meth "Text" "read_set", .meth "Text" "read_if", .meth "Text" "read_round", .meth "Text" "take_line_of", .meth "Text" "take_closing", .meth "Text" "name_behind", .meth "Text" "number_behind", .meth "Text" "number_of", .meth "Text" "are_names"]
def tkv : List (PySem.Str × List PySem.Str) := [("number", ["word"]), ("copy", ["name"]), ("add", ["name", "name"]), ("less", ["name", "name"]), ("and", ["name", "name"]), ("or", ["name", "name"]), ("unlike", ["name", "name"]), ("same", ["name", "name"]), ("below", ["name", "name"]), ("up", ["name", "shift"]), ("down", ["name", "shift"]), ("pick", ["name", "name", "name"])]
def tb : List He.Tab := [(fun K => He.ga K "EXPR_PARTS", tkv.map (·.1))]
def tupA (K : PySem.W.Frag) (a : Addr) (vs : List V) : Bool := match K.lookup a with
  | some ⟨.type c, _, .seq its _, _⟩ => decide (c = "tuple") && (decide (its.size ≤ sizeLine) && He.relAll vs its.toList)
  | _ => false
theorem tupA_ok {K : PySem.W.Frag} {a : Addr} {vs : List V} (h : tupA K a vs = true) (H : Hp) : SqT K H a vs := by
  unfold tupA at h
  cases q : K.lookup a with
  | none =>
    rw [q] at h
    cases h
  | some o =>
    obtain ⟨oc, od, dt, osl⟩ := o
    rw [q] at h
    cases oc with
    | type c =>
      cases dt with
      | seq its n =>
        obtain ⟨h1, h2⟩ := He.ba (show (decide (c = "tuple") && (decide (its.size ≤ sizeLine) && He.relAll vs its.toList)) = true from h)
        obtain ⟨h3, h4⟩ := He.ba h2
        exact .inr ⟨_, its, n, q, congrArg Value.type (of_decide_eq_true h1), rfl, of_decide_eq_true h3, He.relAll_ok h4⟩
      | _ => cases h
    | _ => cases dt <;> cases h
def entB (K : PySem.W.Frag) (q : PySem.Str × List PySem.Str) : Bool := match PySem.W.nsIn K (He.ga K "EXPR_PARTS") q.1 with
  | some (some (.ref p)) => tupA K p (q.2.map V.str)
  | _ => false
theorem entB_ok {K : PySem.W.Frag} {q : PySem.Str × List PySem.Str} (h : entB K q = true) : ∃ p, PySem.W.nsIn K (He.ga K "EXPR_PARTS") q.1 = some (some (.ref p)) ∧ ∀ H, SqT K H p (q.2.map V.str) := by
  unfold entB at h
  cases e : PySem.W.nsIn K (He.ga K "EXPR_PARTS") q.1 with
  | none => rw [e] at h; cases h
  | some r =>
    rw [e] at h
    cases r with
    | none => cases h
    | some u =>
      cases u with
      | ref p => exact ⟨p, rfl, fun H => tupA_ok h H⟩
      | _ => cases h
def ex (K : PySem.W.Frag) : Bool := tkv.all (entB K) && tupA K (He.ga K "CLOSING_WORDS") [.str "else", .str "end"]
abbrev R : PySem.W.OpenRow := PySem.W.OpenLaw.row PySem.Challenge.rw_bitneed_k07_whole_programs_to_text_and_b
abbrev hkS : PySem.W.Hook := He.hookX 4 fa fn tb [] ex
def ob (s : PySem.W.SharedT) : He.AlX := He.obsX 4 fa fn tb [] ex (HandSHeadRun.getT s)
theorem ob_eq (s : PySem.W.SharedT) : ob s = hkS.obs s.abs := He.obsX_eq (HandSHeadRun.getT_eq s)
def loose : List PySem.Str := [("BitError" : PySem.Str), "BadText", "LONGEST_NAME", "MOST_FIGURES", "WIDEST", "MOST_INPUTS", "MOST_ROWS", "MOST_WITHIN", "MOST_ROUNDS_WITHIN", "MOST_GOINGS", "MOST_SHIFT", "EXPR_PARTS", "CLOSING_WORDS", "Text", "is_name", "number_in", "rows_of", "program_in", "expr_text", "program_text", "_show_rows", "_show_within", "_law_begin", "_law_mixed", "_law_next", "_law_name", "_law_expr", "_law_rows", "_law_program", "_law_row_lines", "_law_lines", "_law_gapped"]
theorem run (w : World) : HandSHeadRun.RunEq R (PySem.W.view R.prog [37]) hkS ob 6000 loose w := by
  refine byRow2 "special-get-raises" (P := fun w => HandSHeadRun.RunEq R (PySem.W.view R.prog [37]) hkS ob 6000 loose w) (fun w => ?_) (fun w => ?_) w
  · intro os
    kernel_rfl
  · intro os
    kernel_rfl
theorem facts {P : Program} {w : World} {K : PySem.W.Frag} {h : Heap} {mg : PySem.Str → Option Value} {f : Addr} (X : K.In h) (G : h.Ns mainGlobals mg) (hfa : mg ("law" : PySem.Str) = some (.ref f)) (cx : He.SaysX fa fn tb [] ex w h K) :
    ∃ fd : FuncData, (∀ (s : Shared) (v : Value), BindsTo s fd ⟨[v], []⟩ [("script", v)]) ∧ ∀ base : Heap, K.In base → base.Ns mainGlobals mg → FnG P w K mg base 23 f fd ["script"] (spLaw K) := by
  have c := cx.t.d
  obtain ⟨mo1, mo2⟩ := He.ba cx.more
  have mD := He.glo_ok X G (c.fact 36 (f := .glo "EXPR_PARTS") rfl)
  have mC := He.glo_ok X G (c.fact 37 (f := .glo "CLOSING_WORDS") rfl)
  have mgC := He.glo_ok X G (c.fact 38 (f := .glo "Text") rfl)
  have tv : ∀ {q : PySem.Str × List PySem.Str}, q ∈ tkv → ∃ p, PySem.W.nsIn K (He.ga K "EXPR_PARTS") q.1 = some (some (.ref p)) ∧ ∀ H, SqT K H p (q.2.map V.str) := fun {q} hq => entB_ok (List.all_eq_true.mp mo1 q hq)
  have B : Tab K w mg (He.ga K "EXPR_PARTS") (He.ga K "CLOSING_WORDS") := ⟨cx.t.tab 0 (t := (fun K => He.ga K "EXPR_PARTS", tkv.map (·.1))) rfl, mD, fun e => by
    cases e with
    | num n => exact tv (q := ("number", ["word"])) (by simp [tkv])
    | copy y => exact tv (q := ("copy", ["name"])) (by simp [tkv])
    | two o y z =>
      cases o with
      | add => exact tv (q := ("add", ["name", "name"])) (by simp [tkv])
      | less => exact tv (q := ("less", ["name", "name"])) (by simp [tkv])
      | and => exact tv (q := ("and", ["name", "name"])) (by simp [tkv])
      | or => exact tv (q := ("or", ["name", "name"])) (by simp [tkv])
      | unlike => exact tv (q := ("unlike", ["name", "name"])) (by simp [tkv])
      | same => exact tv (q := ("same", ["name", "name"])) (by simp [tkv])
      | below => exact tv (q := ("below", ["name", "name"])) (by simp [tkv])
    | up y k => exact tv (q := ("up", ["name", "shift"])) (by simp [tkv])
    | down y k => exact tv (q := ("down", ["name", "shift"])) (by simp [tkv])
    | pick c y z => exact tv (q := ("pick", ["name", "name", "name"])) (by simp [tkv]), mC, fun H => tupA_ok mo2 H⟩
  obtain ⟨fdIsName, FIsName⟩ := c.def_ 0 (d := mkD "is_name" 6) rfl
  obtain ⟨fdNumberIn, FNumberIn⟩ := c.def_ 1 (d := mkD "number_in" 7) rfl
  obtain ⟨fdRowsOf, FRowsOf⟩ := c.def_ 2 (d := mkD "rows_of" 8) rfl
  obtain ⟨fdProgramIn, FProgramIn⟩ := c.def_ 3 (d := mkD "program_in" 19) rfl
  obtain ⟨fdExprText, FExprText⟩ := c.def_ 4 (d := mkD "expr_text" 22) rfl
  obtain ⟨fdProgramText, FProgramText⟩ := c.def_ 5 (d := mkD "program_text" 23) rfl
  obtain ⟨fdShowRows, FShowRows⟩ := c.def_ 6 (d := mkD "_show_rows" 24) rfl
  obtain ⟨fdShowWithin, FShowWithin⟩ := c.def_ 7 (d := mkD "_show_within" 25) rfl
  obtain ⟨fdLBegin, FLBegin⟩ := c.def_ 8 (d := mkD "_law_begin" 27) rfl
  obtain ⟨fdLMixed, FLMixed⟩ := c.def_ 9 (d := mkD "_law_mixed" 28) rfl
  obtain ⟨fdLNext, FLNext⟩ := c.def_ 10 (d := mkD "_law_next" 29) rfl
  obtain ⟨fdLName, FLName⟩ := c.def_ 11 (d := mkD "_law_name" 30) rfl
  obtain ⟨fdLExpr, FLExpr⟩ := c.def_ 12 (d := mkD "_law_expr" 31) rfl
  obtain ⟨fdLRows, FLRows⟩ := c.def_ 13 (d := mkD "_law_rows" 32) rfl
  obtain ⟨fdLProgram, FLProgram⟩ := c.def_ 14 (d := mkD "_law_program" 33) rfl
  obtain ⟨fdLRowLines, FLRowLines⟩ := c.def_ 15 (d := mkD "_law_row_lines" 34) rfl
  obtain ⟨fdLLines, FLLines⟩ := c.def_ 16 (d := mkD "_law_lines" 35) rfl
  obtain ⟨fdLGapped, FLGapped⟩ := c.def_ 17 (d := mkD "_law_gapped" 36) rfl
  obtain ⟨fdLaw, FLaw⟩ := c.def_ 18 (d := mkD "law" 37) rfl
  obtain ⟨fdMInit, FMInit⟩ := c.def_ 19 (d := mkM "__init__" "Text.__init__" 0) rfl
  obtain ⟨fdMReadProgram, FMReadProgram⟩ := c.def_ 20 (d := mkM "read_program" "Text.read_program" 1) rfl
  obtain ⟨fdMReadInputs, FMReadInputs⟩ := c.def_ 21 (d := mkM "read_inputs" "Text.read_inputs" 2) rfl
  obtain ⟨fdMReadRows, FMReadRows⟩ := c.def_ 22 (d := mkM "read_rows" "Text.read_rows" 3) rfl
  obtain ⟨fdMReadSet, FMReadSet⟩ := c.def_ 23 (d := mkM "read_set" "Text.read_set" 4) rfl
  obtain ⟨fdMReadIf, FMReadIf⟩ := c.def_ 24 (d := mkM "read_if" "Text.read_if" 5) rfl
  obtain ⟨fdMReadRound, FMReadRound⟩ := c.def_ 25 (d := mkM "read_round" "Text.read_round" 6) rfl
  obtain ⟨fdMTakeLineOf, FMTakeLineOf⟩ := c.def_ 26 (d := mkM "take_line_of" "Text.take_line_of" 7) rfl
  obtain ⟨fdMTakeClosing, FMTakeClosing⟩ := c.def_ 27 (d := mkM "take_closing" "Text.take_closing" 8) rfl
  obtain ⟨fdMNameBehind, FMNameBehind⟩ := c.def_ 28 (d := mkM "name_behind" "Text.name_behind" 9) rfl
  obtain ⟨fdMNumberBehind, FMNumberBehind⟩ := c.def_ 29 (d := mkM "number_behind" "Text.number_behind" 10) rfl
  obtain ⟨fdMNumberOf, FMNumberOf⟩ := c.def_ 30 (d := mkM "number_of" "Text.number_of" 11) rfl
  obtain ⟨fdMAreNames, FMAreNames⟩ := c.def_ 31 (d := mkM "are_names" "Text.are_names" 12) rfl
  have e := hfa.symm.trans (He.glo_ok X G (c.fact 18 (f := .glo "law") rfl))
  cases e
  have gIsName := He.glo_ok X G (c.fact 0 (f := .glo "is_name") rfl)
  have gNumberIn := He.glo_ok X G (c.fact 1 (f := .glo "number_in") rfl)
  have gRowsOf := He.glo_ok X G (c.fact 2 (f := .glo "rows_of") rfl)
  have gProgramIn := He.glo_ok X G (c.fact 3 (f := .glo "program_in") rfl)
  have gExprText := He.glo_ok X G (c.fact 4 (f := .glo "expr_text") rfl)
  have gProgramText := He.glo_ok X G (c.fact 5 (f := .glo "program_text") rfl)
  have gShowRows := He.glo_ok X G (c.fact 6 (f := .glo "_show_rows") rfl)
  have gShowWithin := He.glo_ok X G (c.fact 7 (f := .glo "_show_within") rfl)
  have gLBegin := He.glo_ok X G (c.fact 8 (f := .glo "_law_begin") rfl)
  have gLMixed := He.glo_ok X G (c.fact 9 (f := .glo "_law_mixed") rfl)
  have gLNext := He.glo_ok X G (c.fact 10 (f := .glo "_law_next") rfl)
  have gLName := He.glo_ok X G (c.fact 11 (f := .glo "_law_name") rfl)
  have gLExpr := He.glo_ok X G (c.fact 12 (f := .glo "_law_expr") rfl)
  have gLRows := He.glo_ok X G (c.fact 13 (f := .glo "_law_rows") rfl)
  have gLProgram := He.glo_ok X G (c.fact 14 (f := .glo "_law_program") rfl)
  have gLRowLines := He.glo_ok X G (c.fact 15 (f := .glo "_law_row_lines") rfl)
  have gLLines := He.glo_ok X G (c.fact 16 (f := .glo "_law_lines") rfl)
  have gLGapped := He.glo_ok X G (c.fact 17 (f := .glo "_law_gapped") rfl)
  have m_type := He.free_ok X G (c.fact 19 (f := .free "type") rfl)
  have m_str := He.free_ok X G (c.fact 20 (f := .free "str") rfl)
  have m_tuple := He.free_ok X G (c.fact 21 (f := .free "tuple") rfl)
  have m_len := He.free_ok X G (c.fact 22 (f := .free "len") rfl)
  have m_range := He.free_ok X G (c.fact 23 (f := .free "range") rfl)
  have m_repr := He.free_ok X G (c.fact 24 (f := .free "repr") rfl)
  have m_list := He.free_ok X G (c.fact 25 (f := .free "list") rfl)
  have m_int := He.free_ok X G (c.fact 26 (f := .free "int") rfl)
  obtain ⟨tLONGEST_NAME, iLONGEST_NAME⟩ := He.int_ok X G (c.fact 27 (f := .int "LONGEST_NAME" 8) rfl)
  obtain ⟨tMOST_FIGURES, iMOST_FIGURES⟩ := He.int_ok X G (c.fact 28 (f := .int "MOST_FIGURES" 4) rfl)
  obtain ⟨tWIDEST, iWIDEST⟩ := He.int_ok X G (c.fact 29 (f := .int "WIDEST" 12) rfl)
  obtain ⟨tMOST_INPUTS, iMOST_INPUTS⟩ := He.int_ok X G (c.fact 30 (f := .int "MOST_INPUTS" 4) rfl)
  obtain ⟨tMOST_ROWS, iMOST_ROWS⟩ := He.int_ok X G (c.fact 31 (f := .int "MOST_ROWS" 60) rfl)
  obtain ⟨tMOST_WITHIN, iMOST_WITHIN⟩ := He.int_ok X G (c.fact 32 (f := .int "MOST_WITHIN" 6) rfl)
  obtain ⟨tMOST_ROUNDS_WITHIN, iMOST_ROUNDS_WITHIN⟩ := He.int_ok X G (c.fact 33 (f := .int "MOST_ROUNDS_WITHIN" 3) rfl)
  obtain ⟨tMOST_GOINGS, iMOST_GOINGS⟩ := He.int_ok X G (c.fact 34 (f := .int "MOST_GOINGS" 12) rfl)
  obtain ⟨tMOST_SHIFT, iMOST_SHIFT⟩ := He.int_ok X G (c.fact 35 (f := .int "MOST_SHIFT" 11) rfl)
  have T : TxC K mg (He.ga K "Text") := ⟨He.cls_ok (c.fact 39 (f := .cls "Text") rfl), He.noat_ok (c.fact 41 (f := .noat "Text" "all_lines") rfl), He.noat_ok (c.fact 42 (f := .noat "Text" "lines") rfl), He.noat_ok (c.fact 43 (f := .noat "Text" "taken") rfl), He.noat_ok (c.fact 44 (f := .noat "Text" "many_rows") rfl), He.noat_ok (c.fact 45 (f := .noat "Text" "names") rfl), He.noat_ok (c.fact 46 (f := .noat "Text" "bounds") rfl), mgC⟩
  have M := He.mkr_ok (c.fact 40 (f := .mkr "Text") rfl)
  have meReadProgram := He.meth_ok (c.fact 47 (f := .meth "Text" "read_program") rfl)
  have meReadInputs := He.meth_ok (c.fact 48 (f := .meth "Text" "read_inputs") rfl)
  have meReadRows := He.meth_ok (c.fact 49 (f := .meth "Text" "read_rows") rfl)
  have meReadSet := He.meth_ok (c.fact 50 (f := .meth "Text" "read_set") rfl)
  have meReadIf := He.meth_ok (c.fact 51 (f := .meth "Text" "read_if") rfl)
  have meReadRound := He.meth_ok (c.fact 52 (f := .meth "Text" "read_round") rfl)
  have meTakeLineOf := He.meth_ok (c.fact 53 (f := .meth "Text" "take_line_of") rfl)
  have meTakeClosing := He.meth_ok (c.fact 54 (f := .meth "Text" "take_closing") rfl)
  have meNameBehind := He.meth_ok (c.fact 55 (f := .meth "Text" "name_behind") rfl)
  have meNumberBehind := He.meth_ok (c.fact 56 (f := .meth "Text" "number_behind") rfl)
  have meNumberOf := He.meth_ok (c.fact 57 (f := .meth "Text" "number_of") rfl)
  have meAreNames := He.meth_ok (c.fact 58 (f := .meth "Text" "are_names") rfl)
  have b := FunD.bindsA (ps := ["script"]) FLaw fun _ _ _ _ _ _ us hl => match us, hl with | [_], _ => rfl
  have bIsName : Binds K fdIsName ["thing"] [] := FunD.bindsN FIsName fun _ _ _ _ _ _ us hl => match us, hl with | [_], _ => rfl
  have bNumberIn : Binds K fdNumberIn ["word"] [] := FunD.bindsN FNumberIn fun _ _ _ _ _ _ us hl => match us, hl with | [_], _ => rfl
  have bRowsOf : Binds K fdRowsOf ["text"] [] := FunD.bindsN FRowsOf fun _ _ _ _ _ _ us hl => match us, hl with | [_], _ => rfl
  have bProgramIn : Binds K fdProgramIn ["text"] [] := FunD.bindsN FProgramIn fun _ _ _ _ _ _ us hl => match us, hl with | [_], _ => rfl
  have bExprText : Binds K fdExprText ["expr"] [] := FunD.bindsN FExprText fun _ _ _ _ _ _ us hl => match us, hl with | [_], _ => rfl
  have bProgramText : Binds K fdProgramText ["program"] [] := FunD.bindsN FProgramText fun _ _ _ _ _ _ us hl => match us, hl with | [_], _ => rfl
  have bShowRows : Binds K fdShowRows ["rows", "lines"] [] := FunD.bindsN FShowRows fun _ _ _ _ _ _ us hl => match us, hl with | [_, _], _ => rfl
  have bShowWithin : Binds K fdShowWithin ["row", "lines"] [] := FunD.bindsN FShowWithin fun _ _ _ _ _ _ us hl => match us, hl with | [_, _], _ => rfl
  have bLBegin : Binds K fdLBegin ["script"] [] := FunD.bindsN FLBegin fun _ _ _ _ _ _ us hl => match us, hl with | [_], _ => rfl
  have bLMixed : Binds K fdLMixed ["cell", "k"] [] := FunD.bindsN FLMixed fun _ _ _ _ _ _ us hl => match us, hl with | [_, _], _ => rfl
  have bLNext : Binds K fdLNext ["draw", "many"] [] := FunD.bindsN FLNext fun _ _ _ _ _ _ us hl => match us, hl with | [_, _], _ => rfl
  have bLName : Binds K fdLName ["draw"] [] := FunD.bindsN FLName fun _ _ _ _ _ _ us hl => match us, hl with | [_], _ => rfl
  have bLExpr : Binds K fdLExpr ["draw", "wide"] [] := FunD.bindsN FLExpr fun _ _ _ _ _ _ us hl => match us, hl with | [_, _], _ => rfl
  have bLRows : Binds K fdLRows ["draw", "room", "deep", "wide", "rounds"] [] := FunD.bindsN FLRows fun _ _ _ _ _ _ us hl => match us, hl with | [_, _, _, _, _], _ => rfl
  have bLProgram : Binds K fdLProgram ["draw"] [] := FunD.bindsN FLProgram fun _ _ _ _ _ _ us hl => match us, hl with | [_], _ => rfl
  have bLRowLines : Binds K fdLRowLines ["rows"] [] := FunD.bindsN FLRowLines fun _ _ _ _ _ _ us hl => match us, hl with | [_], _ => rfl
  have bLLines : Binds K fdLLines ["program"] [] := FunD.bindsN FLLines fun _ _ _ _ _ _ us hl => match us, hl with | [_], _ => rfl
  have bLGapped : Binds K fdLGapped ["draw", "lines"] [] := FunD.bindsN FLGapped fun _ _ _ _ _ _ us hl => match us, hl with | [_, _], _ => rfl
  have bMInit : Binds K fdMInit ["self", "all_lines"] [] := FunD.bindsN FMInit fun _ _ _ _ _ _ us hl => match us, hl with | [_, _], _ => rfl
  have bMReadProgram : Binds K fdMReadProgram ["self"] [] := FunD.bindsN FMReadProgram fun _ _ _ _ _ _ us hl => match us, hl with | [_], _ => rfl
  have bMReadInputs : Binds K fdMReadInputs ["self"] [] := FunD.bindsN FMReadInputs fun _ _ _ _ _ _ us hl => match us, hl with | [_], _ => rfl
  have bMReadRows : Binds K fdMReadRows ["self", "deep", "rounds"] [] := FunD.bindsN FMReadRows fun _ _ _ _ _ _ us hl => match us, hl with | [_, _, _], _ => rfl
  have bMReadSet : Binds K fdMReadSet ["self", "words"] [] := FunD.bindsN FMReadSet fun _ _ _ _ _ _ us hl => match us, hl with | [_, _], _ => rfl
  have bMReadIf : Binds K fdMReadIf ["self", "words", "deep", "rounds"] [] := FunD.bindsN FMReadIf fun _ _ _ _ _ _ us hl => match us, hl with | [_, _, _, _], _ => rfl
  have bMReadRound : Binds K fdMReadRound ["self", "words", "deep", "rounds"] [] := FunD.bindsN FMReadRound fun _ _ _ _ _ _ us hl => match us, hl with | [_, _, _, _], _ => rfl
  have bMTakeLineOf : Binds K fdMTakeLineOf ["self", "word"] [] := FunD.bindsN FMTakeLineOf fun _ _ _ _ _ _ us hl => match us, hl with | [_, _], _ => rfl
  have bMTakeClosing : Binds K fdMTakeClosing ["self", "word"] [] := FunD.bindsN FMTakeClosing fun _ _ _ _ _ _ us hl => match us, hl with | [_, _], _ => rfl
  have bMNameBehind : Binds K fdMNameBehind ["self", "words"] [] := FunD.bindsN FMNameBehind fun _ _ _ _ _ _ us hl => match us, hl with | [_, _], _ => rfl
  have bMNumberBehind : Binds K fdMNumberBehind ["self", "words", "kind"] [] := FunD.bindsN FMNumberBehind fun _ _ _ _ _ _ us hl => match us, hl with | [_, _, _], _ => rfl
  have bMNumberOf : Binds K fdMNumberOf ["self", "word", "kind"] [] := FunD.bindsN FMNumberOf fun _ _ _ _ _ _ us hl => match us, hl with | [_, _, _], _ => rfl
  have bMAreNames : Binds K fdMAreNames ["self", "words"] [] := FunD.bindsN FMAreNames fun _ _ _ _ _ _ us hl => match us, hl with | [_, _], _ => rfl
  refine ⟨fdLaw, fun s v => b s [v] rfl, fun base _ _ => ?_⟩
  have kIsName : FnOk P w K mg base CX0 2 _ fdIsName _ _ := ok_name FIsName m_type m_str m_len ⟨_, iLONGEST_NAME⟩
  have kNumberIn : FnOk P w K mg base CX0 3 _ fdNumberIn _ _ := ok_num FNumberIn m_len m_int ⟨_, iMOST_FIGURES⟩
  have kRowsOf : FnOk P w K mg base CX0 2 _ fdRowsOf _ _ := ok_rows FRowsOf
  have kNumOf : FnOk P w K mg base CX0 4 _ fdMNumberOf _ _ := ok_numof FMNumberOf T kNumberIn bNumberIn FNumberIn.kp gNumberIn
  have kAre : FnOk P w K mg base CX0 3 _ fdMAreNames _ _ := ok_are FMAreNames T kIsName bIsName FIsName.kp gIsName
  have kNameB : FnOk P w K mg base CX0 4 _ fdMNameBehind _ _ := ok_nameb FMNameBehind T meAreNames kAre bMAreNames m_len
  have kNumB : FnOk P w K mg base CX0 5 _ fdMNumberBehind _ _ := ok_numb FMNumberBehind T meNumberOf kNumOf bMNumberOf m_len
  have kTake : FnOk P w K mg base CX0 1 _ fdMTakeLineOf _ _ := ok_take FMTakeLineOf T m_len
  have kClose : FnOk P w K mg base CX0 2 _ fdMTakeClosing _ _ := ok_close FMTakeClosing T meTakeLineOf kTake bMTakeLineOf m_len
  have kInputs : FnOk P w K mg base CX0 4 _ fdMReadInputs _ _ := ok_inputs FMReadInputs T meTakeLineOf kTake bMTakeLineOf meAreNames kAre bMAreNames m_len m_tuple iMOST_INPUTS
  have kSet : FnOk P w K mg base CX0 5 _ fdMReadSet _ _ := ok_set FMReadSet T B meNumberOf kNumOf bMNumberOf meAreNames kAre bMAreNames m_len m_tuple
  have kReadRows : FnOk P w K mg base CX0 (6 + 2 * 7) _ fdMReadRows _ _ := ok_rows_all FMReadRows FMReadIf FMReadRound T B meReadSet kSet bMReadSet meNameBehind kNameB bMNameBehind meNumberBehind kNumB bMNumberBehind meTakeClosing kClose bMTakeClosing meReadIf bMReadIf meReadRound bMReadRound meReadRows bMReadRows m_len m_tuple iMOST_WITHIN iMOST_ROWS iMOST_ROUNDS_WITHIN 7
  have kInit : FnOk P w K mg base CX0 1 _ fdMInit _ _ := ok_init FMInit T iWIDEST iMOST_GOINGS iMOST_SHIFT
  have kReadP : FnOk P w K mg base CX0 21 _ fdMReadProgram _ _ := ok_program FMReadProgram T meTakeLineOf kTake bMTakeLineOf meNumberBehind kNumB bMNumberBehind meReadInputs kInputs bMReadInputs meReadRows kReadRows bMReadRows m_len
  have kProgIn : FnOk P w K mg base CX0 22 _ fdProgramIn _ _ := ok_progin FProgramIn T M kInit bMInit kRowsOf bRowsOf FRowsOf.kp gRowsOf meReadProgram kReadP bMReadProgram m_type m_str
  have kExText : FnOk P w K mg base CX0 1 _ fdExprText _ _ := ok_extext FExprText m_str
  have kShow : FnOk P w K mg base CX0 (2 + 2 * 7) _ fdShowRows _ _ := ok_show_all FShowRows FShowWithin kExText bExprText FExprText.kp gExprText bShowRows FShowRows.kp gShowRows bShowWithin FShowWithin.kp gShowWithin 7
  have kPText : FnOk P w K mg base CX0 17 _ fdProgramText _ _ := ok_ptext FProgramText kShow bShowRows FShowRows.kp gShowRows
  have kLBegin : FnOk P w K mg base CX0 1 _ fdLBegin _ _ := ok_begin FLBegin
  have kLMixed : FnOk P w K mg base CX0 1 _ fdLMixed _ _ := ok_mixed FLMixed
  have kLNext : FnOk P w K mg base CX0 2 _ fdLNext _ _ := ok_next FLNext kLMixed bLMixed FLMixed.kp gLMixed m_len
  have kLName : FnOk P w K mg base CX0 3 _ fdLName _ _ := ok_lname FLName kLNext bLNext FLNext.kp gLNext m_range
  have kLExpr : FnOk P w K mg base CX0 4 _ fdLExpr _ _ := ok_lexpr FLExpr kLNext bLNext FLNext.kp gLNext kLName bLName FLName.kp gLName m_range m_tuple
  have kLR0 : FnOk P w K mg base CX0 (5 + 0) _ fdLRows _ _ := ok_lrows0 FLRows
  have kLR1 : FnOk P w K mg base CX0 (5 + 0 + 1) _ fdLRows _ (spLRows (0 + 1)) := ok_lrows1 (n0 := 0) FLRows kLNext bLNext FLNext.kp gLNext kLName bLName FLName.kp gLName kLExpr bLExpr FLExpr.kp gLExpr kLR0 bLRows FLRows.kp gLRows m_range m_tuple m_int
  have kLR2 : FnOk P w K mg base CX0 (5 + 1 + 1) _ fdLRows _ (spLRows (1 + 1)) := ok_lrows1 (n0 := 1) FLRows kLNext bLNext FLNext.kp gLNext kLName bLName FLName.kp gLName kLExpr bLExpr FLExpr.kp gLExpr kLR1 bLRows FLRows.kp gLRows m_range m_tuple m_int
  have kLR3 : FnOk P w K mg base CX0 (5 + 2 + 1) _ fdLRows _ (spLRows (2 + 1)) := ok_lrows1 (n0 := 2) FLRows kLNext bLNext FLNext.kp gLNext kLName bLName FLName.kp gLName kLExpr bLExpr FLExpr.kp gLExpr kLR2 bLRows FLRows.kp gLRows m_range m_tuple m_int
  have kLR4 : FnOk P w K mg base CX0 (5 + 3 + 1) _ fdLRows _ (spLRows (3 + 1)) := ok_lrows1 (n0 := 3) FLRows kLNext bLNext FLNext.kp gLNext kLName bLName FLName.kp gLName kLExpr bLExpr FLExpr.kp gLExpr kLR3 bLRows FLRows.kp gLRows m_range m_tuple m_int
  have kLR5 : FnOk P w K mg base CX0 (5 + 4 + 1) _ fdLRows _ (spLRows (4 + 1)) := ok_lrows1 (n0 := 4) FLRows kLNext bLNext FLNext.kp gLNext kLName bLName FLName.kp gLName kLExpr bLExpr FLExpr.kp gLExpr kLR4 bLRows FLRows.kp gLRows m_range m_tuple m_int
  have kLR6 : FnOk P w K mg base CX0 (5 + 5 + 1) _ fdLRows _ (spLRows (5 + 1)) := ok_lrows1 (n0 := 5) FLRows kLNext bLNext FLNext.kp gLNext kLName bLName FLName.kp gLName kLExpr bLExpr FLExpr.kp gLExpr kLR5 bLRows FLRows.kp gLRows m_range m_tuple m_int
  have kRL0 : FnOk P w K mg base CX0 (1 + 0) _ fdLRowLines _ _ := ok_rowl0 FLRowLines
  have kRL1 : FnOk P w K mg base CX0 (1 + 0 + 1) _ fdLRowLines _ (spRowL (0 + 1)) := ok_rowl1 (n := 0) FLRowLines kRL0 bLRowLines FLRowLines.kp gLRowLines m_str
  have kRL2 : FnOk P w K mg base CX0 (1 + 1 + 1) _ fdLRowLines _ (spRowL (1 + 1)) := ok_rowl1 (n := 1) FLRowLines kRL1 bLRowLines FLRowLines.kp gLRowLines m_str
  have kRL3 : FnOk P w K mg base CX0 (1 + 2 + 1) _ fdLRowLines _ (spRowL (2 + 1)) := ok_rowl1 (n := 2) FLRowLines kRL2 bLRowLines FLRowLines.kp gLRowLines m_str
  have kRL4 : FnOk P w K mg base CX0 (1 + 3 + 1) _ fdLRowLines _ (spRowL (3 + 1)) := ok_rowl1 (n := 3) FLRowLines kRL3 bLRowLines FLRowLines.kp gLRowLines m_str
  have kRL5 : FnOk P w K mg base CX0 (1 + 4 + 1) _ fdLRowLines _ (spRowL (4 + 1)) := ok_rowl1 (n := 4) FLRowLines kRL4 bLRowLines FLRowLines.kp gLRowLines m_str
  have kRL6 : FnOk P w K mg base CX0 (1 + 5 + 1) _ fdLRowLines _ (spRowL (5 + 1)) := ok_rowl1 (n := 5) FLRowLines kRL5 bLRowLines FLRowLines.kp gLRowLines m_str
  have kRL7 : FnOk P w K mg base CX0 (1 + 6 + 1) _ fdLRowLines _ (spRowL (6 + 1)) := ok_rowl1 (n := 6) FLRowLines kRL6 bLRowLines FLRowLines.kp gLRowLines m_str
  have kLProg : FnOk P w K mg base CX0 12 _ fdLProgram _ _ := ok_lprog FLProgram kLNext bLNext FLNext.kp gLNext kLName bLName FLName.kp gLName kLR6 bLRows FLRows.kp gLRows m_range m_tuple
  have kLLines : FnOk P w K mg base CX0 9 _ fdLLines _ _ := ok_llines FLLines kRL7 bLRowLines FLRowLines.kp gLRowLines m_str m_list
  have kLGap : FnOk P w K mg base CX0 3 _ fdLGapped _ _ := ok_lgapped FLGapped kLNext bLNext FLNext.kp gLNext
  exact ok_law FLaw ⟨_, _, kLBegin, bLBegin, FLBegin.kp, gLBegin⟩ ⟨_, _, kLProg, bLProgram, FLProgram.kp, gLProgram⟩ ⟨_, _, kLLines, bLLines, FLLines.kp, gLLines⟩ ⟨_, _, kPText, bProgramText, FProgramText.kp, gProgramText⟩ ⟨_, _, kProgIn, bProgramIn, FProgramIn.kp, gProgramIn⟩ ⟨_, _, kLGap, bLGapped, FLGapped.kp, gLGapped⟩ ⟨_, _, kLExpr, bLExpr, FLExpr.kp, gLExpr⟩ ⟨_, _, kExText, bExprText, FExprText.kp, gExprText⟩ m_range m_repr m_str
end K7
open PySem PySem.W PySem.Calls PyProof.Rows
theorem PySem.Challenge.cw_bitneed_k07_whole_programs_to_text_and_b_holds : PySem.Challenge.rw_bitneed_k07_whole_programs_to_text_and_b.Holds := by
  w_on; o_law
  refine HandSHeadRun.head_any (r := OpenLaw.row PySem.Challenge.rw_bitneed_k07_whole_programs_to_text_and_b) (q := view (OpenLaw.row PySem.Challenge.rw_bitneed_k07_whole_programs_to_text_and_b).prog [37]) (H := K7.hkS) (ob := K7.ob) (M := 6000) (loose := K7.loose) (d := HandSHeadRun.topDef (OpenLaw.row PySem.Challenge.rw_bitneed_k07_whole_programs_to_text_and_b).prog 37) (kwd := []) K7.ob_eq
    (by kernel_rfl) (fun s => by kernel_rfl) K7.run (by kernel_rfl) (by kernel_rfl) (by kernel_rfl) (by rfl) (by first | assumption | decide +kernel) (by decide +kernel) ⟨rfl, rfl, rfl, rfl, rfl, by decide +kernel⟩ ?hw ?hc
  case hw => w_witness2
  case hc =>
    refine K7.walkG (l := PySem.Challenge.rw_bitneed_k07_whole_programs_to_text_and_b) (n := 63) (k := 23) (x := "script") rfl (by decide) (by kernel_rfl) ⟨rfl, by decide, by decide⟩ ?F
    intro w mg f h Y G hmg0
    obtain ⟨K, KX, c⟩ := Y
    have hmg : mg ("law" : PySem.Str) = some (.ref f) := by
      have e : (HandSHeadRun.topDef (OpenLaw.row PySem.Challenge.rw_bitneed_k07_whole_programs_to_text_and_b).prog 37).name = ("law" : PySem.Str) := by kernel_rfl
      rw [← e]
      exact hmg0
    obtain ⟨fd, hb, hF⟩ := K7.facts (P := (PySem.Challenge.rw_bitneed_k07_whole_programs_to_text_and_b).prog) (w := w) KX G hmg c
    exact ⟨K, fd, K7.spLaw K, KX, hb, hF, fun H a ns hl hS => ⟨a, ns, rfl, hS, hl, fun _ => rfl⟩⟩

